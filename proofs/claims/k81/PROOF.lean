import PyProof.Rows.All
import OpenK.KLine
import Wide.FinOn
import KE.KSortTup
import KE.KDictOf
import KE.LcSums
import KE.KIntText
import KE.KNestM
import KE.KRevSl
import KE.KFromBytes
import KE.KItemsList
import KE.KIsAll
import KE.KEqDict
import KE.KLam
import KE.KRevIter
import KE.KMinKey
import PySem.Challenge.RW_foldlog_k81_forms_of_entries
set_option maxHeartbeats 4000000
set_option Elab.async false
set_option linter.all false
set_option maxRecDepth 100000
namespace L2
open PySem PySem.Spec PyProof.Rows
open PySem.W (instObj methodObj Frag lookIn plainGet hasDictIn findIn handedIn plainGet_of isFn plainOver takerIn makesIn emptyDict keepIn kia_one kitx_list kitx_dict callWith_K callWith_K0 fnOf)
abbrev Key:=Sum Int Str
def qhG:Key->Value->Bool
 | .inl k,v=>Value.isInt k v
 | .inr x,v=>Value.isStrOf x v
def qjy (w:World):Key->Int
 | .inl k=>hashInt k
 | .inr x=>hashStr w x
theorem qU:∀ {k:Key}{v:Value},qhG k v=true->(∃ i t,k=Sum.inl i∧v=Value.int i t)∨(∃ x t,k=Sum.inr x∧v=Value.str x t)
 | .inl i,v,h=>by
   obtain⟨t,e⟩:=Value.isInt_shape (k:=i) (v:=v) h;exact .inl ⟨i,t,rfl,e⟩
 | .inr x,v,h=>by
   obtain⟨t,e⟩:=Value.isStrOf_shape (x:=x) (v:=v) h;exact .inr ⟨x,t,rfl,e⟩
theorem qhF (a b:Int):decide ((Sum.inl a:Key)=Sum.inl b)=(a == b):=by
 by_cases e:a=b
 · subst e;simp
 · have h:¬ (Sum.inl a:Key)=Sum.inl b:=fun q=>e (Sum.inl.inj q);rw[decide_eq_false h];exact(beq_eq_false_iff_ne.mpr e).symm
theorem qhC (a b:Str):decide ((Sum.inr a:Key)=Sum.inr b)=decide (a=b):=by
 by_cases e:a=b
 · subst e;simp
 · have h:¬ (Sum.inr a:Key)=Sum.inr b:=fun q=>e (Sum.inr.inj q);rw[decide_eq_false h,decide_eq_false e]
theorem qhE (a:Int) (b:Str):decide ((Sum.inl a:Key)=Sum.inr b)=false:=decide_eq_false (fun q=>nomatch q)
theorem qhD (a:Str) (b:Int):decide ((Sum.inr a:Key)=Sum.inl b)=false:=decide_eq_false (fun q=>nomatch q)
def qbX (prog:Program) (w:World):PySem.KeyKind prog w Key where
 is:=qhG
 hash:=qjy w
 inj:=fun v a b ha hb=>by
   rcases qU ha with ⟨i,t,rfl,rfl⟩|⟨x,t,rfl,rfl⟩
   · rcases qU hb with ⟨j,u,rfl,e⟩|⟨y,u,rfl,e⟩
     · injection e with e1 _;rw[e1]
     · exact nomatch e
   · rcases qU hb with ⟨j,u,rfl,e⟩|⟨y,u,rfl,e⟩
     · exact nomatch e
     · injection e with e1 _;rw[e1]
 byValue:=fun k v h=>by
   rcases qU h with ⟨i,t,rfl,rfl⟩|⟨x,t,rfl,rfl⟩<;>rfl
 pyHash:=fun hv h=>by
   rcases qU hv with ⟨i,t,rfl,rfl⟩|⟨x,t,rfl,rfl⟩
   · exact wpAny_pyHash_int h
   · exact wpAny_pyHash_str h
 eqBool:=fun hu hv h=>by
   rcases qU hu with ⟨i,t,rfl,rfl⟩|⟨x,t,rfl,rfl⟩
   · rcases qU hv with ⟨j,u,rfl,rfl⟩|⟨y,u,rfl,rfl⟩
     · rw[qhF]at h;exact wpAny_eqBool_int h
     · rw[qhE]at h;exact SeqAt.EqAt.int_str i t y u _ _ _ _ h
   · rcases qU hv with ⟨j,u,rfl,rfl⟩|⟨y,u,rfl,rfl⟩
     · rw[qhD]at h;exact SeqAt.EqAt.str_int x t j u _ _ _ _ h
     · rw[qhC]at h;exact wpAny_eqBool_str h
 «strs»:=fun k x t v h=>by
   rcases qU h with ⟨i,u,rfl,e⟩|⟨y,u,rfl,e⟩
   · exact nomatch e
   · injection e with e1 _;subst e1;cases v<;>rfl
inductive V where
 | non|bl (b:Bool)|int (i:Int)|str (x:Str)|byt (b:Array UInt8)|flt (b:UInt64)|ref (a:Addr)|ty (n:String)
 deriving DecidableEq
def RelV:V->Value->Prop
 | .non,u=>u=Value.none
 | .bl b,u=>u=Value.bool b
 | .int i,u=>∃ t,u=Value.int i t
 | .str x,u=>∃ t,u=Value.str x t
 | .byt b,u=>∃ t,u=Value.bytes b t
 | .flt b,u=>∃ t,u=Value.float b t
 | .ref a,u=>u=Value.ref a
 | .ty n,u=>u=Value.type n
abbrev Vals:List V->List Value->Prop:=Paired RelV
theorem Vals.length {xs:List V}{us:List Value} (r:Vals xs us):xs.length=us.length:=Paired.length r
theorem Vals.get:∀ {xs:List V}{us:List Value}{i:Nat}{x:V},Vals xs us->xs[i]?=some x->∃ u,us[i]?=some u∧RelV x u
 | _,_,_,_,.nil,e=>by simp at e
 | _,_,0,_,.cons r _,e=>by simp at e;subst e;exact⟨_,rfl,r⟩
 | _,_,i+1,x,.cons _ t,e=>by
   obtain⟨u,h1,h2⟩:=Vals.get (i:=i) (x:=x) t (by simpa using e);exact⟨u,by simpa using h1,h2⟩
theorem Vals.set {x:V}{u:Value} (r:RelV x u):∀ {xs:List V}{us:List Value} (i:Nat),Vals xs us->Vals (xs.set i x) (us.set i u)
 | _,_,_,.nil=>.nil
 | _,_,0,.cons _ t=>.cons r t
 | _,_,i+1,.cons q t=>.cons q (Vals.set r i t)
theorem Vals.append:∀ {xs ys:List V}{us ws:List Value},Vals xs us->Vals ys ws->Vals (xs++ys) (us++ws)
 | _,_,_,_,.nil,s=>s
 | _,_,_,_,.cons r t,s=>.cons r (Vals.append t s)
theorem Vals.take:∀ {xs:List V}{us:List Value} (n:Nat),Vals xs us->Vals (xs.take n) (us.take n)
 | _,_,0,_=>.nil
 | _,_,_+1,.nil=>.nil
 | _,_,n+1,.cons r t=>.cons r (Vals.take n t)
theorem Vals.drop:∀ {xs:List V}{us:List Value} (n:Nat),Vals xs us->Vals (xs.drop n) (us.drop n)
 | _,_,0,r=>r
 | _,_,_+1,.nil=>.nil
 | _,_,n+1,.cons _ t=>Vals.drop n t
def RelO:Option V->Option Value->Prop
 | some v,some u=>RelV v u
 | none,none=>True
 | _,_=>False
def KV {κ:Type}:List (κ×V)->List (κ×Value)->Prop:=Paired fun (p:κ×V) (q:κ×Value)=>p.1=q.1∧RelV p.2 q.2
def kV:Key->V
 | .inl i=>.int i
 | .inr x=>.str x
inductive HO where
   | lst (xs:List V)
   | tup (xs:List V)
   | dK (kvs:List (Key×V))|dT (kvs:List (List Key×V))
   | set (S:Int->Bool) (n:Nat)
   | ins (C dx:Addr) (fs:List (Str×V))
   | own (x:Addr)
   | xd (fs:List (Str×V))
   | met (f x:Addr)
   | rng (lo hi:Int)
   | frz (o:Obj) (u:HO)
   | tbl (ps:Array Value)
   | ext (φ:Heap->Prop)
abbrev Hp:=Addr->Option HO
def upd (H:Hp) (a:Addr) (o:HO):Hp:=fun b=>if b=a then some o else H b
theorem qe {H:Hp}{a:Addr}{o:HO}:upd H a o a=some o:=by unfold upd;rw[if_pos rfl]
theorem qi {H:Hp}{a b:Addr}{o:HO} (h:b≠a):upd H a o b=H b:=by unfold upd;rw[if_neg h]
theorem qgx {H:Hp}{a b:Addr}{o u:HO} (h:H a=some o) (h':H b=some u) (d:o≠u):a≠b:=by
 intro e;subst e;rw[h]at h';exact d (Option.some.inj h')
theorem qk {H:Hp}{a b:Addr}{o:HO} (h:H a=some o) (h':H b=none):a≠b:=by
 intro e;subst e;rw[h]at h';cases h'
section
variable (P:Program) (w:World)
def ObjOk (H:Hp) (h:Heap) (a:Addr):HO->Prop
 | .lst xs=>xs.length≤sizeLine∧∃ (its:List Value) (n:Nat),Vals xs its∧h.get? a=some { cls:=.type "list",data:=.seq its.toArray n }
 | .tup xs=>xs.length≤sizeLine∧∃ its:List Value,Vals xs its∧IsTup h a its.toArray
 | .dK kvs=>kvs.length≤sizeLine∧(a == sysModules)=false∧∃ vs,KV kvs vs∧h.DictOf (qbX P w) a vs
 | .dT kvs=>kvs.length≤sizeLine∧(a == sysModules)=false∧∃ xs:List (List Key×Addr×Value),
     Paired (fun (p:List Key×V) (q:List Key×Addr×Value)=>p.1=q.1∧H q.2.1=some (.tup (p.1.map kV))∧RelV p.2 q.2.2) kvs xs ∧
     ∃ o es ep,h.get? a=some o∧o.ExactDict∧o.data=.dict es ep∧es.toList=xs.map (entryOfKey (tupleKind (qbX P w)))∧(xs.map (·.1)).Nodup
 | .set S n=>h.SetOf (intKind P w) a S n
 | .ins C dx fs=>H dx=some (.own a)∧fs.length≤1000∧dx≠a∧h.get? a=some (instObj C dx) ∧
     ∃ mA,h.Ns1 dx mA∧(∀ f,RelO (fs.lookup f) (mA f))∧PySem.Within mA (fs.map (·.1))
 | .own _=>∃ o,h.get? a=some o
 | .xd fs=>∃ mA,h.Ns1 a mA∧∀ f,RelO (fs.lookup f) (mA f)
 | .rng lo hi=>∃ t u v,h.get? a=some { cls:=.type "range",data:=.fields #[.int lo t,.int hi u,.int 1 v] }
 | .frz o u=>h.get? a=some o∧ObjOk H h a u
 | .tbl ps=>h.get? a=some { cls:=.none,data:=.fields ps }
 | .met f x=>h.get? a=some (methodObj (.ref f) (.ref x))
 | .ext φ=>φ h∧(∃ o,h.get? a=some o)∧∀ h1 h2:Heap,φ h1->(∀ o,h1.get? a=some o->h2.get? a=some o)->φ h2
def HOk (H:Hp) (h:Heap):Prop:=∀ a o,H a=some o->ObjOk P w H h a o
end
section
variable {P:Program}{w:World}{H H':Hp}{h h':Heap}{a:Addr}{o:HO}
theorem ObjOk.lt (x:ObjOk P w H h a o):a < h.objs.size:=by
 cases o with
 | lst xs=>obtain⟨_,_,_,_,e⟩:=x;exact Heap.lt_size e
 | tup xs=>obtain⟨_,_,_,p⟩:=x;exact p.lt
 | dK kvs=>obtain⟨_,_,_,_,o,_,_,e,_⟩:=x;exact Heap.lt_size e
 | dT kvs=>obtain⟨_,_,_,_,o,_,_,e,_⟩:=x;exact Heap.lt_size e
 | set S n=>obtain⟨o,_,_,_,e,_⟩:=x;exact Heap.lt_size e
 | ins C dx fs=>obtain⟨_,_,_,e,_⟩:=x;exact Heap.lt_size e
 | own y=>obtain⟨_,e⟩:=x;exact Heap.lt_size e
 | xd fs=>obtain⟨_,⟨_,_,_,e,_⟩,_⟩:=x;exact Heap.lt_size e
 | rng lo hi=>obtain⟨_,_,_,e⟩:=x;exact Heap.lt_size e
 | frz ob u=>obtain⟨e,_⟩:=x;exact Heap.lt_size e
 | tbl ps=>exact Heap.lt_size (show h.get? a=some _ from x)
 | met f y=>exact Heap.lt_size (show h.get? a=some _ from x)
 | ext φ=>obtain⟨_,⟨_,e⟩,_⟩:=x;exact Heap.lt_size e
theorem Paired.mapP {α β:Type}{F G:α->β->Prop}:∀ {l₁:List α}{l₂:List β},Paired F l₁ l₂->(∀ a b,F a b->G a b)->Paired G l₁ l₂
 | _,_,.nil,_=>.nil
 | _,_,.cons r t,f=>.cons (f _ _ r) (Paired.mapP t f)
theorem ObjOk.stay (x:ObjOk P w H h a o) (k:∀ b u,(b=a∨H b=some (.own a))->h.get? b=some u->h'.get? b=some u)
   (ho:∀ b,H b=some (.own a)->H' b=some (.own a)) (ht:∀ b xs,H b=some (.tup xs)->H' b=some (.tup xs)):ObjOk P w H' h' a o:=by
 induction o with
 | lst xs=>obtain⟨z,its,n,r,e⟩:=x;exact⟨z,its,n,r,k _ _ (.inl rfl) e⟩
 | tup xs=>obtain⟨z,its,r,ob,e,c⟩:=x;exact⟨z,its,r,ob,k _ _ (.inl rfl) e,c⟩
 | dK kvs=>obtain⟨z,y,vs,r,ob,es,ep,e,c⟩:=x;exact⟨z,y,vs,r,ob,es,ep,k _ _ (.inl rfl) e,c⟩
 | dT kvs =>
   obtain⟨z,y,xs,r,ob,es,ep,e,c⟩:=x;exact⟨z,y,xs,Paired.mapP r fun p q z=>⟨z.1,ht _ _ z.2.1,z.2.2⟩,ob,es,ep,k _ _ (.inl rfl) e,c⟩
 | set S n=>obtain⟨ob,es,ep,t,e,c⟩:=x;exact⟨ob,es,ep,t,k _ _ (.inl rfl) e,c⟩
 | ins C dx fs =>
   obtain⟨d,z,ne,e,mA,⟨od,es,ep,e2,c⟩,r⟩:=x;exact⟨ho _ d,z,ne,k _ _ (.inl rfl) e,mA,⟨od,es,ep,k _ _ (.inr d) e2,c⟩,r⟩
 | own y=>obtain⟨ob,e⟩:=x;exact⟨ob,k _ _ (.inl rfl) e⟩
 | xd fs=>obtain⟨mA,⟨od,es,ep,e,c⟩,r⟩:=x;exact⟨mA,⟨od,es,ep,k _ _ (.inl rfl) e,c⟩,r⟩
 | rng lo hi=>obtain⟨t,u,v,e⟩:=x;exact⟨t,u,v,k _ _ (.inl rfl) e⟩
 | frz ob u ih=>obtain⟨e,q⟩:=x;exact⟨k _ _ (.inl rfl) e,ih q⟩
 | tbl ps =>
   have e:h.get? a=some { cls:=.none,data:=.fields ps }:=x;show h'.get? a=some { cls:=.none,data:=.fields ps };exact k a _ (.inl rfl) e
 | met f y =>
   have e:h.get? a=some (methodObj (.ref f) (.ref y)):=x;show h'.get? a=some (methodObj (.ref f) (.ref y));exact k a _ (.inl rfl) e
 | ext φ=>obtain⟨p,⟨o,e⟩,st⟩:=x;exact⟨st _ _ p fun o q=>k _ _ (.inl rfl) q,⟨o,k _ _ (.inl rfl) e⟩,st⟩
theorem HOk.lt (x:HOk P w H h) (e:H a=some o):a < h.objs.size:=(x a o e).lt
theorem HOk.fresh (x:HOk P w H h) (e:h.objs.size≤a):H a=none:=by
 cases q:H a with
 | none=>rfl
 | some u=>exact absurd (Nat.lt_of_lt_of_le (x.lt q) e) (Nat.lt_irrefl _)
theorem HOk.kept (x:HOk P w H h) (k:∀ b u,h.get? b=some u->h'.get? b=some u):HOk P w H h':=fun a o e =>
 (x a o e).stay (fun b u _ q=>k b u q) (fun _ q=>q) fun _ _ q=>q
theorem HOk.laid (x:HOk P w H h) (k:∀ b u,h.get? b=some u->h'.get? b=some u) (hp:h.objs.size≤a) (new:ObjOk P w (upd H a o) h' a o):HOk P w (upd H a o) h':=fun b u e=>by
 have hn:=x.fresh hp;by_cases hb:b=a
 · subst hb;rw[qe]at e;cases e;exact new
 · rw[qi hb]at e;exact(x b u e).stay (fun c v _ q=>k c v q) (fun c q=>by rw[qi (qk q hn)];exact q) fun c xs q=>by rw[qi (qk q hn)];exact q
end
def Rd (H:Hp) (a:Addr) (u:HO):Prop:=H a=some u∨∃ o,H a=some (.frz o u)
theorem Rd.ok {P:Program}{w:World}{H:Hp}{h:Heap}{a:Addr}{u:HO} (r:Rd H a u) (x:HOk P w H h):ObjOk P w H h a u:=by
 rcases r with r|⟨o,r⟩
 · exact x a u r
 · obtain⟨_,q⟩:=x a _ r;exact q
def Mut:Option HO->Prop
 | some (.lst _)=>True
 | some (.dK _)=>True
 | some (.dT _)=>True
 | some (.set _ _)=>True
 | some (.ins _ _ _)=>True
 | some (.ext _)=>True
 | _=>False
section
variable {P:Program}{w:World}{H:Hp}{h h':Heap}{x e:Addr}{o':HO}
theorem HOk.write (ok:HOk P w H h) (mu:Mut (H x)) (he:e=x∨H e=some (.own x)) (k:∀ b u,b≠e->h.get? b=some u->h'.get? b=some u) (heo:∃ u,h'.get? e=some u)
   (new:ObjOk P w (upd H x o') h' x o'):HOk P w (upd H x o') h':=fun b u q=>by
 have nown:∀ c y,H c=some (.own y)->c≠x:=fun c y r z=>by subst z;rw[r]at mu;exact mu
 have ntup:∀ c xs,H c=some (.tup xs)->c≠x:=fun c xs r z=>by subst z;rw[r]at mu;exact mu
 by_cases hb:b=x
 · subst hb;rw[qe]at q;cases q;exact new
 · rw[qi hb]at q;by_cases hbe:b=e
   · have q':H b=some (.own x):=by
       rcases he with z|z
       · exact absurd (hbe.trans z) hb
       · rw[hbe];exact z
     rw[q]at q';cases q';obtain⟨v,hv⟩:=heo;exact⟨v,by rw[hbe];exact hv⟩
   · refine(ok b u q).stay (fun c v hc r=>k c v ?_ r) (fun c r=>by rw[qi (nown c b r)];exact r) fun c xs r=>by rw[qi (ntup c xs r)];exact r
     rcases hc with rfl|hc
     · exact hbe
     · rintro rfl;rcases he with z|z
       · exact nown c b hc z
       · rw[hc]at z;cases z;exact hb rfl
end
structure Un (fs ex:List Addr) (H H':Hp) (h h':Heap):Prop where
 keep:∀ b o,h.get? b=some o->H b=none->b∉fs->b∉ex->h'.get? b=some o
 slot:∀ b o,h.get? b=some o->H b=none->b∈fs->b∉ex->∃ sl,h'.get? b=some { o with slots:=sl }
 free:∀ b o,h.get? b=some o->H b=none->b∉ex->H' b=none
 there:∀ b o,h.get? b=some o->b∉ex->∃ o',h'.get? b=some o'
 tups:∀ b xs,H b=some (.tup xs)->H' b=some (.tup xs)
 frzs:∀ b o u,H b=some (.frz o u)->H' b=some (.frz o u)
 tbls:∀ b ps,H b=some (.tbl ps)->∃ more,H' b=some (.tbl (ps++more))
section
variable {fs fs' ex ex':List Addr}{H H1 H2:Hp}{h h1 h2 h':Heap}{a x e:Addr}{o:HO}
theorem Un.any (u:Un fs ex H H1 h h1) {b:Addr}{ob:Obj} (q:h.get? b=some ob) (n:H b=none) (hx:b∉ex):∃ sl,h1.get? b=some { ob with slots:=sl }:=by
 by_cases hb:b∈fs
 · exact u.slot b ob q n hb hx
 · exact⟨ob.slots,u.keep b ob q n hb hx⟩
theorem Un.kept (k:∀ b u,h.get? b=some u->h'.get? b=some u):Un fs ex H H h h' :=
 ⟨fun b ob q _ _ _=>k b ob q,fun b ob q _ _ _=>⟨ob.slots,k b ob q⟩,fun _ _ _ n _=>n,fun b ob q _=>⟨ob,k b ob q⟩,fun _ _ q=>q,fun _ _ _ q=>q,fun _ ps q=>⟨#[],by rw[q];simp⟩⟩
theorem Un.refl:Un fs ex H H h h:=Un.kept fun _ _ q=>q
theorem Un.laid (k:∀ b u,h.get? b=some u->h'.get? b=some u) (hp:h.objs.size≤a) (hn:H a=none):Un fs ex H (upd H a o) h h' where
 keep:=fun b u q _ _ _=>k b u q
 slot:=fun b u q _ _ _=>⟨u.slots,k b u q⟩
 free:=fun b u q n _=>by rw[qi (Nat.ne_of_lt (Nat.lt_of_lt_of_le (Heap.lt_size q) hp))];exact n
 there:=fun b u q _=>⟨u,k b u q⟩
 tups:=fun b xs q=>by rw[qi (qk q hn)];exact q
 frzs:=fun b u xs q=>by rw[qi (qk q hn)];exact q
 tbls:=fun b ps q=>⟨#[],by rw[qi (qk q hn),q];simp⟩
theorem Un.write (mu:Mut (H x)) (he:e=x∨H e=some (.own x)) (k:∀ b u,b≠e->h.get? b=some u->h'.get? b=some u) (heo:∃ u,h'.get? e=some u):Un fs ex H (upd H x o) h h':=by
 have hx:∀ b,H b=none->b≠x:=fun b n z=>by subst z;rw[n]at mu;exact mu
 have hb:∀ b,H b=none->b≠e:=fun b n z=>by
   subst z;rcases he with r|r
   · exact hx b n r
   · rw[n]at r;cases r
 have hm:∀ b u,H b=some u->¬ Mut (some u)->b≠x:=fun b u q nm z=>by subst z;rw[q]at mu;exact nm mu
 refine⟨fun b u q n _ _=>k b u (hb b n) q,fun b u q n _ _=>⟨u.slots,k b u (hb b n) q⟩,fun b u q n _=>by rw[qi (hx b n)];exact n,fun b u q _=>?_,
   fun b xs q=>by rw[qi (hm b _ q fun z=>z)];exact q,fun b u xs q=>by rw[qi (hm b _ q fun z=>z)];exact q,fun b ps q=>⟨#[],by rw[qi (hm b _ q fun z=>z),q];simp⟩⟩
 by_cases hbe:b=e
 · subst hbe;exact heo
 · exact⟨u,k b u hbe q⟩
end
def trk (h:Heap) (H:Hp):List Addr:=(List.range h.objs.size).filter fun a=>(H a).isSome
def qeA (h:Heap) (H:Hp):Heap:=PySem.W.hideAll h (trk h H)
theorem qd6 (h:Heap) (H:Hp):(qeA h H).objs.size=h.objs.size:=PySem.W.hideAll_size _ _
theorem qfa {h:Heap}{H:Hp}{b:Addr}{o:Obj} (e:h.get? b=some o) (n:H b=none):(qeA h H).get? b=some o :=
 PySem.W.hideAll_get _ e fun hm=>by
   have q:(H b).isSome=true:=(List.mem_filter.mp hm).2;rw[n]at q;simp at q
theorem qgv {h:Heap}{H:Hp}{b:Addr}{o:Obj} (e:(qeA h H).get? b=some o):h.get? b=some o∧H b=none:=by
 have e':h.get? b=some o:=PySem.W.of_hideAll (trk h H) e;refine⟨e',?_⟩
 cases q:H b with
 | none=>rfl
 | some x =>
   have hm:b∈trk h H:=List.mem_filter.mpr ⟨List.mem_range.mpr (Heap.lt_size e'),by simp[q]⟩;have z:(qeA h H).get? b=none:=PySem.W.hideAll_none (trk h H) hm;rw[z]at e;cases e
structure Mod (K:Frag) (mg:Str->Option Value) (base:Heap):Prop where
 kin:K.In base
 glob:base.Ns mainGlobals mg
 blt:∃ mb,base.Ns builtinsNs mb∧∀ x:Str,x≠"__name__"->mb x=bootBuiltins x
 nolimit:base.NoLimit
structure Cx where
 prog:Program
 w:World
 K:Frag
 mg:Str->Option Value
 base:Heap
 A:Around
 N:List Str
 s₀:Shared
 H₀:Hp
 env:Env
 outer:List Env
 stack:List Env
 ex:List Addr
 fn:Str->Bool
 calm:Bool
 pn:List (Addr×Obj)
 xe:Value->Shared->Prop
def frs (l:List Env):List Addr:=l.filterMap (·.frame)
abbrev Cx.fs (X:Cx):List Addr:=frs X.outer
def Vis (sc:Scope) (x:Str):Prop:=sc.names.lookup x=some .local∨sc.names.lookup x=some .cell∨sc.names.lookup x=some .free
def Loc (sc:Scope) (x:Str):Prop:=sc.names.lookup x=some .local∨sc.names.lookup x=some .cell
def qjH (env:Env) (h:Heap) (m:Str->Option Value) (x:Str) (u:Value):Prop :=
 (env.kindOf x=some .local∧m x=some u)∨((env.kindOf x=some .cell∨env.kindOf x=some .free)∧∃ c,env.cells.lookup x=some c∧h.IsCell c (some u))
structure Cx.Ok (X:Cx):Prop where
 mod:Mod X.K X.mg X.base
 kind:X.env.scope.kind=.function
 glob:X.env.globals=mainGlobals
 blt:X.env.builtins=builtinsNs
 above:X.s₀.heap.objs.size≤X.env.locals
 inj:∀ x y c,X.env.cells.lookup x=some c->X.env.cells.lookup y=some c->x=y
 has:∀ x,(X.env.kindOf x=some .cell∨X.env.kindOf x=some .free)->∃ c,X.env.cells.lookup x=some c
 cab:∀ x c,X.fn x=true->X.env.cells.lookup x=some c->X.s₀.heap.objs.size≤c
 hd:X.calm=true->X.A.handled=none
 frames:X.A.frames=some X.stack
 stk:X.stack=X.outer∨(X.stack=X.env::X.outer∧X.env.frame=some X.env.locals)
 exf:∀ b∈X.ex,b≠X.env.locals∧∀ x c,X.env.cells.lookup x=some c->c≠b
 bs:∀ b o,X.base.get? b=some o->X.s₀.heap.get? b=some o∧X.H₀ b=none
 bsz:X.base.objs.size≤X.s₀.heap.objs.size
 noex:∀ b o,X.base.get? b=some o->b∉X.ex
 exfs:∀ b∈X.ex,b∉X.fs
 funs:X.s₀.heap.FunFrames X.base X.outer
 frf:∀ b∈X.fs,X.H₀ b=none
structure Inv (X:Cx) (pins:List (Addr×Obj)) (σ:List (Option V)) (H:Hp) (s:Shared):Prop where
 ok:X.Ok
 os:s.os=X.s₀.os
 bare:AllBare s.gens
 base:Un X.fs X.ex X.H₀ H X.s₀.heap s.heap
 loc:∃ m,s.heap.Ns X.env.locals m∧∀ (i:Nat) (x:Str) (v:V),X.N[i]?=some x->σ[i]?=some (some v)->Vis X.env.scope x->∃ u,RelV v u∧qjH X.env s.heap m x u
 cell:∀ x c,X.env.cells.lookup x=some c->∃ v,s.heap.IsCell c v
 free:H X.env.locals=none
 freeC:∀ x c,X.env.cells.lookup x=some c->H c=none
 pin:∀ p∈X.pn++pins,s.heap.get? p.1=some p.2∧H p.1=none∧p.1≠X.env.locals∧p.1∉X.fs∧∀ v,p.2.data≠.cell v
 hok:HOk X.prog X.w H s.heap
 len:σ.length=X.N.length
section
variable {X:Cx}{pins:List (Addr×Obj)}{σ:List (Option V)}{H H':Hp}{s:Shared}{h':Heap}
theorem Cx.Ok.nofr (ok:X.Ok) {b:Addr}{o:Obj} (e:X.base.get? b=some o):b∉X.fs:=fun hb=>by
 have:=(ok.funs.mem hb).1
 rw[e]at this;cases this
theorem Inv.bs (I:Inv X pins σ H s):∀ b o,X.base.get? b=some o->s.heap.get? b=some o∧H b=none:=fun b o e =>
 ⟨I.base.keep b o (I.ok.bs b o e).1 (I.ok.bs b o e).2 (I.ok.nofr e) (I.ok.noex b o e),I.base.free b o (I.ok.bs b o e).1 (I.ok.bs b o e).2 (I.ok.noex b o e)⟩
theorem Inv.bk (I:Inv X pins σ H s):∀ b o,X.base.get? b=some o->s.heap.get? b=some o:=fun b o e=>(I.bs b o e).1
theorem Inv.mod (I:Inv X pins σ H s):Mod X.K X.mg X.base:=I.ok.mod
theorem Inv.kIn (I:Inv X pins σ H s):X.K.In s.heap:=I.ok.mod.kin.keeps I.bk
theorem Inv.fr (I:Inv X pins σ H s):∃ m,Fr X.base X.env.locals s.heap m :=
 let ⟨m,hn,_⟩:=I.loc
 ⟨m,hn,I.bk,Nat.le_trans I.ok.bsz I.ok.above⟩
theorem Inv.lt (I:Inv X pins σ H s):X.env.locals < s.heap.objs.size:=let ⟨_,hn,_⟩:=I.loc;hn.lt
theorem Inv.sz (I:Inv X pins σ H s):X.s₀.heap.objs.size≤s.heap.objs.size:=Nat.le_trans I.ok.above (Nat.le_of_lt I.lt)
theorem Inv.nofs (I:Inv X pins σ H s) {a:Addr} (h:s.heap.objs.size≤a):a∉X.fs:=fun hb=>by
 obtain⟨_,o,ho,_⟩:=I.ok.funs.mem hb;exact absurd (Nat.lt_of_lt_of_le (Heap.lt_size ho) (Nat.le_trans I.sz h)) (Nat.lt_irrefl _)
theorem Inv.cne (I:Inv X pins σ H s):∀ x c,X.env.cells.lookup x=some c->c≠X.env.locals:=fun x c e z=>by
 obtain⟨v,o,ho,hd⟩:=I.cell x c e;obtain⟨m,⟨o',es,ep,ho',hd',_⟩,_⟩:=I.loc;rw[z,ho']at ho;cases ho;rw[hd']at hd;cases hd
theorem Inv.funs (I:Inv X pins σ H s):s.heap.FunFrames X.base X.outer:=by
 have all:∀ (l:List Env),(∀ b∈frs l,b∈X.fs)->X.s₀.heap.FunFrames X.base l->s.heap.FunFrames X.base l:=by
   intro l
   induction l with
   | nil=>intro _ _;trivial
   | cons env r ih =>
     intro hs hl;obtain⟨hk,⟨L,o,hf,hn,ho,hd⟩,hr⟩:=hl;have hL:L∈X.fs:=hs L (by unfold frs;rw[List.filterMap_cons,hf];exact List.mem_cons_self);obtain⟨sl,e⟩:=I.base.slot L o ho (I.ok.frf L hL) hL fun z=>I.ok.exfs L z hL;exact⟨hk,⟨L,_,hf,hn,e,hd⟩,ih (fun b hb=>hs b (by unfold frs;rw[List.filterMap_cons,hf];exact List.mem_cons_of_mem _ hb)) hr⟩
 exact all X.outer (fun _ hb=>hb) I.ok.funs
theorem Inv.stack (I:Inv X pins σ H s):s.heap.FunFrames X.base X.stack:=by
 rcases I.ok.stk with e|⟨e,hf⟩
 · rw[e];exact I.funs
 · rw[e];obtain⟨m,hn,_⟩:=I.loc;refine .cons (by rw[I.ok.kind];decide) hf hn ?_ I.funs;exact Heap.get?_none_of_le (Nat.le_trans I.ok.bsz I.ok.above)
theorem Inv.stkSub (I:Inv X pins σ H s):∀ b∈frs X.stack,b∈X.env.locals::X.fs:=fun b hb=>by
 rcases I.ok.stk with e|⟨e,hf⟩
 · rw[e]at hb;exact List.mem_cons_of_mem _ hb
 · rw[e]at hb;unfold frs at hb;rw[List.filterMap_cons,hf]at hb;exact hb
theorem Inv.stkFree (I:Inv X pins σ H s):∀ b∈frs X.stack,H b=none:=fun b hb=>by
 rcases List.mem_cons.mp (I.stkSub b hb) with e|hb
 · rw[e];exact I.free
 · obtain⟨_,o,ho,_⟩:=I.ok.funs.mem hb;exact I.base.free b o ho (I.ok.frf b hb) fun z=>I.ok.exfs b z hb
theorem Inv.step {g':Array GenState}{t':Nat}{d':Drawn}{ch:List Addr} (I:Inv X pins σ H s)
   (hch:∀ b∈ch,(b∈X.ex∨X.s₀.heap.objs.size≤b)∧b≠X.env.locals∧(∀ x c,X.env.cells.lookup x=some c->c≠b)∧∀ p∈X.pn++pins,p.1≠b)
   (keep:∀ b o,b≠X.env.locals->b∉X.fs->b∉ch->s.heap.get? b=some o->H b=none->h'.get? b=some o)
   (slot:∀ b o,b≠X.env.locals->b∈X.fs->b∉ch->s.heap.get? b=some o->H b=none->∃ sl,h'.get? b=some { o with slots:=sl }) (free:∀ b o,b∉ch->s.heap.get? b=some o->H b=none->H' b=none)
   (there:∀ b o,b∉ch->s.heap.get? b=some o->∃ o',h'.get? b=some o')
   (tups:∀ b xs,H b=some (.tup xs)->H' b=some (.tup xs)) (frzs:∀ b o u,H b=some (.frz o u)->H' b=some (.frz o u)) (tbls:∀ b ps,H b=some (.tbl ps)->∃ more,H' b=some (.tbl (ps++more)))
   (ns:∀ m,s.heap.Ns X.env.locals m->h'.Ns X.env.locals m) (hok:HOk X.prog X.w H' h') (hg:AllBare g') :
   Inv X pins σ H' { s with heap:=h',gens:=g',drawn:=d',toks:=t' }:=by
 have neL:∀ b o,X.s₀.heap.get? b=some o->b≠X.env.locals:=fun b o e=>Nat.ne_of_lt (Nat.lt_of_lt_of_le (Heap.lt_size e) I.ok.above)
 have neC:∀ b o,X.s₀.heap.get? b=some o->b∉X.ex->b∉ch:=fun b o e hx hb=>by
   rcases (hch b hb).1 with z|z
   · exact hx z
   · exact absurd (Nat.lt_of_lt_of_le (Heap.lt_size e) z) (Nat.lt_irrefl _)
 have cellK:∀ x c,X.env.cells.lookup x=some c->∀ v,s.heap.IsCell c v->h'.IsCell c v:=fun x c e v ⟨o,ho,hd⟩=>by
   have nch:c∉ch:=fun z=>(hch c z).2.2.1 x c e rfl;by_cases hc:c∈X.fs
   · obtain⟨sl,q⟩:=slot c o (I.cne x c e) hc nch ho (I.freeC x c e);exact⟨_,q,hd⟩
   · exact⟨o,keep c o (I.cne x c e) hc nch ho (I.freeC x c e),hd⟩
 refine⟨I.ok,I.os,hg,⟨fun b o e n hb hx=>?_,fun b o e n hb hx=>?_,fun b o e n hx=>?_,fun b o e hx=>?_,fun b xs e=>tups b xs (I.base.tups b xs e),fun b o xs e=>frzs b o xs (I.base.frzs b o xs e),fun b ps e=>?_⟩,?_,fun x c e=>?_,?_,fun x c e=>?_,fun p hp=>?_,hok,I.len⟩
 · exact keep b o (neL b o e) hb (neC b o e hx) (I.base.keep b o e n hb hx) (I.base.free b o e n hx)
 · obtain⟨sl,e1⟩:=I.base.slot b o e n hb hx;obtain⟨sl',e2⟩:=slot b _ (neL b o e) hb (neC b o e hx) e1 (I.base.free b o e n hx);exact⟨sl',e2⟩
 · obtain⟨o',e1⟩:=I.base.there b o e hx;exact free b o' (neC b o e hx) e1 (I.base.free b o e n hx)
 · obtain⟨o',e1⟩:=I.base.there b o e hx;exact there b o' (neC b o e hx) e1
 · obtain⟨m1,e1⟩:=I.base.tbls b ps e;obtain⟨m2,e2⟩:=tbls b _ e1;exact⟨m1++m2,by rw[e2,Array.append_assoc]⟩
 · obtain⟨m,hn,hl⟩:=I.loc;refine⟨m,ns m hn,fun i x v e1 e2 e3=>?_⟩;obtain⟨u,r,l⟩:=hl i x v e1 e2 e3;refine⟨u,r,?_⟩;rcases l with l|⟨k,c,e,z⟩
   · exact .inl l
   · exact .inr ⟨k,c,e,cellK x c e _ z⟩
 · obtain⟨v,z⟩:=I.cell x c e;exact⟨v,cellK x c e v z⟩
 · obtain⟨m,⟨o,_,_,ho,_⟩,_⟩:=I.loc;exact free _ o (fun z=>(hch _ z).2.1 rfl) ho I.free
 · obtain⟨v,o,ho,hd⟩:=I.cell x c e;exact free c o (fun z=>(hch c z).2.2.1 x c e rfl) ho (I.freeC x c e)
 · obtain⟨e,n,ne,nf,d⟩:=I.pin p hp;have nch:p.1∉ch:=fun z=>(hch p.1 z).2.2.2 p hp rfl;exact⟨keep p.1 p.2 ne nf nch e n,free p.1 p.2 nch e n,ne,nf,d⟩
theorem Inv.un {t':Nat} (I:Inv X pins σ H s) (u:Un X.fs [] H H' s.heap h') (hok:HOk X.prog X.w H' h'):Inv X pins σ H' { s with heap:=h',toks:=t' }:=by
 obtain⟨m,⟨o,es,ep,ho,r⟩,_⟩:=id I.loc;obtain⟨sl,hL⟩:=u.any ho I.free (by simp)
 exact I.step (g':=s.gens) (d':=s.drawn) (ch:=[]) (fun _ z=>nomatch z) (fun b o _ hb _ e n=>u.keep b o e n hb (by simp)) (fun b o _ hb _ e n=>u.slot b o e n hb (by simp)) (fun b o _ e n=>u.free b o e n (by simp)) (fun b o _ e=>u.there b o e (by simp)) u.tups u.frzs u.tbls (fun m' hm=>by
   obtain⟨o',es',ep',ho',r'⟩:=hm;rw[ho]at ho';cases ho'
   exact⟨_,es',ep',hL,r'⟩) hok I.bare
theorem Inv.call {g':Array GenState}{t':Nat}{d':Drawn}{ch:List Addr} (I:Inv X pins σ H s) (u:Un (frs X.stack) ch H H' s.heap h') (hok:HOk X.prog X.w H' h') (hg:AllBare g')
   (hch:∀ b∈ch,(b∈X.ex∨X.s₀.heap.objs.size≤b)∧b≠X.env.locals∧(∀ x c,X.env.cells.lookup x=some c->c≠b)∧∀ p∈X.pn++pins,p.1≠b) :
   Inv X pins σ H' { s with heap:=h',gens:=g',drawn:=d',toks:=t' }:=by
 obtain⟨m,⟨o,es,ep,ho,r⟩,_⟩:=id I.loc;obtain⟨sl,hL⟩:=u.any ho I.free fun z=>(hch _ z).2.1 rfl
 exact I.step (ch:=ch) hch (fun b o hL hb hc e n=>u.keep b o e n (fun z=>(List.mem_cons.mp (I.stkSub b z)).elim hL hb) hc) (fun b o _ _ hc e n=>u.any e n hc) (fun b o hc e n=>u.free b o e n hc) (fun b o hc e=>u.there b o e hc) u.tups u.frzs u.tbls (fun m' hm=>by
   obtain⟨o',es',ep',ho',r'⟩:=hm;rw[ho]at ho';cases ho'
   exact⟨_,es',ep',hL,r'⟩) hok hg
theorem Inv.turned {t':Nat}{it:Addr} (I:Inv X pins σ H s) (k:∀ b o,b≠it->s.heap.get? b=some o->h'.get? b=some o) (hn:H it=none) (hL:it≠X.env.locals)
   (h1:it∈X.ex∨X.s₀.heap.objs.size≤it) (h2:∀ x c,X.env.cells.lookup x=some c->c≠it) (h3:∀ p∈X.pn++pins,p.1≠it):Inv X pins σ H { s with heap:=h',toks:=t' }:=by
 have nit:∀ b u,H b=some u->b≠it:=fun b u e z=>by rw[z,hn]at e;cases e
 refine I.step (g':=s.gens) (d':=s.drawn) (ch:=[it]) (fun b hb=>?_) (fun b o _ _ hc e _=>k b o (fun z=>hc (by simp[z])) e) (fun b o _ _ hc e _=>⟨o.slots,k b o (fun z=>hc (by simp[z])) e⟩) (fun _ _ _ _ n=>n)
   (fun b o hc e=>⟨o,k b o (fun z=>hc (by simp[z])) e⟩) (fun _ _ e=>e) (fun _ _ _ e=>e) (fun b ps e=>⟨#[],by rw[e];simp⟩) (fun m hm=>?_) (fun b u e=>?_) I.bare
 · have e:b=it:=by simpa using hb
   subst e;exact⟨h1,hL,h2,h3⟩
 · obtain⟨o,es,ep,ho,r⟩:=hm;exact⟨o,es,ep,k _ o (Ne.symm hL) ho,r⟩
 · refine(I.hok b u e).stay (fun c v hc q=>k c v ?_ q) (fun _ q=>q) fun _ _ q=>q;rcases hc with z|z
   · rw[z];exact nit b u e
   · exact nit c _ z
theorem Inv.tok (I:Inv X pins σ H s) (t:Nat):Inv X pins σ H { s with toks:=t }:=I.un (h':=s.heap) (t':=t) Un.refl I.hok
theorem Inv.kept {t':Nat} (I:Inv X pins σ H s) (k:∀ b u,s.heap.get? b=some u->h'.get? b=some u):Inv X pins σ H { s with heap:=h',toks:=t' }:=I.un (Un.kept k) (I.hok.kept k)
theorem Inv.laid {a:Addr}{o:HO}{t':Nat} (I:Inv X pins σ H s) (k:∀ b u,s.heap.get? b=some u->h'.get? b=some u) (hp:s.heap.objs.size≤a) (new:ObjOk X.prog X.w (upd H a o) h' a o) :
   Inv X pins σ (upd H a o) { s with heap:=h',toks:=t' }:=I.un (Un.laid k hp (I.hok.fresh hp)) (I.hok.laid k hp new)
theorem Inv.write {x e:Addr}{o:HO}{t':Nat} (I:Inv X pins σ H s) (mu:Mut (H x)) (he:e=x∨H e=some (.own x)) (k:∀ b u,b≠e->s.heap.get? b=some u->h'.get? b=some u) (heo:∃ u,h'.get? e=some u)
   (new:ObjOk X.prog X.w (upd H x o) h' x o):Inv X pins σ (upd H x o) { s with heap:=h',toks:=t' }:=I.un (Un.write mu he k heo) (I.hok.write mu he k heo new)
theorem Inv.pins_of {pins':List (Addr×Obj)} (I:Inv X pins σ H s) (h:∀ p∈pins',s.heap.get? p.1=some p.2∧H p.1=none∧p.1≠X.env.locals∧p.1∉X.fs∧∀ v,p.2.data≠.cell v):Inv X pins' σ H s :=
 ⟨I.ok,I.os,I.bare,I.base,I.loc,I.cell,I.free,I.freeC,fun p hp=>(List.mem_append.mp hp).elim (fun z=>I.pin p (List.mem_append_left _ z)) (h p),I.hok,I.len⟩
theorem qcr {N:List Str} (hN:N.Nodup) {i j:Nat}{x:Str} (a:N[i]?=some x) (b:N[j]?=some x):i=j:=by
 obtain⟨h1,e1⟩:=List.getElem?_eq_some_iff.mp a;obtain⟨h2,e2⟩:=List.getElem?_eq_some_iff.mp b;exact(List.getElem_inj hN).mp (e1.trans e2.symm)
theorem qdo {M:Model}{A:Around}{E:Value->Shared->Prop}{i:Nat}{x:Str}{v:V}{u:Value}{Q:Unit->Shared->Prop} (I:Inv X pins σ H s) (hN:X.N.Nodup) (hi:X.N[i]?=some x) (hx:Loc X.env.scope x) (r:RelV v u)
   (h:∀ s',Inv X pins (σ.set i (some v)) H s'->(∃ a,Heap.SameBut a s.heap s'.heap∧(a=X.env.locals∨X.env.cells.lookup x=some a))->Q () s') (hf:X.fn x=true∨X.env.scope.names.lookup x=some .local:=by first|exact .inl rfl|exact .inr rfl|assumption):wpAny M A (storeName X.env x u) Q E s:=by
 obtain⟨m,hn,hl⟩:=id I.loc;have hcls:(X.env.scope.kind == .class || (X.env.scope.kind == .module && X.env.locals != X.env.globals))=false:=by rw[I.ok.kind];rfl
 have hiσ:i < σ.length:=by rw[I.len];exact(List.getElem?_eq_some_iff.mp hi).1
 have cne:=I.cne
 have tracked:∀ {a:Addr}{h':Heap},(∃ o,s.heap.get? a=some o∧H a=none)->Heap.SameBut a s.heap h'->HOk X.prog X.w H h':=fun {a h'} ha hs b ob e=>by
   obtain⟨_,_,hfree⟩:=ha;refine(I.hok b ob e).stay (fun c w' hc q=>(hs.2 c ?_).trans q) (fun _ q=>q) fun _ _ q=>q;rintro rfl;rcases hc with rfl|hc
   · rw[hfree]at e;cases e
   · rw[hfree]at hc;cases hc
 rcases hx with hk|hk
 · refine wpAny_storeName_local hk hn (fun h' hn' hs=>?_) hcls;obtain⟨oL,_,_,hoL,_⟩:=id hn;refine h _ ⟨I.ok,I.os,I.bare,⟨fun b o e n hb hx=>?_,fun b o e n hb hx=>?_,I.base.free,fun b o e hx=>?_,I.base.tups,I.base.frzs,I.base.tbls⟩,⟨_,hn',fun j y v' e1 e2 e3=>?_⟩,fun y c e=>?_,I.free,I.freeC,fun p hp=>?_,tracked ⟨oL,hoL,I.free⟩ hs,by simpa using I.len⟩ ⟨_,hs,.inl rfl⟩
   · exact(hs.2 b (Nat.ne_of_lt (Nat.lt_of_lt_of_le (Heap.lt_size e) I.ok.above))).trans (I.base.keep b o e n hb hx)
   · obtain⟨sl,e1⟩:=I.base.slot b o e n hb hx;exact⟨sl,(hs.2 b (Nat.ne_of_lt (Nat.lt_of_lt_of_le (Heap.lt_size e) I.ok.above))).trans e1⟩
   · obtain⟨o',e1⟩:=I.base.there b o e hx;exact⟨o',(hs.2 b (Nat.ne_of_lt (Nat.lt_of_lt_of_le (Heap.lt_size e) I.ok.above))).trans e1⟩
   · by_cases hj:j=i
     · subst hj;rw[hi]at e1;cases e1;rw[List.getElem?_set_self hiσ]at e2;cases e2;exact⟨u,r,.inl ⟨hk,by simp⟩⟩
     · rw[List.getElem?_set_ne (Ne.symm hj)]at e2;obtain⟨u',r',q⟩:=hl j y v' e1 e2 e3;refine⟨u',r',?_⟩;rcases q with ⟨k,e⟩|⟨k,c,e,z⟩
       · refine .inl ⟨k,?_⟩
         have:y≠x:=fun e=>hj (qcr hN e1 (e▸hi))
         simp[this,e]
       · exact .inr ⟨k,c,e,z.sameBut hs (cne y c e)⟩
   · obtain⟨w',z⟩:=I.cell y c e;exact⟨w',z.sameBut hs (cne y c e)⟩
   · obtain⟨e,n,ne,nf,d⟩:=I.pin p hp;exact⟨(hs.2 p.1 ne).trans e,n,ne,nf,d⟩
 · have hfn:X.fn x=true:=by
     rcases hf with z|z
     · exact z
     · rw[z]at hk;cases hk
   obtain⟨c,hc⟩:=I.ok.has x (.inl hk);obtain⟨w',z⟩:=I.cell x c hc;refine wpAny_storeName_cell I.ok.kind hk hc z (fun h' hc' hs=>?_);obtain⟨oc,hoc,hocd⟩:=id z;refine h { s with heap:=h' } ⟨I.ok,I.os,I.bare,⟨fun b o e n hb hx=>?_,fun b o e n hb hx=>?_,I.base.free,fun b o e hx=>?_,I.base.tups,I.base.frzs,I.base.tbls⟩,⟨m,hn.sameBut hs (Ne.symm (cne x c hc)),fun j y v' e1 e2 e3=>?_⟩,fun y c' e=>?_,I.free,I.freeC,fun p hp=>?_,tracked ⟨oc,hoc,I.freeC x c hc⟩ hs,by simpa using I.len⟩ ⟨c,hs,.inr hc⟩
   · exact(hs.2 b (Nat.ne_of_lt (Nat.lt_of_lt_of_le (Heap.lt_size e) (I.ok.cab x c hfn hc)))).trans (I.base.keep b o e n hb hx)
   · obtain⟨sl,e1⟩:=I.base.slot b o e n hb hx;exact⟨sl,(hs.2 b (Nat.ne_of_lt (Nat.lt_of_lt_of_le (Heap.lt_size e) (I.ok.cab x c hfn hc)))).trans e1⟩
   · obtain⟨o',e1⟩:=I.base.there b o e hx;exact⟨o',(hs.2 b (Nat.ne_of_lt (Nat.lt_of_lt_of_le (Heap.lt_size e) (I.ok.cab x c hfn hc)))).trans e1⟩
   · by_cases hj:j=i
     · subst hj;rw[hi]at e1;cases e1;rw[List.getElem?_set_self hiσ]at e2;cases e2;exact⟨u,r,.inr ⟨.inl hk,c,hc,hc'⟩⟩
     · rw[List.getElem?_set_ne (Ne.symm hj)]at e2;obtain⟨u',r',q⟩:=hl j y v' e1 e2 e3;refine⟨u',r',?_⟩;rcases q with q|⟨k,c',e,z'⟩
       · exact .inl q
       · refine .inr ⟨k,c',e,z'.sameBut hs ?_⟩;rintro rfl;exact hj (qcr hN e1 (I.ok.inj _ _ _ e hc▸hi))
   · by_cases hcc:c'=c
     · subst hcc;exact⟨_,hc'⟩
     · obtain⟨w2,z2⟩:=I.cell y c' e;exact⟨w2,z2.sameBut hs hcc⟩
   · obtain⟨e,n,ne,nf,d⟩:=I.pin p hp;refine⟨(hs.2 p.1 ?_).trans e,n,ne,nf,d⟩;intro q;rw[q,hoc]at e;have q':oc=p.2:=Option.some.inj e;exact d w' (by rw[← q'];exact hocd)
theorem jW {M:Model}{A:Around}{E:Value->Shared->Prop}{i:Nat}{x:Str}{v:V}{u:Value}{Q:Unit->Shared->Prop} (I:Inv X pins σ H s) (hN:X.N.Nodup) (hi:X.N[i]?=some x) (hx:Loc X.env.scope x) (r:RelV v u)
   (h:∀ s',Inv X pins (σ.set i (some v)) H s'->Q () s') (hf:X.fn x=true∨X.env.scope.names.lookup x=some .local:=by first|exact .inl rfl|exact .inr rfl|assumption):wpAny M A (storeName X.env x u) Q E s :=
 qdo I hN hi hx r (fun s' I' _=>h s' I') hf
theorem Inv.call' {s':Shared}{ch:List Addr} (I:Inv X pins σ H s) (ho:s'.os=s.os) (u:Un (frs X.stack) ch H H' s.heap s'.heap) (hok:HOk X.prog X.w H' s'.heap) (hg:AllBare s'.gens)
   (hch:∀ b∈ch,(b∈X.ex∨X.s₀.heap.objs.size≤b)∧b≠X.env.locals∧(∀ x c,X.env.cells.lookup x=some c->c≠b)∧∀ p∈X.pn++pins,p.1≠b):Inv X pins σ H' s':=by
 obtain⟨h',g',d',t',o'⟩:=s';have e:o'=s.os:=ho;subst e;exact I.call (g':=g') (t':=t') (d':=d') u hok hg hch
end
abbrev XK:=Value->Option Addr->Hp->Prop
abbrev St:=List (Option V)
abbrev VK:=V->Hp->Prop
abbrev TE:=St->Hp->VK->Prop
abbrev TT:=St->Hp->(Bool->Hp->Prop)->Prop
abbrev TA:=St->Hp->(List V->Hp->Prop)->Prop
structure qc5 where
 nx:St->Hp->Prop
 rt:VK
 bk:St->Hp->Prop:=fun _ _=>False
 ct:St->Hp->Prop:=fun _ _=>False
abbrev TS:=qc5->St->Hp->Prop
inductive qjg (X:Cx) (pins:List (Addr×Obj)) (σ:St) (Q:VK) (u:Value) (s':Shared):Prop
 | mk (v H':_) (h1:Inv X pins σ H' s') (h2:RelV v u) (h3:Q v H'):qjg X pins σ Q u s'
def EP (X:Cx) (pins:List (Addr×Obj)) (σ:St) (Q:VK) (u:Value) (s':Shared):Prop:=qjg X pins σ Q u s'
def TP (X:Cx) (pins:List (Addr×Obj)) (σ:St) (Q:Bool->Hp->Prop) (b:Bool) (s':Shared):Prop:=∃ H',Inv X pins σ H' s'∧Q b H'
inductive qjh (X:Cx) (pins:List (Addr×Obj)) (σ:St) (Q:List V->Hp->Prop) (us:List Value) (s':Shared):Prop
 | mk (vs H':_) (h1:Inv X pins σ H' s') (h2:Vals vs us) (h3:Q vs H'):qjh X pins σ Q us s'
def AP (X:Cx) (pins:List (Addr×Obj)) (σ:St) (Q:List V->Hp->Prop) (us:List Value) (s':Shared):Prop:=qjh X pins σ Q us s'
def SP (X:Cx) (pins:List (Addr×Obj)) (D:qc5) (f:Flow) (s':Shared):Prop :=
 match f with
 | .next=>∃ σ' H',Inv X pins σ' H' s'∧D.nx σ' H'
 | .brk=>∃ σ' H',Inv X pins σ' H' s'∧D.bk σ' H'
 | .cont=>∃ σ' H',Inv X pins σ' H' s'∧D.ct σ' H'
 | .ret u=>∃ v σ' H',Inv X pins σ' H' s'∧RelV v u∧D.rt v H'
def PE (X:Cx) (e:Expr) (t:TE):Prop :=
 ∀ (pins:List (Addr×Obj)) (s:Shared) (σ:St) (H:Hp) (Q:VK),Inv X pins σ H s->t σ H Q->wpAny (model X.prog X.w) X.A (eval e X.env) (EP X pins σ Q) X.xe s
def PT (X:Cx) (e:Expr) (t:TT):Prop :=
 ∀ (pins:List (Addr×Obj)) (s:Shared) (σ:St) (H:Hp) (Q:Bool->Hp->Prop),Inv X pins σ H s->t σ H Q->wpAny (model X.prog X.w) X.A (isTrue e X.env (eval e X.env)) (TP X pins σ Q) X.xe s
def PW (X:Cx) (e:Expr) (t:TT):Prop :=
 ∀ (whole:Sem Value) (pins:List (Addr×Obj)) (s:Shared) (σ:St) (H:Hp) (Q:Bool->Hp->Prop),Inv X pins σ H s->t σ H Q->wpAny (model X.prog X.w) X.A (isTrue e X.env whole) (TP X pins σ Q) X.xe s
theorem PW.pt {X:Cx}{e:Expr}{t:TT} (h:PW X e t):PT X e t:=h _
def PA (X:Cx) (es:List Expr) (t:TA):Prop :=
 ∀ (pos:Pos) (pins:List (Addr×Obj)) (s:Shared) (σ:St) (H:Hp) (Q:List V->Hp->Prop),Inv X pins σ H s->t σ H Q->wpAny (model X.prog X.w) X.A (spliced (backTo pos (starEach es X.env))) (AP X pins σ Q) X.xe s
def PS (X:Cx) (st:Stmt) (t:TS):Prop :=
 ∀ (pins:List (Addr×Obj)) (s:Shared) (σ:St) (H:Hp) (D:qc5),Inv X pins σ H s->t D σ H->wpAny (model X.prog X.w) X.A (exec st X.env) (SP X pins D) X.xe s
def PSs (X:Cx) (st:List Stmt) (t:TS):Prop :=
 ∀ (pins:List (Addr×Obj)) (s:Shared) (σ:St) (H:Hp) (D:qc5),Inv X pins σ H s->t D σ H->wpAny (model X.prog X.w) X.A (execs st X.env) (SP X pins D) X.xe s
theorem thn {α:Type}{t:Sem α}{Q Q':α->Shared->Prop}{M:Model}{A:Around}{E:Value->Shared->Prop}{s:Shared} (h:wpAny M A t Q E s) (hQ:∀ a s,Q a s->Q' a s):wpAny M A t Q' E s:=wpAny_mono h hQ fun _ _ x=>x
section
variable {X:Cx}
inductive qfp (i:Nat) (σ:St) (H:Hp) (Q:VK):Prop
 | mk (v:_) (h1:σ[i]?=some (some v)) (h2:Q v H):qfp i σ H Q
def qh0 (i:Nat):TE:=fun σ H Q=>qfp i σ H Q
def tC (v:V):TE:=fun _ H Q=>Q v H
theorem qhm {i:Nat}{x:Str}{pos:Pos} (hN:X.N[i]?=some x) (hv:Vis X.env.scope x) (hd:(x == ("__debug__":Str))=false:=by decide) (hcd:(x == ("__classdict__":Str))=false:=by decide):PE X (.Name x pos) (qh0 i):=by
 intro pins s σ H Q I h;obtain⟨v,e,h⟩:=h;obtain⟨m,hn,hl⟩:=I.loc;obtain⟨u,r,l⟩:=hl i x v hN e hv;have fin:EP X pins σ Q u s:=⟨v,H,I,r,h⟩
 rcases l with ⟨hk,hm⟩|⟨hk,c,hc,hcell⟩
 · exact wpAny_Name (wpAny_loadName_local I.ok.kind hk hn hm fin) hd
 · rcases hk with hk|hk
   · exact wpAny_Name (wpAny_loadName_cell I.ok.kind hk hc hcell fin) hd
   · exact wpAny_Name (wpAny_loadName_free I.ok.kind hk hc hcell fin hcd) hd
theorem qd {i j pos}:PE X (.Constant (.int i) j pos) (tC (.int i)):=fun _ _ _ H _ I h=>wpAny_Constant_int ⟨.int i,H,I.tok _,⟨_,rfl⟩,h⟩
theorem jQ {b j pos}:PE X (.Constant (.bool b) j pos) (tC (.bl b)):=fun _ _ _ H _ I h=>Constant_bool ⟨.bl b,H,I,rfl,h⟩
theorem qt {x j pos}:PE X (.Constant (.str x) j pos) (tC (.str x)):=fun _ _ _ H _ I h=>Calls.Constant_str ⟨.str x,H,I.tok _,⟨_,rfl⟩,h⟩
def Gl (X:Cx) (x:Str):Prop:=X.env.kindOf x=some .globalImplicit
theorem QU {E:Value->Shared->Prop}{pins:List (Addr×Obj)}{s:Shared}{σ:St}{H:Hp}{x:Str}{u:Value}{pos:Pos}{Q:Value->Shared->Prop} (I:Inv X pins σ H s) (hg:Gl X x) (hm:X.mg x=some u) (h:Q u s)
   (hd:(x == ("__debug__":Str))=false:=by decide):wpAny (model X.prog X.w) X.A (eval (.Name x pos) X.env) Q E s :=
 Calls.Name_function_global I.ok.kind hg (Calls.loadGlobal_global (by rw[I.ok.glob];exact I.mod.glob.keeps I.bk) hm h) hd
theorem qal {E:Value->Shared->Prop}{pins:List (Addr×Obj)}{s:Shared}{σ:St}{H:Hp}{x:Str}{u:Value}{pos:Pos}{Q:Value->Shared->Prop} (I:Inv X pins σ H s) (hg:Gl X x) (hm:X.mg x=none) (hv:bootBuiltins x=some u) (h:Q u s)
   (hn:x≠"__name__":=by decide) (hd:(x == ("__debug__":Str))=false:=by decide):wpAny (model X.prog X.w) X.A (eval (.Name x pos) X.env) Q E s:=by
 obtain⟨mb,h1,h2⟩:=I.mod.blt;exact Calls.Name_function_global I.ok.kind hg (Calls.loadGlobal_builtin (by rw[I.ok.glob];exact I.mod.glob.keeps I.bk) hm (by rw[I.ok.blt];exact h1.keeps I.bk) ((h2 x hn).trans hv) h) hd
theorem qH {x:Str}{v:V}{u:Value}{pos:Pos} (hg:Gl X x) (hm:X.mg x=some u) (r:RelV v u) (hd:(x == ("__debug__":Str))=false:=by decide):PE X (.Name x pos) (tC v) :=
 fun _ _ _ H _ I h=>QU I hg hm ⟨v,H,I,r,h⟩ hd
theorem zX {x:Str}{v:V}{u:Value}{pos:Pos} (hg:Gl X x) (hm:X.mg x=none) (hv:bootBuiltins x=some u) (r:RelV v u) (hn:x≠"__name__":=by decide) (hd:(x == ("__debug__":Str))=false:=by decide):PE X (.Name x pos) (tC v) :=
 fun _ _ _ H _ I h=>qal I hg hm hv ⟨v,H,I,r,h⟩ hn hd
variable {a b:Expr}{ta tb:TE}{pos:Pos}
inductive qiT (Q:(Bool->Hp->Prop)) (x:V) (H1:Hp):Prop
 | mk (c:_) (h1:x=.bl c) (h2:Q c H1):qiT Q x H1
def tB (t:TE):TT:=fun σ H Q=>t σ H fun x H1=>qiT Q x H1
theorem qM {e:Expr}{t:TE} (h:PE X e t) (he:∀ whole,isTrue e X.env whole=(do let v ← whole;standAt e.pos;holding [v] (truthy v)):=by intro _;rfl):PT X e (tB t):=by
 intro pins s σ H Q I hw;refine isTrue_plain (thn (h pins s σ H _ I hw) fun v s1 zz_=>?_) (he _);obtain⟨x,H1,I1,r1,q1⟩:=zz_;obtain⟨d,rfl,q⟩:=q1;cases r1;exact wpAny_truthy_bool ⟨H1,I1,q⟩
variable {tA tB':TT}{rest:List Expr}
def qjq (t u:TT):TT:=fun σ H Q=>t σ H fun c H1=>if c=true then u σ H1 Q else Q false H1
def tOr (t u:TT):TT:=fun σ H Q=>t σ H fun c H1=>if c=true then Q true H1 else u σ H1 Q
def qjl (t:TT):TT:=fun σ H Q=>t σ H fun c H1=>Q (!c) H1
theorem qdA (ha:PT X a tA):PW X (.BoolOp .And [a] pos) tA:=by
 intro wh pins s σ H Q I h;refine isTrue_and (thn (ha pins s σ H Q I h) fun c s1 e=>?_)
 cases c with
 | true=>exact isTrue_and_nil e
 | false=>exact e
theorem Zi (ha:PT X a tA):PW X (.BoolOp .Or [a] pos) tA:=by
 intro wh pins s σ H Q I h;refine isTrue_or (thn (ha pins s σ H Q I h) fun c s1 e=>?_)
 cases c with
 | false=>exact isTrue_or_nil e
 | true=>exact e
theorem qfB (ha:PT X a tA) (hb:PW X (.BoolOp .And (b::rest) pos) tB'):PW X (.BoolOp .And (a::b::rest) pos) (qjq tA tB'):=by
 intro wh pins s σ H Q I h;refine isTrue_and (thn (ha pins s σ H _ I h) fun c s1 zz_=>?_);obtain⟨H1,I1,q1⟩:=zz_
 cases c with
 | true=>exact hb wh pins s1 σ H1 Q I1 q1
 | false=>exact⟨H1,I1,q1⟩
theorem ZS (ha:PT X a tA) (hb:PW X (.BoolOp .Or (b::rest) pos) tB'):PW X (.BoolOp .Or (a::b::rest) pos) (tOr tA tB'):=by
 intro wh pins s σ H Q I h;refine isTrue_or (thn (ha pins s σ H _ I h) fun c s1 zz_=>?_);obtain⟨H1,I1,q1⟩:=zz_
 cases c with
 | true=>exact⟨H1,I1,q1⟩
 | false=>exact hb wh pins s1 σ H1 Q I1 q1
theorem ze (ha:PT X a tA):PT X (.UnaryOp .Not a pos) (qjl tA):=by
 intro pins s σ H Q I h;exact isTrue_not (ha pins s σ H (fun c H1=>Q (!c) H1) I h)
def qim (ta tb:TE):TE:=fun σ H Q=>ta σ H fun x H1=>∃ c,x=.bl c∧if c=true then tb σ H1 Q else Q (.bl false) H1
inductive qdl (Q:VK) (x:V) (H1:Hp):Prop
 | mk (c:_) (h1:x=.bl c) (h2:Q (.bl (!c)) H1):qdl Q x H1
def qig (ta:TE):TE:=fun σ H Q=>ta σ H fun x H1=>qdl Q x H1
theorem Zj {op}{t:TE} (h:PE X a t):PE X (.BoolOp op [a] pos) t:=fun pins s σ H Q I hw=>BoolOp_one (h pins s σ H Q I hw)
theorem zR (ha:PE X a ta) (hb:PE X (.BoolOp .And (b::rest) pos) tb):PE X (.BoolOp .And (a::b::rest) pos) (qim ta tb):=by
 intro pins s σ H Q I h;refine BoolOp_and (thn (ha pins s σ H _ I h) fun v s1 zz_=>?_);obtain⟨x,H1,I1,r1,q1⟩:=zz_;obtain⟨c,rfl,q1⟩:=q1;cases r1;refine wpAny_truthy_bool ?_
 cases c with
 | true=>exact hb pins s1 σ H1 Q I1 q1
 | false=>exact⟨.bl false,H1,I1,rfl,q1⟩
theorem qfE (ha:PE X a ta):PE X (.UnaryOp .Not a pos) (qig ta):=by
 intro pins s σ H Q I h;refine UnaryOp_ (thn (ha pins s σ H _ I h) fun v s1 zz_=>?_);obtain⟨x,H1,I1,r1,q1⟩:=zz_;obtain⟨c,rfl,q1⟩:=q1;cases r1;exact not_of (wpAny_truthy_bool ⟨.bl (!c),H1,I1,rfl,q1⟩)
def tIf (t:TT) (ta tb:TE):TE:=fun σ H Q=>t σ H fun c H1=>if c=true then ta σ H1 Q else tb σ H1 Q
theorem qck {c:Expr} (hc:PT X c tA) (ha:PE X a ta) (hb:PE X b tb):PE X (.IfExp c a b pos) (tIf tA ta tb):=by
 intro pins s σ H Q I h;refine wpAny_IfExp (thn (hc pins s σ H _ I h) fun d s1 zz_=>?_);obtain⟨H1,I1,q1⟩:=zz_
 cases d with
 | true=>exact ha pins s1 σ H1 Q I1 q1
 | false=>exact hb pins s1 σ H1 Q I1 q1
end
def SqL (K:Frag) (H:Hp) (a:Addr) (xs:List V):Prop :=
 Rd H a (.lst xs) ∨
   ∃ (o:Obj) (its:Array Value) (n:Nat),K.lookup a=some o∧o.cls=.type "list"∧o.dict=none∧o.data=.seq its n∧its.size≤sizeLine∧Vals xs its.toList
def SqT (K:Frag) (H:Hp) (a:Addr) (xs:List V):Prop :=
 Rd H a (.tup xs) ∨
   ∃ (o:Obj) (its:Array Value) (n:Nat),K.lookup a=some o∧o.cls=.type "tuple"∧o.data=.seq its n∧its.size≤sizeLine∧Vals xs its.toList
def qjF:Value->Option V
 | .none=>some .non
 | .bool b=>some (.bl b)
 | .int i _=>some (.int i)
 | .str x _=>some (.str x)
 | .bytes b _=>some (.byt b)
 | .float b _=>some (.flt b)
 | .ref a=>some (.ref a)
 | .type n=>some (.ty n)
 | _=>none
theorem RelV.abs {x:V}{u:Value} (r:RelV x u):qjF u=some x:=by
 cases x with
 | non=>cases r;rfl
 | bl _=>cases r;rfl
 | int _=>obtain⟨t,rfl⟩:=r;rfl
 | str _=>obtain⟨t,rfl⟩:=r;rfl
 | byt _=>obtain⟨t,rfl⟩:=r;rfl
 | flt _=>obtain⟨t,rfl⟩:=r;rfl
 | ref _=>cases r;rfl
 | ty _=>cases r;rfl
theorem RelV.inj {x y:V}{u:Value} (r:RelV x u) (q:RelV y u):x=y:=Option.some.inj (r.abs.symm.trans q.abs)
theorem Vals.inj:∀ {xs ys:List V}{us:List Value},Vals xs us->Vals ys us->xs=ys
 | _,_,_,.nil,.nil=>rfl
 | _,_,_,.cons r t,.cons r' t'=>by rw[r.inj r',Vals.inj t t']
section
variable {X:Cx}{pins:List (Addr×Obj)}{σ:St}{H:Hp}{s:Shared}{a:Addr}{xs ys:List V}
theorem SqL.of {K:Frag} (h:H a=some (.lst xs)):SqL K H a xs:=.inl (.inl h)
theorem SqT.of {K:Frag} (h:H a=some (.tup xs)):SqT K H a xs:=.inl (.inl h)
theorem Inv.list (I:Inv X pins σ H s) (h:SqL X.K H a xs):∃ its:List Value,Vals xs its∧PlainL s.heap a its.toArray∧xs.length≤sizeLine:=by
 rcases h with h|⟨o,its,n,hk,hc,hd,hs,hz,r⟩
 · obtain⟨z,its,n,r,e⟩:=h.ok I.hok;exact⟨its,r,⟨_,n,e,rfl,rfl,rfl⟩,z⟩
 · refine⟨its.toList,r,⟨o,n,I.kIn a o hk,hc,hd,by simpa using hs⟩,?_⟩;have e:=r.length;simp only[Array.length_toList]at e;omega
theorem Inv.tuple (I:Inv X pins σ H s) (h:SqT X.K H a xs):∃ its:List Value,Vals xs its∧IsTup s.heap a its.toArray∧xs.length≤sizeLine:=by
 rcases h with h|⟨o,its,n,hk,hc,hs,hz,r⟩
 · obtain⟨z,its,r,p⟩:=h.ok I.hok;exact⟨its,r,p,z⟩
 · refine⟨its.toList,r,⟨o,I.kIn a o hk,hc,n,by simpa using hs⟩,?_⟩;have e:=r.length;simp only[Array.length_toList]at e;omega
theorem Inv.list_inj (I:Inv X pins σ H s) (h:SqL X.K H a xs) (h':SqL X.K H a ys):xs=ys:=by
 obtain⟨its,r,⟨o,n,e,_,_,d⟩,_⟩:=I.list h;obtain⟨its',r',⟨o',n',e',_,_,d'⟩,_⟩:=I.list h';rw[e]at e';cases e';rw[d]at d';injection d' with d1 _
 have:its=its':=by simpa using congrArg Array.toList d1
 subst this;exact r.inj r'
end
abbrev Cx.wish (X:Cx) (E:Value->Shared->Prop):Cx:={ X with xe:=E }
abbrev Cx.nox (X:Cx):Cx:=X.wish fun _ _=>False
theorem Cx.Ok.wish {X:Cx} (ok:X.Ok) (E:Value->Shared->Prop):(X.wish E).Ok :=
 ⟨ok.mod,ok.kind,ok.glob,ok.blt,ok.above,ok.inj,ok.has,ok.cab,ok.hd,ok.frames,ok.stk,ok.exf,ok.bs,ok.bsz,ok.noex,ok.exfs,ok.funs,ok.frf⟩
theorem Cx.Ok.unwish {X:Cx}{E:Value->Shared->Prop} (ok:(X.wish E).Ok):X.Ok :=
 ⟨ok.mod,ok.kind,ok.glob,ok.blt,ok.above,ok.inj,ok.has,ok.cab,ok.hd,ok.frames,ok.stk,ok.exf,ok.bs,ok.bsz,ok.noex,ok.exfs,ok.funs,ok.frf⟩
section
variable {X:Cx}{pins:List (Addr×Obj)}{σ:St}{H:Hp}{s:Shared}{E:Value->Shared->Prop}
theorem Inv.wish (I:Inv X pins σ H s) (E:Value->Shared->Prop):Inv (X.wish E) pins σ H s:=⟨I.ok.wish E,I.os,I.bare,I.base,I.loc,I.cell,I.free,I.freeC,I.pin,I.hok,I.len⟩
theorem Inv.unwish (I:Inv (X.wish E) pins σ H s):Inv X pins σ H s:=⟨I.ok.unwish,I.os,I.bare,I.base,I.loc,I.cell,I.free,I.freeC,I.pin,I.hok,I.len⟩
theorem SP.unwish {D:qc5}{f:Flow}{s':Shared} (h:SP (X.wish E) pins D f s'):SP X pins D f s':=by
 cases f with
 | next=>obtain⟨σ',H',I,q⟩:=h;exact⟨σ',H',I.unwish,q⟩
 | brk=>obtain⟨σ',H',I,q⟩:=h;exact⟨σ',H',I.unwish,q⟩
 | cont=>obtain⟨σ',H',I,q⟩:=h;exact⟨σ',H',I.unwish,q⟩
 | ret u=>obtain⟨v,σ',H',I,r,q⟩:=h;exact⟨v,σ',H',I.unwish,r,q⟩
theorem PSs.nox {st:List Stmt}{t:TS} (h:PSs X.nox st t):PSs X st t:=fun pins s σ H D I hw =>
 wpAny_mono (h pins s σ H D (I.wish _) hw) (fun _ _ q=>q.unwish) fun _ _ z=>False.elim z
end
section
variable {X:Cx}{st:Stmt}{rest:List Stmt}{t u:TS}{e:Expr}{te:TE}{pos:Pos}
def qy:TS:=fun D σ H=>D.nx σ H
def qid (t u:TS):TS:=fun D σ H=>t { D with nx:=u D } σ H
theorem qw:PSs X [] qy:=fun _ _ σ H _ I h=>wpAny_execs_nil ⟨σ,H,I,h⟩
theorem qc (h1:PS X st t) (h2:PSs X rest u):PSs X (st::rest) (qid t u):=by
 intro pins s σ H D I h;refine wpAny_execs_cons (thn (h1 pins s σ H { D with nx:=u D } I h) fun f s1 q=>?_)
 cases f with
 | next =>
   obtain⟨σ',H',I',q⟩:=q;exact h2 pins s1 σ' H' D I' q
 | ret v=>exact q
 | brk=>exact q
 | cont=>exact q
theorem qf (h1:PS X st t):PSs X [st] t:=by
 intro pins s σ H D I h;refine wpAny_execs_cons (thn (h1 pins s σ H D I h) fun f s1 q=>?_)
 cases f with
 | next=>exact wpAny_execs_nil q
 | ret v=>exact q
 | brk=>exact q
 | cont=>exact q
theorem Inv.quiet {pins:List (Addr×Obj)}{σ:St}{H:Hp}{s:Shared} (I:Inv X pins σ H s):interactive X.env=false:=by simp[interactive,I.ok.kind]
def qik (te:TE):TS:=fun D σ H=>te σ H fun _ H1=>D.nx σ H1
theorem qN (he:PE X e te) (hs:swapsWith e none pos.line X.env=pure false:=by rfl):PS X (.Expr e pos) (qik te):=by
 intro pins s σ H D I h;exact wpAny_Expr_any (thn (he pins s σ H _ I h) fun v s1 ⟨x,H1,I1,r1,q1⟩=>⟨σ,H1,I1,q1⟩) I.quiet hs
def qh1 (te:TE):TS:=fun D σ H=>te σ H D.rt
theorem qu (he:PE X e te):PS X (.Return (some e) pos) (qh1 te):=by
 intro pins s σ H D I h;exact wpAny_Return_some (thn (he pins s σ H _ I h) fun v s1 ⟨x,H1,I1,r1,q1⟩=>⟨x,σ,H1,I1,r1,q1⟩)
def qie:TS:=fun D _ H=>D.rt .non H
theorem qgp:PS X (.Return none pos) qie:=fun _ _ σ H _ I h=>wpAny_Return_none ⟨.non,σ,H,I,rfl,h⟩
def qeI (c:TT) (t u:TS):TS:=fun D σ H=>c σ H fun b H1=>if b=true then t D σ H1 else u D σ H1
theorem qP {c:Expr}{a b:List Stmt}{tc:TT} (hc:PT X c tc) (ha:PSs X a t) (hb:PSs X b u):PS X (.If c a b pos) (qeI tc t u):=by
 intro pins s σ H D I h;refine wpAny_If (thn (hc pins s σ H _ I h) fun d s1 zz_=>?_);obtain⟨H1,I1,q1⟩:=zz_
 cases d with
 | true=>exact ha pins s1 σ H1 D I1 q1
 | false=>exact hb pins s1 σ H1 D I1 q1
def qg0:TS:=fun _ _ _=>False
theorem zm:PS X st qg0:=fun _ _ _ _ _ _ h=>h.elim
end
abbrev TG:=V->St->Hp->(St->Hp->Prop)->Prop
abbrev TGs:=List V->St->Hp->(St->Hp->Prop)->Prop
def PG (X:Cx) (target:Expr) (t:TG):Prop :=
 ∀ (pins:List (Addr×Obj)) (s:Shared) (σ:St) (H:Hp) (v:V) (u:Value) (Q:St->Hp->Prop),Inv X pins σ H s->RelV v u->t v σ H Q ->
   wpAny (model X.prog X.w) X.A (assign target X.env u) (fun _ s'=>∃ σ' H',Inv X pins σ' H' s'∧Q σ' H') X.xe s
def PGs (X:Cx) (ts:List Expr) (t:TGs):Prop :=
 ∀ (pins:List (Addr×Obj)) (s:Shared) (σ:St) (H:Hp) (vs:List V) (us:List Value) (Q:St->Hp->Prop),Inv X pins σ H s->Vals vs us->t vs σ H Q ->
   wpAny (model X.prog X.w) X.A (assignInOrder ((assignEach ts X.env).map (·.2)) us) (fun _ s'=>∃ σ' H',Inv X pins σ' H' s'∧Q σ' H') X.xe s
abbrev qiP:=V->V->V->Hp->(Hp->Prop)->Prop
def qjf (X:Cx) (t:qiP):Prop :=
 ∀ (pins:List (Addr×Obj)) (s:Shared) (σ:St) (H:Hp) (o i v:V) (ov iv u:Value) (Q:Hp->Prop),Inv X pins σ H s->RelV o ov->RelV i iv->RelV v u->t o i v H Q ->
   wpAny (model X.prog X.w) X.A (setItem ov iv u) (fun _ s'=>∃ H',Inv X pins σ H' s'∧Q H') X.xe s
section
variable {X:Cx}{pos:Pos}
def qd8 (i:Nat):TG:=fun v σ H Q=>Q (σ.set i (some v)) H
theorem qE {i:Nat}{x:Str} (hN:X.N.Nodup) (hi:X.N[i]?=some x) (hx:Loc X.env.scope x) (hf:X.fn x=true∨X.env.scope.names.lookup x=some .local:=by first|exact .inl rfl|exact .inr rfl|assumption):PG X (.Name x pos) (qd8 i):=by
 intro pins s σ H v u Q I r h;exact wpAny_assign_Name (jW I hN hi hx r (fun s' I'=>⟨_,H,I',h⟩) hf)
def qjD:TGs:=fun vs σ H Q=>vs=[]∧Q σ H
inductive qd9 (t:TG) (u:TGs) (vs:List V) (σ:St) (H:Hp) (Q:(St->Hp->Prop)):Prop
 | mk (v r:_) (h1:vs=v::r) (h2:t v σ H fun σ' H'=>u r σ' H' Q):qd9 t u vs σ H Q
def qiJ (t:TG) (u:TGs):TGs:=fun vs σ H Q=>qd9 t u vs σ H Q
theorem Zv:PGs X [] qjD:=by
 intro pins s σ H vs us Q I r h;obtain⟨e,h⟩:=h;subst e;cases r;exact assignInOrder_nil ⟨σ,H,I,h⟩
theorem qI {e:Expr}{es:List Expr}{t:TG}{u:TGs} (h1:PG X e t) (h2:PGs X es u)
   (hs:(assignEach (e::es) X.env).map (·.2)=assign e X.env::(assignEach es X.env).map (·.2):=by rfl):PGs X (e::es) (qiJ t u):=by
 intro pins s σ H vs us Q I r h;obtain⟨v,vr,e1,h⟩:=h;subst e1
 cases r with
 | cons r rr =>
   rw[hs];refine assignInOrder_cons (thn (h1 pins s σ H _ _ _ I r h) fun _ s1 zz_=>?_);obtain⟨σ1,H1,I1,q1⟩:=zz_;exact h2 pins s1 σ1 H1 _ _ Q I1 rr q1
inductive qfP (K:Frag) (n:Nat) (t:TGs) (v:V) (σ:St) (H:Hp) (Q:(St->Hp->Prop)):Prop
 | mk (a xs:_) (h1:v=.ref a) (h2:SqT K H a xs) (h3:xs.length=n) (h4:t xs σ H Q):qfP K n t v σ H Q
def qjc (K:Frag) (n:Nat) (t:TGs):TG:=fun v σ H Q=>qfP K n t v σ H Q
theorem qae {es:List Expr}{k:Nat}{t:TGs}{n:Nat} (hc:X.calm=true) (h:PGs X es t)
   (hn:(assignEach es X.env).length=n:=by rfl) (hst:(assignEach es X.env).findIdx? (·.1)=none:=by rfl):PG X (.Tuple es k pos) (qjc X.K n t):=by
 intro pins s σ H v u Q I r hw;obtain⟨a,xs,e1,hq,hl,hw⟩:=hw;subst e1;cases r;obtain⟨its,rv,ht,hz⟩:=I.tuple hq;refine assign_Tuple_tuple (I.ok.hd hc) ht (by simp[hn,← hl,rv.length]) hst fun h' hx=>?_;have I1:Inv X pins σ H { s with heap:=h' }:=I.kept (t':=s.toks) fun b o e=>hx b o (Nat.ne_of_lt (Heap.lt_size e)) e;exact h pins _ σ H xs _ Q I1 (by simpa using rv) hw
def qjC (to ti:TE) (t:qiP):TG:=fun v σ H Q=>to σ H fun o H1=>ti σ H1 fun i H2=>t o i v H2 fun H3=>Q σ H3
theorem qfD {o i:Expr}{to ti:TE}{t:qiP} (ho:PE X o to) (hi:PE X i ti) (hs:qjf X t)
   (ha:∀ v,assign (.Subscript o i pos) X.env v=(do
     let ov ← holding [v] (eval o X.env);let iv ← holding [v,ov] (eval i X.env)
     standAt pos
     holding [v,ov,iv] (setItem ov iv v)
     release [v,ov,iv] []):=by intro _;rfl):PG X (.Subscript o i pos) (qjC to ti t):=by
 intro pins s σ H v u Q I r h;rw[ha];refine wpAny_bind (wpAny_holding (thn (ho pins s σ H _ I h) fun ov s1 zz_=>?_));obtain⟨x,H1,I1,r1,q1⟩:=zz_;refine wpAny_bind (wpAny_holding (thn (hi pins s1 σ H1 _ I1 q1) fun iv s2 zz_=>?_));obtain⟨y,H2,I2,r2,q2⟩:=zz_;refine wpAny_bind (wpAny_standAt (wpAny_bind (wpAny_holding (thn (hs pins s2 σ H2 x y v ov iv u _ I2 r1 r2 r q2) fun _ s3 zz_=>?_))));obtain⟨H3,I3,q3⟩:=zz_;exact wpAny_release ⟨σ,H3,I3,q3⟩
def qg4 (te:TE) (g:TG):TS:=fun D σ H=>te σ H fun x H1=>g x σ H1 D.nx
theorem qac {tg e:Expr}{te:TE}{g:TG} (he:PE X e te) (hg:PG X tg g) (hs:swapsWithSole [tg] e pos.line X.env=pure false:=by rfl) (hw:swappedStores [tg] e X.env=pure none:=by rfl)
   (h1:(assignEach [tg] X.env).map (·.2)=[assign tg X.env]:=by rfl):PS X (.Assign [tg] e pos) (qg4 te g):=by
 intro pins s σ H D I h;refine wpAny_Assign_stores (thn (he pins s σ H _ I h) fun v s1 zz_=>?_) hs hw;obtain⟨x,H1,I1,r1,q1⟩:=zz_;rw[h1];exact thn (hg pins s1 σ H1 x v _ I1 r1 q1) fun _ s2 q=>q
theorem qA {i:Nat}{x:Str}{e:Expr}{te:TE}{pos':Pos} (hN:X.N.Nodup) (hi:X.N[i]?=some x) (hx:Loc X.env.scope x) (he:PE X e te) (hs:swapsWith e (some (.Name x pos')) pos.line X.env=pure false:=by rfl) (hf:X.fn x=true∨X.env.scope.names.lookup x=some .local:=by first|exact .inl rfl|exact .inr rfl|assumption) :
   PS X (.Assign [.Name x pos'] e pos) (qg4 te (qd8 i)):=by
 intro pins s σ H D I h;refine wpAny_Assign_Name (thn (he pins s σ H _ I h) fun v s1 zz_=>?_) hs;obtain⟨y,H1,I1,r1,q1⟩:=zz_;exact jW I1 hN hi hx r1 (fun s2 I2=>⟨_,H1,I2,q1⟩) hf
end
structure It where
 go:Nat->Hp->Prop
 yld:Nat->Hp->V->Hp->Prop
 stop:Nat->Hp->Prop
def qc2 (X:Cx) (pins:List (Addr×Obj)) (H:Hp) (b:Addr):Prop :=
 H b=none∧b≠X.env.locals∧b∉X.fs∧(b∈X.ex∨X.s₀.heap.objs.size≤b)∧(∀ x c,X.env.cells.lookup x=some c->c≠b)∧∀ p∈X.pn++pins,p.1≠b
theorem Inv.fpOk {X:Cx}{pins:List (Addr×Obj)}{σ:St}{H H':Hp}{s:Shared}{b:Addr} (I:Inv X pins σ H s) (hb:s.heap.objs.size≤b) (hn:H' b=none):qc2 X pins H' b:=by
 refine⟨hn,Nat.ne_of_gt (Nat.lt_of_lt_of_le I.lt hb),I.nofs hb,.inr (Nat.le_trans I.sz hb),fun x c e z=>?_,fun p hp z=>?_⟩
 · obtain⟨v,q⟩:=I.cell x c e;exact absurd (Nat.lt_of_lt_of_le q.lt (by rw[z];exact hb)) (Nat.lt_irrefl _)
 · exact absurd (Nat.lt_of_lt_of_le (Heap.lt_size (I.pin p hp).1) (by rw[z];exact hb)) (Nat.lt_irrefl _)
structure qhT (P:Program) (w:World) (K:Frag) (tg:Expr) (J:It) (fp:List Addr) (it:Addr) (tn:Nat->Heap->Prop):Prop where
 mem:it∈fp
 obj:∀ i h,tn i h->∀ b∈fp,∃ o,h.get? b=some o∧∀ v,o.data≠.cell v
 keep:∀ i h h',tn i h->(∀ b∈fp,∀ o,h.get? b=some o->h'.get? b=some o)->tn i h'
 item:∀ (X:Cx),X.prog=P->X.w=w->X.K=K->X.calm=true->∀ (i:Nat) (pins:List (Addr×Obj)) (s:Shared) (σ:St) (H:Hp) (E:Value->Shared->Prop),Inv X pins σ H s->(∀ b∈fp,qc2 X pins H b)->tn i s.heap->J.go i H ->
   wpAny (model P w) X.A (pyNext (.ref it)) (fun r s1=>∃ u,r=some u ∧
     wpAny (model P w) X.A (letOwnedTupleGo tg (.ref it) u) (fun _ s2=>∃ x H',Inv X pins σ H' s2∧RelV x u∧J.yld i H x H'∧tn (i+1) s2.heap∧∀ b∈fp,H' b=none) E s1) E s
 done:∀ (X:Cx),X.prog=P->X.w=w->X.K=K->X.calm=true->∀ (i:Nat) (pins:List (Addr×Obj)) (s:Shared) (σ:St) (H:Hp) (E:Value->Shared->Prop),Inv X pins σ H s->(∀ b∈fp,qc2 X pins H b)->tn i s.heap->J.stop i H ->
   wpAny (model P w) X.A (pyNext (.ref it)) (fun r s1=>r=none∧Inv X pins σ H s1) E s
 self:∀ (A:Around) (i:Nat) (s:Shared) (Q:Value->Shared->Prop) (E:Value->Shared->Prop),tn i s.heap->Q (.ref it) s->wpAny (model P w) A (pyIter (.ref it)) Q E s
abbrev TI:=St->Hp->(It->Hp->Prop)->Prop
def PIE (X:Cx) (pins:List (Addr×Obj)) (σ:St) (tg:Expr) (R:It->Hp->Prop) (itv:Value) (s2:Shared):Prop :=
 ∃ (it:Addr) (fp:List Addr) (tn:Nat->Heap->Prop) (J:It) (H':Hp),itv=.ref it∧Inv X pins σ H' s2∧qhT X.prog X.w X.K tg J fp it tn∧tn 0 s2.heap∧(∀ b∈fp,qc2 X pins H' b)∧R J H'
def PI (X:Cx) (tg iter:Expr) (wi:TI):Prop :=
 ∀ (pins:List (Addr×Obj)) (s:Shared) (σ:St) (H:Hp) (R:It->Hp->Prop),Inv X pins σ H s->wi σ H R ->
   wpAny (model X.prog X.w) X.A (eval iter X.env) (fun v s1=>wpAny (model X.prog X.w) X.A (pyIter v) (PIE X pins σ tg R) X.xe s1) X.xe s
theorem qhM {M:Model}{A:Around}{E:Value->Shared->Prop}{s:Shared}{tg:Expr}{it:Addr}{u:Value}{o:Obj}{n:String}{vs:Array Value}{Q:Unit->Shared->Prop} (ho:s.heap.get? it=some o) (hc:o.cls=.type n) (hd:o.data=.fields vs)
   (hn:["enumerate","zip","dict_itemiterator","dict_reverseitemiterator","odict_iterator","itertools.zip_longest","itertools.pairwise"].contains n=false) (hQ:Q () s):wpAny M A (letOwnedTupleGo tg (.ref it) u) Q E s:=by
 unfold letOwnedTupleGo;cases tg<;>first
   | exact wpAny_pure hQ
   | (cases u<;>first
       | exact wpAny_pure hQ
       | (refine wpAny_bind (wpAny_load ho ?_)
          rw[hc,hd];show wpAny M A (if (["enumerate","zip","dict_itemiterator","dict_reverseitemiterator","odict_iterator","itertools.zip_longest","itertools.pairwise"].contains n && vs[0]? == some (rawInt _))=true then _ else _) Q E s;rw[if_neg (by intro h;rw[hn,Bool.false_and]at h;cases h)]
          exact wpAny_pure hQ))
def Itl (K:Frag) (a:Addr):It :=
 ⟨fun i H=>∃ xs x,SqL K H a xs∧xs[i]?=some x,fun i H x H'=>H'=H∧∀ xs,SqL K H a xs->xs[i]?=some x,fun i H=>∃ xs,SqL K H a xs∧xs.length≤i⟩
def Itr (lo:Int) (n:Nat):It:=⟨fun i _=>i < n,fun i H x H'=>H'=H∧x=.int (lo+i),fun i _=>n≤i⟩
theorem qdc {P:Program}{w:World}{K:Frag}{tg:Expr} (a it:Addr):qhT P w K tg (Itl K a) [it] it (fun i h=>h.IsListIter it a i) where
 mem:=by simp
 obj:=fun i h st b hb=>by
   have e:b=it:=by simpa using hb
   subst e;obtain⟨o,e,c,d⟩:=st;exact⟨o,e,fun v z=>by rw[d]at z;cases z⟩
 keep:=fun i h h' st k=>st.at fun o e=>k it (by simp) o e
 item:=by
   intro X hP hw hK hc i pins s σ H E I hf st hg;subst hP hw hK;obtain⟨xs,x,hq,hx⟩:=hg;obtain⟨its,rv,p,hz⟩:=I.list hq;obtain⟨u,hu,ru⟩:=rv.get hx;obtain⟨f0,f1,f2,f3,f4,f5⟩:=hf it (by simp);refine wpAny_pyNext_list_item st p.isList (x:=u) (by simpa using hu) fun h' st' sb=>?_;have I1:Inv X pins σ H { s with heap:=h' }:=I.turned (t':=s.toks) (fun b o hb e=>(sb.2 b hb).trans e) f0 f1 f3 f4 f5;obtain⟨o,e,c,d⟩:=id st';exact⟨u,rfl,qhM (s:={ s with heap:=h' }) e c d (by decide) ⟨x,H,I1,ru,⟨rfl,fun ys hy=>by rw[I.list_inj hy hq];exact hx⟩,st',fun b hb=>(hf b hb).1⟩⟩
 done:=by
   intro X hP hw hK hc i pins s σ H E I hf st hg;subst hP hw hK;obtain⟨xs,hq,hx⟩:=hg;obtain⟨its,rv,p,hz⟩:=I.list hq;obtain⟨f0,f1,f2,f3,f4,f5⟩:=hf it (by simp);have hl:=rv.length;exact wpAny_pyNext_list_end (I.ok.hd hc) st p.isList (by simp;omega) fun h' eb=>⟨rfl,I.turned (t':=s.toks) (fun b o hb e=>eb b o hb e) f0 f1 f3 f4 f5⟩
 self:=fun _ _ _ _ _ st h=>wpAny_pyIter_listiter st h
theorem qcF {P:Program}{w:World}{K:Frag}{tg:Expr} (it:Addr) (lo:Int) (n:Nat):qhT P w K tg (Itr lo n) [it] it (fun i h=>IsRangeIter h it (lo+(i:Nat) * 1) ((n:Int) - (i:Nat)) 1) where
 mem:=by simp
 obj:=fun i h st b hb=>by
   have e:b=it:=by simpa using hb
   subst e
   exact⟨_,st,fun v z=>by
     have z':Data.fields _=Data.cell v:=z
     cases z'⟩
 keep:=fun i h h' st k=>k it (by simp) _ st
 item:=by
   intro X hP hw hK hc i pins s σ H E I hf st hg;subst hP hw hK;obtain⟨f0,f1,f2,f3,f4,f5⟩:=hf it (by simp);have W:=Walks.range (prog:=X.prog) (w:=X.w) (I.ok.hd hc) it lo 1 n;refine W.item i s _ _ hg st fun v h' tk hv st' kk=>?_;obtain⟨t,rfl⟩:=hv;have I1:Inv X pins σ H { s with heap:=h',toks:=tk }:=I.turned (fun b o hb e=>kk b o (by simpa using hb) e) f0 f1 f3 f4 f5;refine⟨_,rfl,qhM (s:={ s with heap:=h',toks:=tk }) (n:="range_iterator") st' rfl rfl (by decide) ⟨.int (lo+i),H,I1,⟨t,?_⟩,⟨rfl,rfl⟩,st',fun b hb=>(hf b hb).1⟩⟩;rw[Int.mul_one]
 done:=by
   intro X hP hw hK hc i pins s σ H E I hf st hg;subst hP hw hK;obtain⟨f0,f1,f2,f3,f4,f5⟩:=hf it (by simp);exact wpAny_pyNext_range_end (I.ok.hd hc) st (by have:n≤i:=hg;omega) fun h' eb=>⟨rfl,I.turned (t':=s.toks) (fun b o hb e=>eb b o hb e) f0 f1 f3 f4 f5⟩
 self:=fun _ _ _ _ _ st h=>wpAny_pyIter_rangeiter st h
section
variable {X:Cx}{tg:Expr}
inductive qd4 (K:Frag) (R:(It->Hp->Prop)) (x:V) (H1:Hp):Prop
 | mk (a:_) (h1:x=.ref a) (h2:(∃ xs,SqL K H1 a xs)) (h3:R (Itl K a) H1):qd4 K R x H1
def qiH (K:Frag) (tl:TE):TI:=fun σ H R=>tl σ H fun x H1=>qd4 K R x H1
theorem QQ {l:Expr}{tl:TE} (hl:PE X l tl):PI X tg l (qiH X.K tl):=by
 intro pins s σ H R I h;refine thn (hl pins s σ H _ I h) fun v s1 zz_=>?_;obtain⟨x,H1,I1,r1,q1⟩:=zz_;obtain⟨a,e,⟨xs,hq⟩,q⟩:=q1;subst e;cases r1;obtain⟨its,rv,p,hz⟩:=I1.list hq;refine wpAny_pyIter_list p.isList ?_;refine⟨s1.heap.objs.size,[s1.heap.objs.size],_,_,H1,rfl,I1.kept (t':=s1.toks) fun b o e=>Heap.get?_push_of_some _ e,qdc a _,⟨_,Heap.get?_push_size _ rfl,rfl,rfl⟩,fun b hb=>?_,q⟩;have e:b=s1.heap.objs.size:=by simpa using hb
 subst e;exact I1.fpOk (Nat.le_refl _) (I1.hok.fresh (Nat.le_refl _))
theorem qeN {pins:List (Addr×Obj)}{σ:St}{H:Hp}{s:Shared}{R:It->Hp->Prop}{E:Value->Shared->Prop}{lo hi:Int}{t u v:Tok}{tk:Nat} (I:Inv X pins σ H s) (h1:-(2 ^ 62)≤lo) (h2:lo < 2 ^ 62) (h3:-(2 ^ 62)≤hi) (h4:hi < 2 ^ 62)
   (q:R (Itr lo (hi - lo).toNat) H):wpAny (model X.prog X.w) X.A (pyIter (.ref s.heap.objs.size)) (PIE X pins σ tg R) E { s with heap:=s.heap.push { cls:=.type "range",data:=.fields #[.int lo t,.int hi u,.int 1 v] },toks:=tk }:=by
 refine wpAny_pyIter_range (IsRange.new ..) (small_one h1 h2 h3 h4) ?_;have I1:Inv X pins σ H { s with heap:=s.heap.push { cls:=.type "range",data:=.fields #[.int lo t,.int hi u,.int 1 v] },toks:=tk }:=I.kept fun b o e=>Heap.get?_push_of_some _ e
 refine⟨(s.heap.push { cls:=.type "range",data:=.fields #[.int lo t,.int hi u,.int 1 v] }).objs.size,[(s.heap.push { cls:=.type "range",data:=.fields #[.int lo t,.int hi u,.int 1 v] }).objs.size],_,_,H,rfl,
   I1.kept (t':=tk) fun b o e=>Heap.get?_push_of_some _ e,qcF _ lo (hi - lo).toNat,?_,fun b hb=>?_,q⟩
 · have e1:lo+((0:Nat):Int) * 1=lo:=by simp
   have e2:(((hi - lo).toNat:Nat):Int) - ((0:Nat):Int)=Builtin.Range.rangeSize lo hi 1:=by rw[rangeSize_one];split<;>omega
   show IsRangeIter _ _ (lo+((0:Nat):Int) * 1) ((((hi - lo).toNat:Nat):Int) - ((0:Nat):Int)) 1;rw[e1,e2];exact Heap.get?_push_size _ rfl
 · have e:b=(s.heap.push { cls:=.type "range",data:=.fields #[.int lo t,.int hi u,.int 1 v] }).objs.size:=by simpa using hb
   subst e;exact I1.fpOk (Nat.le_refl _) (I1.hok.fresh (Nat.le_refl _))
inductive qd3 (R:(It->Hp->Prop)) (vs:List V) (H1:Hp):Prop
 | mk (j:Int) (h1:vs=[.int j]) (h2:-(2 ^ 62)≤j) (h3:j < 2 ^ 62) (h4:R (Itr 0 j.toNat) H1):qd3 R vs H1
def qiG (ta:TA):TI:=fun σ H R=>ta σ H fun vs H1=>qd3 R vs H1
theorem ZU {a:Expr}{ta:TA}{p pos:Pos} (hg:Gl X "range") (hm:X.mg "range"=none) (ha:PA X [a] ta) (hs:starEach [a] X.env=[(false,eval a X.env)]:=by rfl):PI X tg (.Call (.Name "range" p) [a] [] pos) (qiG ta):=by
 intro pins s σ H R I h;refine Call_ (qal I hg hm boot_range (PyProof.Rows.callWith_type1 (thn (ha pos pins s σ H _ I h) fun us s1 zz_=>?_) hs rfl));obtain⟨vs,H1,I1,r1,q1⟩:=zz_;obtain⟨j,e,q1,q2,q⟩:=q1;subst e
 cases r1 with
 | cons r rr =>
   cases rr;obtain⟨t,rfl⟩:=r;exact call_range_1 (qeN I1 (by omega) (by omega) q1 q2 (by simpa using q))
def qij (wi:TI) (g:TG) (tb:TS):TS:=fun D σ H=>wi σ H fun J H1=>∃ W:Nat->Nat->St->Hp->Prop,(∃ m,W 0 m σ H1)∧∀ i m σ H,W i m σ H ->
 (J.stop i H∧D.nx σ H)∨(J.go i H∧∃ N:St->Hp->Prop,(∀ σ' H',N σ' H'->∃ m',m' < m∧W (i+1) m' σ' H')∧∀ x H',J.yld i H x H'->g x σ H' fun σ2 H2=>tb { D with nx:=N,ct:=N,bk:=D.nx } σ2 H2)
def qad (fp:List Addr) (h:Heap):List (Addr×Obj):=fp.filterMap fun b=>(h.get? b).map fun o=>(b,o)
theorem zh {fp:List Addr}{h:Heap}{b:Addr}{o:Obj} (hb:b∈fp) (e:h.get? b=some o):(b,o)∈qad fp h:=List.mem_filterMap.mpr ⟨b,hb,by rw[e];rfl⟩
theorem qdP {fp:List Addr}{h:Heap}{p:Addr×Obj} (hp:p∈qad fp h):p.1∈fp∧h.get? p.1=some p.2:=by
 obtain⟨b,hb,e⟩:=List.mem_filterMap.mp hp
 cases q:h.get? b with
 | none=>rw[q]at e;cases e
 | some o =>
   rw[q]at e;have e':(b,o)=p:=Option.some.inj e;subst e';exact⟨hb,q⟩
theorem Inv.pinned {pins:List (Addr×Obj)}{σ:St}{H:Hp}{s:Shared}{fp:List Addr} (I:Inv X pins σ H s) (hf:∀ b∈fp,qc2 X pins H b) (ho:∀ b∈fp,∃ o,s.heap.get? b=some o∧∀ v,o.data≠.cell v):Inv X (pins++qad fp s.heap) σ H s :=
 I.pins_of fun p hp=>(List.mem_append.mp hp).elim (fun z=>I.pin p (List.mem_append_right _ z)) fun z=>by
   obtain⟨hb,e⟩:=qdP z;obtain⟨f0,f1,f2,_⟩:=hf p.1 hb;obtain⟨o,e',d⟩:=ho p.1 hb;rw[e]at e';cases e';exact⟨e,f0,f1,f2,d⟩
theorem Inv.unpinned {pins pl:List (Addr×Obj)}{σ:St}{H:Hp}{s:Shared} (I:Inv X (pins++pl) σ H s):Inv X pins σ H s:=I.pins_of fun p hp=>I.pin p (List.mem_append_right _ (List.mem_append_left _ hp))
theorem Jj {iter:Expr}{body:List Stmt}{wi:TI}{g:TG}{tb:TS}{pos:Pos} (hp:PassesOwn (model X.prog X.w) X.A X.env X.xe) (hc:X.calm=true) (hi:PI X tg iter wi) (hg:PG X tg g) (hb:PSs X body tb)
   (hs:∀ x,foldedSetIterable iter X.env x=pure x:=by intro _;rfl):PS X (.For tg iter body [] pos) (qij wi g tb):=by
 intro pins s σ H D I h;refine wpAny_For (thn (hi pins s σ H _ I h) fun v s1 h1=>thn h1 fun itv s2 h2=>?_) hs;obtain⟨it,fp,tn,J,H2,e,I2,T,st2,f2,W,⟨m0,w0⟩,turn⟩:=h2;subst e
 -- what stays true of the iterator's objects through the loop
 have stat:∀ {H':Hp},(∀ b∈fp,H' b=none)->∀ b∈fp,qc2 X pins H' b:=fun hn b hb=>⟨hn b hb,(f2 b hb).2⟩
 refine codeAny_forLoop_any (fun n s'=>∃ i σ' H',Inv X pins σ' H' s'∧tn i s'.heap∧(∀ b∈fp,H' b=none)∧W i n σ' H') ?_ m0 ⟨0,σ,H2,I2,st2,fun b hb=>(f2 b hb).1,w0⟩;rintro n s3 ⟨i,σ3,H3,I3,st3,fr3,w3⟩;rcases turn i n σ3 H3 w3 with ⟨stop,qn⟩|⟨go,N,hN,step⟩
 · refine wpAny_passesOwn hp (thn (T.done X rfl rfl rfl hc i pins s3 σ3 H3 X.xe I3 (stat fr3) st3 stop) fun r s4 ⟨hr,I4⟩=>?_);subst hr;exact wpAny_execs_nil ⟨σ3,H3,I4,qn⟩
 · refine wpAny_passesOwn hp (thn (T.item X rfl rfl rfl hc i pins s3 σ3 H3 X.xe I3 (stat fr3) st3 go) fun r s4 ⟨u,hr,h4⟩=>?_);subst hr;refine wpAny_passesOwn hp (thn h4 fun _ s5 zz_=>?_);obtain⟨x,H5,I5,r5,y5,st5,fr5⟩:=zz_;have I5':=I5.pinned (stat fr5) (T.obj _ _ st5);refine wpAny_passesOwn hp (thn (hg _ s5 σ3 H5 x u _ I5' r5 (step x H5 y5)) fun _ s6 zz_=>?_);obtain⟨σ6,H6,I6,q6⟩:=zz_;refine wpAny_passesOwn hp (thn (hb _ s6 σ6 H6 _ I6 q6) fun f s7 q7=>?_)
   have again:∀ {σ7:St}{H7:Hp},Inv X (pins++qad fp s5.heap) σ7 H7 s7->N σ7 H7->∃ m,m < n∧∃ i σ' H',Inv X pins σ' H' s7∧tn i s7.heap∧(∀ b∈fp,H' b=none)∧W i m σ' H':=fun {σ7 H7} I7 n7=>by
     obtain⟨m',hm,w7⟩:=hN σ7 H7 n7;refine⟨m',hm,i+1,σ7,H7,I7.unpinned,T.keep _ _ _ st5 fun b hb o e=>(I7.pin (b,o) (List.mem_append_right _ (List.mem_append_right _ (zh hb e)))).1,fun b hb=>?_,w7⟩;obtain⟨o,e,d⟩:=T.obj _ _ st5 b hb;exact(I7.pin (b,o) (List.mem_append_right _ (List.mem_append_right _ (zh hb e)))).2.1
   cases f with
   | next=>obtain⟨σ7,H7,I7,n7⟩:=q7;exact again I7 n7
   | cont=>obtain⟨σ7,H7,I7,n7⟩:=q7;exact again I7 n7
   | brk=>obtain⟨σ7,H7,I7,q7⟩:=q7;exact⟨σ7,H7,I7.unpinned,q7⟩
   | ret v=>obtain⟨x7,σ7,H7,I7,r7,q7⟩:=q7;exact⟨x7,σ7,H7,I7.unpinned,r7,q7⟩
end
theorem qaW {K:Frag}{a:Addr}{xs:List V}{g:TG}{tb:TS}{D:qc5}{σ:St}{H:Hp} (Pv:Nat->St->Hp->Prop) (h0:Pv 0 σ H) (hl:∀ i σ H,i≤xs.length->Pv i σ H->SqL K H a xs)
   (hs:∀ i x σ H,xs[i]?=some x->Pv i σ H->g x σ H fun σ2 H2=>tb { D with nx:=Pv (i+1),ct:=Pv (i+1),bk:=D.nx } σ2 H2) (hd:∀ σ H,Pv xs.length σ H->D.nx σ H) :
   ∃ W:Nat->Nat->St->Hp->Prop,(∃ m,W 0 m σ H)∧∀ i m σ H,W i m σ H ->
     ((Itl K a).stop i H∧D.nx σ H)∨((Itl K a).go i H∧∃ N:St->Hp->Prop,(∀ σ' H',N σ' H'->∃ m',m' < m∧W (i+1) m' σ' H')∧∀ x H',(Itl K a).yld i H x H'->g x σ H' fun σ2 H2=>tb { D with nx:=N,ct:=N,bk:=D.nx } σ2 H2):=by
 refine⟨fun i m σ H=>m=xs.length - i∧i≤xs.length∧Pv i σ H,⟨xs.length,by simp,Nat.zero_le _,h0⟩,?_⟩;rintro i m σ H ⟨rfl,hi,p⟩;have q:=hl i σ H hi p;by_cases hlt:i < xs.length
 · refine .inr ⟨⟨xs,xs[i],q,by simp[hlt]⟩,Pv (i+1),fun σ' H' p'=>⟨xs.length - (i+1),by omega,rfl,hlt,p'⟩,fun x H' y=>?_⟩;obtain⟨e,y⟩:=y;subst e;exact hs i x σ _ (y xs q) p
 · have e:i=xs.length:=by omega
   subst e;exact .inl ⟨⟨xs,q,Nat.le_refl _⟩,hd σ H p⟩
theorem JC {lo:Int}{n:Nat}{g:TG}{tb:TS}{D:qc5}{σ:St}{H:Hp} (Pv:Nat->St->Hp->Prop) (h0:Pv 0 σ H)
   (hs:∀ i σ H,i < n->Pv i σ H->g (.int (lo+i)) σ H fun σ2 H2=>tb { D with nx:=Pv (i+1),ct:=Pv (i+1),bk:=D.nx } σ2 H2) (hd:∀ σ H,Pv n σ H->D.nx σ H) :
   ∃ W:Nat->Nat->St->Hp->Prop,(∃ m,W 0 m σ H)∧∀ i m σ H,W i m σ H ->
     ((Itr lo n).stop i H∧D.nx σ H)∨((Itr lo n).go i H∧∃ N:St->Hp->Prop,(∀ σ' H',N σ' H'->∃ m',m' < m∧W (i+1) m' σ' H')∧∀ x H',(Itr lo n).yld i H x H'->g x σ H' fun σ2 H2=>tb { D with nx:=N,ct:=N,bk:=D.nx } σ2 H2):=by
 refine⟨fun i m σ H=>m=n - i∧i≤n∧Pv i σ H,⟨n,by simp,Nat.zero_le _,h0⟩,?_⟩;rintro i m σ H ⟨rfl,hi,p⟩;by_cases hlt:i < n
 · refine .inr ⟨hlt,Pv (i+1),fun σ' H' p'=>⟨n - (i+1),by omega,rfl,hlt,p'⟩,fun x H' y=>?_⟩;obtain⟨e,y⟩:=y;subst e y;exact hs i σ _ hlt p
 · have e:i=n:=by omega
   subst e;exact .inl ⟨Nat.le_refl _,hd σ H p⟩
abbrev R2:=V->V->Hp->VK->Prop
def OpR (X:Cx) (f:Value->Value->Sem Value) (r:R2):Prop :=
 ∀ (pins:List (Addr×Obj)) (s:Shared) (σ:St) (H:Hp) (x y:V) (v u:Value) (Q:VK),Inv X pins σ H s->RelV x v->RelV y u->r x y H Q ->
   wpAny (model X.prog X.w) X.A (f v u) (EP X pins σ Q) X.xe s
def UnR (X:Cx) (f:Value->Sem Value) (r:V->Hp->VK->Prop):Prop :=
 ∀ (pins:List (Addr×Obj)) (s:Shared) (σ:St) (H:Hp) (x:V) (v:Value) (Q:VK),Inv X pins σ H s->RelV x v->r x H Q ->
   wpAny (model X.prog X.w) X.A (f v) (EP X pins σ Q) X.xe s
def Z3 (X:Cx) (f:Value) (r:List V->Hp->VK->Prop):Prop :=
 ∀ (pins:List (Addr×Obj)) (s:Shared) (σ:St) (H:Hp) (xs:List V) (us:List Value) (Q:VK),Inv X pins σ H s->Vals xs us->r xs H Q ->
   wpAny (model X.prog X.w) X.A (call f us) (EP X pins σ Q) X.xe s
def qjG (X:Cx) (r:V->Hp->(Bool->Hp->Prop)->Prop):Prop :=
 ∀ (pins:List (Addr×Obj)) (s:Shared) (σ:St) (H:Hp) (x:V) (v:Value) (Q:Bool->Hp->Prop),Inv X pins σ H s->RelV x v->r x H Q ->
   wpAny (model X.prog X.w) X.A (truthy v) (TP X pins σ Q) X.xe s
def tOp (r:R2) (ta tb:TE):TE:=fun σ H Q=>ta σ H fun x H1=>tb σ H1 fun y H2=>r x y H2 Q
def tUn (r:V->Hp->VK->Prop) (ta:TE):TE:=fun σ H Q=>ta σ H fun x H1=>r x H1 Q
inductive qi5 (C:Int->Int->Prop) (g:Int->Int->V) (x:V) (y:V) (H:Hp) (Q:VK):Prop
 | mk (i j:_) (h1:x=.int i) (h2:y=.int j) (h3:C i j) (h4:Q (g i j) H):qi5 C g x y H Q
def rI (C:Int->Int->Prop) (g:Int->Int->V):R2:=fun x y H Q=>qi5 C g x y H Q
inductive qhh (g:Int->Int->V) (x:V) (y:V) (H:Hp) (Q:VK):Prop
 | mk (i j:_) (h1:x=.int i) (h2:y=.int j) (h3:Q (g i j) H):qhh g x y H Q
def rI0 (g:Int->Int->V):R2:=fun x y H Q=>qhh g x y H Q
inductive qiW (g:Int->V) (x:V) (H:Hp) (Q:VK):Prop
 | mk (i:_) (h1:x=.int i) (h2:Q (g i) H):qiW g x H Q
def rU (g:Int->V):V->Hp->VK->Prop:=fun x H Q=>qiW g x H Q
section
variable {X:Cx}{a b c:Expr}{ta tb tc:TE}{pos:Pos}
theorem qiM (ha:PE X a ta) (hb:PE X b tb) {pins:List (Addr×Obj)}{s:Shared}{σ:St}{H:Hp}{R:V->V->Hp->Prop} (I:Inv X pins σ H s)
   (h:ta σ H fun x H1=>tb σ H1 fun y H2=>R x y H2) {Q:Value->Shared->Prop}{f:Value->Value->Sem Value}
   (hf:∀ v u s2 x y H2,Inv X pins σ H2 s2->RelV x v->RelV y u->R x y H2->wpAny (model X.prog X.w) X.A (f v u) Q X.xe s2) :
   wpAny (model X.prog X.w) X.A (eval a X.env) (fun v s₁=>wpAny (model X.prog X.w) X.A (eval b X.env) (fun u s₂=>wpAny (model X.prog X.w) X.A (f v u) Q X.xe s₂) X.xe s₁) X.xe s:=by
 refine thn (ha pins s σ H _ I h) fun v s1 zz_=>?_;obtain⟨x,H1,I1,r1,q1⟩:=zz_;refine thn (hb pins s1 σ H1 _ I1 q1) fun u s2 zz_=>?_;obtain⟨y,H2,I2,r2,q2⟩:=zz_;exact hf v u s2 x y H2 I2 r1 r2 q2
theorem qm {op:Operator}{r:R2} (ho:OpR X (binaryOp op) r) (ha:PE X a ta) (hb:PE X b tb):PE X (.BinOp a op b pos) (tOp r ta tb):=by
 intro pins s σ H Q I h;exact wpAny_BinOp (qiM ha hb I h fun v u s2 x y H2 I2 rx ry q=>ho pins s2 σ H2 x y v u Q I2 rx ry q)
theorem qdG {op:UnaryOp}{r:V->Hp->VK->Prop} (ho:UnR X (unaryOp op) r) (ha:PE X a ta):PE X (.UnaryOp op a pos) (tUn r ta):=by
 intro pins s σ H Q I h;exact UnaryOp_ (thn (ha pins s σ H _ I h) fun v s1 ⟨x,H1,I1,r1,q1⟩=>ho pins s1 σ H1 x v Q I1 r1 q1)
theorem opI {f:Value->Value->Sem Value}{C:Int->Int->Prop}{g:Int->Int->Int}
   (rule:∀ (i j:Int) (t u:Tok) (s:Shared) (Q:Value->Shared->Prop) (E:Value->Shared->Prop),C i j->Q (.int (g i j) s.toks) { s with toks:=s.toks+1 }->wpAny (model X.prog X.w) X.A (f (.int i t) (.int j u)) Q E s) :
   OpR X f (rI C fun i j=>.int (g i j)):=by
 intro pins s σ H x y v u Q I rx ry h;obtain⟨i,j,rfl,rfl,hc,q⟩:=h;obtain⟨t,rfl⟩:=rx;obtain⟨t',rfl⟩:=ry;exact rule i j t t' s _ _ hc ⟨.int (g i j),H,I.tok _,⟨_,rfl⟩,q⟩
theorem qja {f:Value->Value->Sem Value}{g:Int->Int->Int}
   (rule:∀ (i j:Int) (t u:Tok) (s:Shared) (Q:Value->Shared->Prop) (E:Value->Shared->Prop),Q (.int (g i j) s.toks) { s with toks:=s.toks+1 }->wpAny (model X.prog X.w) X.A (f (.int i t) (.int j u)) Q E s) :
   OpR X f (rI0 fun i j=>.int (g i j)):=by
 intro pins s σ H x y v u Q I rx ry h;obtain⟨i,j,rfl,rfl,q⟩:=h;obtain⟨t,rfl⟩:=rx;obtain⟨t',rfl⟩:=ry;exact rule i j t t' s _ _ ⟨.int (g i j),H,I.tok _,⟨_,rfl⟩,q⟩
theorem qh2 {f:Value->Value->Sem Value}{g:Int->Int->Bool}
   (rule:∀ (i j:Int) (t u:Tok) (s:Shared) (Q:Value->Shared->Prop) (E:Value->Shared->Prop),Q (.bool (g i j)) s->wpAny (model X.prog X.w) X.A (f (.int i t) (.int j u)) Q E s) :
   OpR X f (rI0 fun i j=>.bl (g i j)):=by
 intro pins s σ H x y v u Q I rx ry h;obtain⟨i,j,rfl,rfl,q⟩:=h;obtain⟨t,rfl⟩:=rx;obtain⟨t',rfl⟩:=ry;exact rule i j t t' s _ _ ⟨.bl (g i j),H,I,rfl,q⟩
def qjK (i j:Int):Prop:=0 < j∧j < 1073741824
def qjJ (i j:Int):Prop:=0≤j∧j≤1000000∧i.natAbs < 2 ^ 64
def CMul (i j:Int):Prop:=(-(2 ^ 64) < i∧i < 2 ^ 64)∨(-(2 ^ 64) < j∧j < 2 ^ 64)
theorem CMul.ok {i j:Int} (h:CMul i j):IntMulOk i j:=by
 rcases h with ⟨h1,h2⟩|⟨h1,h2⟩
 · exact .of_left (intBits_le_64 h1 h2)
 · exact .of_right (intBits_le_64 h1 h2)
theorem op_add:OpR X (binaryOp .Add) (rI0 fun i j=>.int (i+j)):=qja fun _ _ _ _ _ _ _ q=>add_int q
theorem Zk:OpR X (binaryOp .Sub) (rI0 fun i j=>.int (i - j)):=qja fun _ _ _ _ _ _ _ q=>sub_int q
theorem zp:OpR X (binaryOp .Mult) (rI CMul fun i j=>.int (i * j)):=opI fun _ _ _ _ _ _ _ hc q=>mul_int q hc.ok
theorem qaJ:OpR X (binaryOp .FloorDiv) (rI qjK fun i j=>.int (i / j)):=opI fun i j _ _ _ _ _ hc q=>by
 have h1:(0:Int) < j:=hc.1;have h2:j < 1073741824:=hc.2;exact floordiv_int (by omega) (by rw[Int.fdiv_eq_ediv_of_nonneg i (by omega)];exact q) (.inl (PyProof.noPylong_small (by omega)))
theorem zb:OpR X (binaryOp .Mod) (rI (fun _ j=>0 < j) fun i j=>.int (i % j)):=opI fun i j _ _ _ _ _ hc q=>by
 have h1:(0:Int) < j:=hc;exact mod_int' (by omega) (by rw[Int.fmod_eq_emod_of_nonneg i (by omega)];exact q)
theorem zo:OpR X (binaryOp .Pow) (rI qjJ fun i j=>.int (i ^ j.toNat)):=opI fun _ _ _ _ _ _ _ hc q=>pow_int_small hc.1 hc.2.1 hc.2.2 q
theorem unI {f:Value->Sem Value}{g:Int->Int}
   (rule:∀ (i:Int) (t:Tok) (s:Shared) (Q:Value->Shared->Prop) (E:Value->Shared->Prop),Q (.int (g i) s.toks) { s with toks:=s.toks+1 }->wpAny (model X.prog X.w) X.A (f (.int i t)) Q E s) :
   UnR X f (rU fun i=>.int (g i)):=by
 intro pins s σ H x v Q I rx h;obtain⟨i,rfl,q⟩:=h;obtain⟨t,rfl⟩:=rx;exact rule i t s _ _ ⟨.int (g i),H,I.tok _,⟨_,rfl⟩,q⟩
theorem qa3:UnR X (unaryOp .USub) (rU fun i=>.int (-i)):=unI fun _ _ _ _ _ q=>neg_int q
end
def qiV:V->V->Bool
 | .non,.non=>true|.non,.int _=>true|.int _,.non=>true|.non,.bl _=>true|.bl _,.non=>true|.non,.str _=>true|.str _,.non=>true
 | .int _,.int _=>true|.bl _,.bl _=>true|.str _,.str _=>true|.byt _,.byt _=>true
 | .int _,.str _=>true|.str _,.int _=>true|.bl _,.str _=>true|.str _,.bl _=>true
 | _,_=>false
def rEq:R2:=fun x y H Q=>qiV x y=true∧Q (.bl (decide (x=y))) H
def rNe:R2:=fun x y H Q=>qiV x y=true∧Q (.bl (!decide (x=y))) H
theorem qeg {i j:Int}:decide (V.int i=V.int j)=(i == j):=by
 rw[Bool.eq_iff_iff];simp
theorem qfV {i j:Bool}:decide (V.bl i=V.bl j)=(i == j):=by
 rw[Bool.eq_iff_iff];simp
theorem qef {i j:Str}:decide (V.str i=V.str j)=(i == j):=by
 rw[Bool.eq_iff_iff];simp
theorem qeh {i j:Array UInt8}:decide (V.byt i=V.byt j)=(i.toList == j.toList):=by
 rw[Bool.eq_iff_iff];cases i;cases j;simp
section
variable {X:Cx}{a b c:Expr}{ta tb tc:TE}{pos:Pos}
theorem qQ {pins:List (Addr×Obj)}{σ:St}{H:Hp}{s:Shared}{Q:VK}{k k':Bool} (I:Inv X pins σ H s) (q:Q (.bl k) H) (e:k=k'):EP X pins σ Q (.bool k') s:=by
 subst e;exact⟨.bl k,H,I,rfl,q⟩
theorem op_eq:OpR X (compareOp .Eq) rEq:=by
 intro pins s σ H x y v u Q I rx ry h;obtain⟨hs,q⟩:=h
 cases x with
 | non =>
   cases rx
   cases y with
   | non=>cases ry;exact PySem.EqNone.eq_none_none (qQ I q (by simp))
   | bl j=>cases ry;exact PySem.EqNone.eq_none_bool (qQ I q (by simp))
   | int j=>obtain⟨t',rfl⟩:=ry;exact PySem.EqNone.eq_none_int (qQ I q (by simp))
   | str j=>obtain⟨t',rfl⟩:=ry;exact PySem.EqNone.eq_none_str (qQ I q (by simp))
   | _=>exact absurd (show false=true from hs) Bool.false_ne_true
 | bl i =>
   cases rx
   cases y with
   | non=>cases ry;exact PySem.EqNone.eq_bool_none (qQ I q (by simp))
   | bl j=>cases ry;exact eq_bool (qQ I q qfV)
   | str j=>obtain⟨t',rfl⟩:=ry;exact PySem.EqMixed.eq_bool_str (qQ I q (by simp))
   | _=>exact absurd (show false=true from hs) Bool.false_ne_true
 | int i =>
   obtain⟨t,rfl⟩:=rx
   cases y with
   | non=>cases ry;exact PySem.EqNone.eq_int_none (qQ I q (by simp))
   | int j=>obtain⟨t',rfl⟩:=ry;exact eq_int (qQ I q qeg)
   | str j=>obtain⟨t',rfl⟩:=ry;exact PySem.EqMixed.eq_int_str (qQ I q (by simp))
   | _=>exact absurd (show false=true from hs) Bool.false_ne_true
 | str i =>
   obtain⟨t,rfl⟩:=rx
   cases y with
   | non=>cases ry;exact PySem.EqNone.eq_str_none (qQ I q (by simp))
   | bl j=>cases ry;exact PySem.EqMixed.eq_str_bool (qQ I q (by simp))
   | int j=>obtain⟨t',rfl⟩:=ry;exact PySem.EqMixed.eq_str_int (qQ I q (by simp))
   | str j=>obtain⟨t',rfl⟩:=ry;exact eq_str (qQ I q qef)
   | _=>exact absurd (show false=true from hs) Bool.false_ne_true
 | byt i =>
   obtain⟨t,rfl⟩:=rx
   cases y with
   | byt j=>obtain⟨t',rfl⟩:=ry;exact PySem.W.eq_bytes (qQ I q qeh)
   | _=>exact absurd (show false=true from hs) Bool.false_ne_true
 | _=>cases y<;>exact absurd (show false=true from hs) Bool.false_ne_true
theorem op_ne:OpR X (compareOp .NotEq) rNe:=by
 intro pins s σ H x y v u Q I rx ry h;obtain⟨hs,q⟩:=h
 cases x with
 | non =>
   cases rx
   cases y with
   | non=>cases ry;exact PySem.EqNone.ne_none_none (qQ I q (by simp))
   | bl j=>cases ry;exact PySem.EqNone.ne_none_bool (qQ I q (by simp))
   | int j=>obtain⟨t',rfl⟩:=ry;exact PySem.EqNone.ne_none_int (qQ I q (by simp))
   | str j=>obtain⟨t',rfl⟩:=ry;exact PySem.EqNone.ne_none_str (qQ I q (by simp))
   | _=>exact absurd (show false=true from hs) Bool.false_ne_true
 | bl i =>
   cases rx
   cases y with
   | non=>cases ry;exact PySem.EqNone.ne_bool_none (qQ I q (by simp))
   | bl j=>cases ry;exact ne_bool (qQ I q (congrArg not qfV))
   | str j=>obtain⟨t',rfl⟩:=ry;exact PySem.EqMixed.ne_bool_str (qQ I q (by simp))
   | _=>exact absurd (show false=true from hs) Bool.false_ne_true
 | int i =>
   obtain⟨t,rfl⟩:=rx
   cases y with
   | non=>cases ry;exact PySem.EqNone.ne_int_none (qQ I q (by simp))
   | int j=>obtain⟨t',rfl⟩:=ry;exact ne_int (qQ I q (congrArg not qeg))
   | str j=>obtain⟨t',rfl⟩:=ry;exact PySem.EqMixed.ne_int_str (qQ I q (by simp))
   | _=>exact absurd (show false=true from hs) Bool.false_ne_true
 | str i =>
   obtain⟨t,rfl⟩:=rx
   cases y with
   | non=>cases ry;exact PySem.EqNone.ne_str_none (qQ I q (by simp))
   | bl j=>cases ry;exact PySem.EqMixed.ne_str_bool (qQ I q (by simp))
   | int j=>obtain⟨t',rfl⟩:=ry;exact PySem.EqMixed.ne_str_int (qQ I q (by simp))
   | str j=>obtain⟨t',rfl⟩:=ry;exact ne_str (qQ I q (congrArg not qef))
   | _=>exact absurd (show false=true from hs) Bool.false_ne_true
 | byt i =>
   obtain⟨t,rfl⟩:=rx
   cases y with
   | byt j=>obtain⟨t',rfl⟩:=ry;exact PySem.W.ne_bytes (qQ I q (congrArg not qeh))
   | _=>exact absurd (show false=true from hs) Bool.false_ne_true
 | _=>cases y<;>exact absurd (show false=true from hs) Bool.false_ne_true
theorem qcN:OpR X (compareOp .Lt) (rI0 fun i j=>.bl (decide (i < j))):=qh2 fun _ _ _ _ _ _ _ q=>lt_int q
theorem qcO:OpR X (compareOp .LtE) (rI0 fun i j=>.bl (decide (i≤j))):=qh2 fun _ _ _ _ _ _ _ q=>le_int q
theorem qgt:OpR X (compareOp .Gt) (rI0 fun i j=>.bl (decide (j < i))):=qh2 fun _ _ _ _ _ _ _ q=>gt_int q
theorem qhr:OpR X (compareOp .GtE) (rI0 fun i j=>.bl (decide (j≤i))):=qh2 fun _ _ _ _ _ _ _ q=>ge_int q
theorem OpR.or {f:Value->Value->Sem Value}{r r':R2} (h:OpR X f r) (h':OpR X f r'):OpR X f (fun x y H Q=>r x y H Q∨r' x y H Q):=by
 intro pins s σ H x y v u Q I rx ry q;rcases q with q|q
 · exact h pins s σ H x y v u Q I rx ry q
 · exact h' pins s σ H x y v u Q I rx ry q
theorem qF (b:Expr) {op:CmpOp} (h:op≠.In:=by decide) (h2:op≠.NotIn:=by decide):behindInMarks op b=false:=by
 have e1:(op == CmpOp.In)=false:=by cases op<;>first|rfl|exact absurd rfl h
 have e2:(op == CmpOp.NotIn)=false:=by cases op<;>first|rfl|exact absurd rfl h2
 cases b<;>simp[behindInMarks,e1,e2]
theorem Qi {op:CmpOp}{r:R2} (ho:OpR X (compareOp op) r) (ha:PE X a ta) (hb:PE X b tb) (hm:behindInMarks op b=false):PE X (.Compare a [op] [b] pos) (tOp r ta tb):=by
 intro pins s σ H Q I h;exact wpAny_Compare1 (qiM ha hb I h fun v u s2 x y H2 I2 rx ry q=>ho pins s2 σ H2 x y v u Q I2 rx ry q) hm
inductive qdj (Q:(Bool->Hp->Prop)) (x:V) (H':Hp):Prop
 | mk (k:_) (h1:x=.bl k) (h2:Q k H'):qdj Q x H'
def qgY (t:TE):TT:=fun σ H Q=>t σ H fun x H'=>qdj Q x H'
theorem qD {op:CmpOp}{r:R2} (ho:OpR X (compareOp op) r) (ha:PE X a ta) (hb:PE X b tb) (hm:behindInMarks op b=false):PT X (.Compare a [op] [b] pos) (qgY (tOp r ta tb)):=by
 intro pins s σ H Q I h
 refine wpAny_isTrue_Compare1 (thn (ha pins s σ H _ I h) fun v s1 ⟨x,H1,I1,r1,q1⟩=>thn (hb pins s1 σ H1 _ I1 q1) fun u s2 ⟨y,H2,I2,r2,q2⟩ =>
   thn (ho pins s2 σ H2 x y v u _ I2 r1 r2 q2) fun c s3 ⟨z,H3,I3,r3,k,e,q3⟩=>?_) hm
 subst e;cases r3;exact wpAny_truthy_bool ⟨H3,I3,q3⟩
def qfr (r r':R2) (ta tb tc:TE):TE:=fun σ H Q=>ta σ H fun x H1=>tb σ H1 fun y H2=>r x y H2 fun z H3=>∃ k,z=.bl k ∧
 (if k=true then tc σ H3 fun w' H4=>r' y w' H4 Q else Q (.bl false) H3)
theorem qcn {op op':CmpOp}{r r':R2} (ho:OpR X (compareOp op) r) (ho':OpR X (compareOp op') r') (ha:PE X a ta) (hb:PE X b tb) (hc:PE X c tc)
   (hm:lastMarks [op,op'] [b,c]=false:=by with_unfolding_all rfl):PE X (.Compare a [op,op'] [b,c] pos) (qfr r r' ta tb tc):=by
 intro pins s σ H Q I h
 refine Compare_chain (thn (ha pins s σ H _ I h) fun v s1 ⟨x,H1,I1,r1,q1⟩=>chain_link (thn (hb pins s1 σ H1 _ I1 q1) fun u s2 ⟨y,H2,I2,r2,q2⟩ =>
   thn (ho pins s2 σ H2 x y v u _ I2 r1 r2 q2) fun d s3 ⟨z,H3,I3,r3,k,e,q3⟩=>?_)) hm
 subst e;cases r3;refine wpAny_truthy_bool ?_
 cases k with
 | false=>exact ite_ff ⟨.bl false,H3,I3,rfl,q3⟩
 | true=>exact ite_tt (chain_last (thn (hc pins s3 σ H3 _ I3 q3) fun w' s4 ⟨z',H4,I4,r4,q4⟩=>ho' pins s4 σ H4 y z' u w' Q I4 r2 r4 q4))
theorem qeP {op op':CmpOp}{r r':R2} (ho:OpR X (compareOp op) r) (ho':OpR X (compareOp op') r') (ha:PE X a ta) (hb:PE X b tb) (hc:PE X c tc)
   (hm:lastMarks [op,op'] [b,c]=false:=by with_unfolding_all rfl):PT X (.Compare a [op,op'] [b,c] pos) (qgY (qfr r r' ta tb tc)):=by
 intro pins s σ H Q I h
 refine isTrue_chain (thn (ha pins s σ H _ I h) fun v s1 ⟨x,H1,I1,r1,q1⟩=>test_link (thn (hb pins s1 σ H1 _ I1 q1) fun u s2 ⟨y,H2,I2,r2,q2⟩ =>
   thn (ho pins s2 σ H2 x y v u _ I2 r1 r2 q2) fun d s3 ⟨z,H3,I3,r3,k,e,q3⟩=>?_)) hm
 subst e;cases r3;refine wpAny_truthy_bool ?_
 cases k with
 | false =>
   obtain⟨k',e',q'⟩:=q3;cases e';exact ite_ff ⟨H3,I3,q'⟩
 | true =>
   refine ite_tt (test_last (thn (hc pins s3 σ H3 _ I3 q3) fun w' s4 ⟨z',H4,I4,r4,q4⟩=>thn (ho' pins s4 σ H4 y z' u w' _ I4 r2 r4 q4) fun d' s5 zz_=>?_));obtain⟨z2,H5,I5,r5,k2,e2,q5⟩:=zz_;subst e2;cases r5;exact wpAny_truthy_bool ⟨H5,I5,q5⟩
def qjd (K:Frag) (x:V) (H:Hp) (k:Bool):Prop :=
 match x with
 | .non=>k=false
 | .bl b=>k=b
 | .int i=>k=(i != 0)
 | .str y=>y.length≤sizeLine∧k=((y.length:Int) != 0)
 | .byt y=>y.size≤sizeLine∧k=((y.size:Int) != 0)
 | .ref p=>(∃ xs,SqL K H p xs∧k=!xs.isEmpty)∨(∃ xs,SqT K H p xs∧k=!xs.isEmpty)∨∃ kvs,H p=some (.dK kvs)∧k=!kvs.isEmpty
 | _=>False
theorem qcV {κ:Type}{kvs:List (κ×V)}{vs:List (κ×Value)} (r:KV kvs vs):(!vs.isEmpty)=!kvs.isEmpty:=by
 cases r<;>rfl
theorem qao {xs:List V}{its:List Value} (r:Vals xs its):(!its.toArray.isEmpty)=!xs.isEmpty:=by
 cases r<;>simp
theorem qak:(sizeLine:Nat) < 2 ^ 63:=by rw[sizeLine_eq];decide
theorem qgU:qjG X (fun x H Q=>∃ k,qjd X.K x H k∧Q k H):=by
 intro pins s σ H x v Q I rx h;obtain⟨k,e,q⟩:=h;have hl:=qak;have hs:sizeLine=16777216:=sizeLine_eq
 cases x with
 | non =>
   cases rx;have e':k=false:=e;subst e';exact truthy_none ⟨H,I,q⟩
 | bl b =>
   cases rx;have e':k=b:=e;subst e';exact wpAny_truthy_bool ⟨H,I,q⟩
 | int i =>
   obtain⟨t,rfl⟩:=rx;have e':k=(i != 0):=e;subst e';exact PySem.P.truthy_int ⟨H,I,q⟩
 | str y =>
   obtain⟨t,rfl⟩:=rx;obtain⟨hy,e'⟩:y.length≤sizeLine∧k=((y.length:Int) != 0):=e;subst e';exact PySem.P.truthy_str (by omega) ⟨H,I.tok _,q⟩
 | byt y =>
   obtain⟨t,rfl⟩:=rx;obtain⟨hy,e'⟩:y.size≤sizeLine∧k=((y.size:Int) != 0):=e;subst e';exact PySem.W.truthy_bytes (by omega) ⟨H,I.tok _,q⟩
 | ref p =>
   cases rx;have e':(∃ xs,SqL X.K H p xs∧k=!xs.isEmpty)∨(∃ xs,SqT X.K H p xs∧k=!xs.isEmpty)∨∃ kvs,H p=some (.dK kvs)∧k=!kvs.isEmpty:=e;rcases e' with ⟨xs,hx,e'⟩|⟨xs,hx,e'⟩|⟨kvs,hx,e'⟩
   · subst e';obtain⟨its,r,pl,hz⟩:=I.list hx;have hlen:=r.length;exact wpAny_truthy_list pl.isList (by simp only[List.size_toArray];omega) ⟨H,I.tok _,by rw[qao r];exact q⟩
   · subst e';obtain⟨its,r,pl,hz⟩:=I.tuple hx;have hlen:=r.length;exact truthy_tuple pl (by simp only[List.size_toArray];omega) ⟨H,I.tok _,by rw[qao r];exact q⟩
   · subst e';obtain⟨hz,hS,vs,r,m⟩:kvs.length≤sizeLine∧(p == sysModules)=false∧∃ vs,KV kvs vs∧s.heap.DictOf (qbX X.prog X.w) p vs:=I.hok p _ hx;have hlen:kvs.length=vs.length:=Paired.length r;exact wpAny_truthy_dict hS m (by omega) ⟨H,I.tok _,by rw[qcV r];exact q⟩
 | _=>exact(show False from e).elim
theorem qeO (ha:PE X a ta) (he:∀ whole,isTrue a X.env whole=(do let v ← whole;standAt a.pos;holding [v] (truthy v))) :
   PT X a (fun σ H Q=>ta σ H fun x H'=>∃ k,qjd X.K x H' k∧Q k H'):=by
 intro pins s σ H Q I h;exact isTrue_plain (thn (ha pins s σ H _ I h) fun v s1 ⟨x,H1,I1,r1,q1⟩=>qgU pins s1 σ H1 x v Q I1 r1 q1) (he _)
theorem qcP:OpR X (binaryOp .Add) (fun x y H Q=>∃ i j,x=.str i∧y=.str j∧i.length+j.length≤sizeLine∧Q (.str (i++j)) H):=by
 intro pins s σ H x y v u Q I rx ry h;obtain⟨i,j,rfl,rfl,hz,q⟩:=h;obtain⟨t,rfl⟩:=rx;obtain⟨t',rfl⟩:=ry;exact add_str (fun t' tk=>⟨.str (i++j),H,I.tok _,⟨_,rfl⟩,q⟩) hz
theorem JI {x:V}{us:List Value} (r:Vals [x] us):∃ u,us=[u]∧RelV x u:=by
 cases r with
 | cons r1 r2=>cases r2;exact⟨_,rfl,r1⟩
theorem qdb {x y:V}{us:List Value} (r:Vals [x,y] us):∃ u w',us=[u,w']∧RelV x u∧RelV y w':=by
 cases r with
 | cons r1 r2 =>
   cases r2 with
   | cons r3 r4=>cases r4;exact⟨_,_,rfl,r1,r3⟩
theorem qem (hc:X.calm=true):Z3 X (.builtin "max") (fun xs H Q=>∃ i j,xs=[.int i,.int j]∧Q (.int (if j > i then j else i)) H):=by
 intro pins s σ H xs us Q I r h;obtain⟨i,j,rfl,q⟩:=h;obtain⟨u,w',rfl,⟨t,rfl⟩,⟨t',rfl⟩⟩:=qdb r;refine max_two_ints (I.ok.hd hc) fun h' tk k=>⟨_,H,I.kept k,?_,q⟩
 by_cases hj:j > i
 · rw[if_pos hj,if_pos hj];exact⟨_,rfl⟩
 · rw[if_neg hj,if_neg hj];exact⟨_,rfl⟩
theorem qbz (hc:X.calm=true):Z3 X (.builtin "min") (fun xs H Q=>∃ i j,xs=[.int i,.int j]∧Q (.int (if j < i then j else i)) H):=by
 intro pins s σ H xs us Q I r h;obtain⟨i,j,rfl,q⟩:=h;obtain⟨u,w',rfl,⟨t,rfl⟩,⟨t',rfl⟩⟩:=qdb r;refine min_two_ints (I.ok.hd hc) fun h' tk k=>⟨_,H,I.kept k,?_,q⟩
 by_cases hj:j < i
 · rw[if_pos hj,if_pos hj];exact⟨_,rfl⟩
 · rw[if_neg hj,if_neg hj];exact⟨_,rfl⟩
theorem zT:Z3 X (.type "str") (fun xs H Q=>∃ i,xs=[.int i]∧i.natAbs.log2 < 1920∧Q (.str (toString i)) H):=by
 intro pins s σ H xs us Q I r h;obtain⟨i,rfl,hz,q⟩:=h;obtain⟨u,rfl,t,rfl⟩:=JI r;exact PySem.P.str_of_int hz ⟨.str _,H,I.tok _,⟨_,rfl⟩,q⟩
def qjI (K:Frag) (x:V) (H:Hp) (n:Nat):Prop :=
 match x with
 | .str y=>y.length≤sizeLine∧n=y.length
 | .byt y=>y.size≤sizeLine∧n=y.size
 | .ref p=>(∃ xs,SqL K H p xs∧n=xs.length)∨∃ xs,SqT K H p xs∧n=xs.length
 | _=>False
theorem zd:Z3 X (.builtin "len") (fun xs H Q=>∃ x n,xs=[x]∧qjI X.K x H n∧Q (.int n) H):=by
 intro pins s σ H xs us Q I r h;obtain⟨x,n,rfl,e,q⟩:=h;obtain⟨u,rfl,rx⟩:=JI r;have hl:=qak;have hs:sizeLine=16777216:=sizeLine_eq
 cases x with
 | str y =>
   obtain⟨t,rfl⟩:=rx;obtain⟨hy,e'⟩:y.length≤sizeLine∧n=y.length:=e;subst e';exact len_str (by omega) ⟨.int _,H,I.tok _,⟨_,rfl⟩,q⟩
 | byt y =>
   obtain⟨t,rfl⟩:=rx;obtain⟨hy,e'⟩:y.size≤sizeLine∧n=y.size:=e;subst e';exact PySem.W.len_bytes (by omega) ⟨.int _,H,I.tok _,⟨_,rfl⟩,q⟩
 | ref p =>
   cases rx;have e':(∃ xs,SqL X.K H p xs∧n=xs.length)∨∃ xs,SqT X.K H p xs∧n=xs.length:=e;rcases e' with ⟨xs,hx,e'⟩|⟨xs,hx,e'⟩
   · subst e';obtain⟨its,r',pl,hz⟩:=I.list hx;have hlen:=r'.length;exact Calls.call_len_list pl.isList (by simp only[List.size_toArray];omega) ⟨.int xs.length,H,I.tok _,⟨_,by simp only[List.size_toArray];rw[hlen]⟩,q⟩
   · subst e';obtain⟨its,r',pl,hz⟩:=I.tuple hx;have hlen:=r'.length;exact len_tuple pl (by simp only[List.size_toArray];omega) ⟨.int xs.length,H,I.tok _,⟨_,by simp only[List.size_toArray];rw[hlen]⟩,q⟩
 | _=>exact(show False from e).elim
end
structure ObjM (h:Heap) (x dx C:Addr) (mA:Str->Option Value):Prop where
 obj:h.get? x=some (instObj C dx)
 ns:h.Ns1 dx mA
 ne:dx≠x
theorem qbs {h:Heap}{dx:Addr}{mA:Str->Option Value} (n:h.Ns1 dx mA):∃ od,h.get? dx=some od∧∀ name,lookIn name od=some (mA name):=by
 obtain⟨o,es,ep,ho,hd,hk,_,hm⟩:=n;refine⟨o,ho,fun name=>?_⟩;have e:=hm name;unfold nsFind findBy at e;rw[← Array.find?_toList]at e;unfold lookIn;rw[hd];dsimp only;split
 · rename_i y q
   rw[q]at e;exact congrArg some e
 · rename_i q
   rw[q]at e
   have a:es.toList.any (·.refKey)=false:=by
     rw[List.any_eq_false];intro y hy;obtain⟨z,t,hkey⟩:=hk y (Array.mem_toList_iff.mp hy);simp[DictEntry.refKey,hkey]
   have a':¬ es.toList.any (·.refKey)=true:=by rw[a];exact Bool.false_ne_true
   rw[if_neg a'];exact congrArg some e
theorem ObjM.look {h:Heap}{x dx C:Addr}{mA:Str->Option Value} (I:ObjM h x dx C mA):∃ od,PySem.W.InstAt h x (instObj C dx) C (some od)∧∀ name,lookIn name od=some (mA name) :=
 let ⟨od,ho,hl⟩:=qbs I.ns
 ⟨od,⟨I.obj,rfl,rfl,ho⟩,hl⟩
section
variable {prog:Program}{w:World}{A:Around}{E:Value->Shared->Prop}{s:Shared}{K:Frag}{x dx C f:Addr}{mA:Str->Option Value}{name:Str}{v:Value}
theorem qgF {expr:Bool}{Q:Value->Shared->Prop} (X:K.In s.heap) (I:ObjM s.heap x dx C mA) (hg:plainGet K C name=true) (hh:hasDictIn K C=true)
   (ha:findIn K (.ref C) name=some none) (hv:mA name=some v) (hv':handedIn v=true) (h:Q v { s with toks:=s.toks+1 }) :
   wpAny (model prog w) A (getAttr (.ref x) name expr) Q E s:=by
 obtain⟨od,J,hl⟩:=I.look;exact PySem.W.get_value X J (plainGet_of hg).1 (PySem.W.findObj_own hh ha rfl (by rw[hl,hv])) hv' h
theorem qfd {pl:Sem Bool}{Q:Value×List Value->Shared->Prop} (X:K.In s.heap) (I:ObjM s.heap x dx C mA) (hg:plainGet K C name=true)
   (hf:findIn K (.ref C) name=some (some (.ref f))) (ht:isFn K (.ref f)=true) (hv:mA name=none) (h:Q (.ref f,[.ref x]) s) :
   wpAny (model prog w) A (getMethod (.ref x) name pl) Q E s:=by
 obtain⟨od,J,hl⟩:=I.look;exact PySem.W.method_fn X J (plainGet_of hg).1 (plainGet_of hg).2 hf (beq_iff_eq.mp ht) (by show (lookIn name od).map (·.isSome)=some false;rw[hl,hv];rfl) h
theorem qgh {ns:List Str}{Q:Unit->Shared->Prop} (X:K.In s.heap) (I:ObjM s.heap x dx C mA)
   (hs:findIn K (.ref C) "__setattr__"=some (some (.builtin "object.__setattr__"))) (hp:plainOver K C=true) (ht:takerIn K C name=some none) (hh:hasDictIn K C=true)
   (hw:PySem.Within mA ns) (hsz:ns.length≤sizeLine)
   (h:∀ h',ObjM h' x dx C (fun y=>if y=name then some v else mA y)->Heap.SameBut dx s.heap h'->Q () { s with heap:=h',toks:=s.toks+2 }) :
   wpAny (model prog w) A (setAttr (.ref x) name v) Q E s:=by
 obtain⟨od,J,hl⟩:=I.look;refine PySem.W.set_plain X J hs (PySem.W.osa_open (s:={ s with toks:=s.toks+1 }) (r:=none) X J hp ht fun b=>?_);obtain⟨cd,hc,hd'⟩:=PySem.W.any_some hh;have hx:s.heap.get? x=some ⟨.ref C,some dx,.plain,#[]⟩:=I.obj;refine wpAny_bind (wpAny_pure (wpAny_bind (wpAny_bind (wpAny_loadPart hx (wpAny_bind (PySem.W.Looks.here (s:={ s with toks:=s.toks+1 }) (PySem.W.looks_clsIn X hc) ?_))))));rw[hd'];refine wpAny_pure (a:=some dx) (wpAny_bind (wpAny_pure (wpAny_bind ?_)));refine wpAny_nsSet1 (s:={ s with toks:=s.toks+1 }) I.ns fun h' hn2 hs2=>?_;obtain⟨oD,esD,epD,hoD,hdD,hcD⟩:=hn2.count (PySem.Within.cons name v hw);refine wpAny_bind (wpAny_lookBehind hoD (by rw[hdD];exact pastItsLine_dict (Nat.le_trans hcD (by rw[List.length_cons];omega))) ?_);exact wpAny_pure (h _ ⟨(hs2.2 _ (Ne.symm I.ne)).trans I.obj,hn2,I.ne⟩ hs2)
theorem qe4 {R:Result->Shared->Prop}{vs:List Value}{kw:List (Str×Value)} (X:K.In s.heap) (hm:makesIn K C=true)
   (hi:findIn K (.ref C) "__init__"=some (some (.ref f))) (hf:PySem.W.typeIn K (.ref f)=some (.type "function"))
   (h:codeAny (model prog w) (A.under (.builtin "type.__call__" ⟨.ref C::vs,kw⟩)) (.call (.ref f) ⟨.ref (s.heap.objs.size+1)::vs,kw⟩) (PySem.W.InitBack (s.heap.objs.size+1) R)
     { s with heap:=(s.heap.push emptyDict).push (instObj C s.heap.objs.size) }) :
   codeAny (model prog w) A (.call (.ref C) ⟨vs,kw⟩) R s:=by
 obtain⟨hh,g,d,t,os⟩:=s;exact PySem.W.make_core (PySem.W.makes_of X hm) (PySem.W.looks_findIn X hi) (fun self=>PySem.W.bind_fn X self hf) (.inl rfl) h
end
def qbK (f:Str) (v:V):List (Str×V)->List (Str×V)
 | []=>[(f,v)]
 | (g,x)::r=>if g=f then (g,v)::r else (g,x)::qbK f v r
theorem Ju (f g:Str) (v:V):∀ fs:List (Str×V),(qbK f v fs).lookup g=if g=f then some v else fs.lookup g
 | []=>by
   show List.lookup g [(f,v)]=_;by_cases h:g=f
   · have hb:(g == f)=true:=beq_iff_eq.mpr h;simp only[List.lookup,hb,if_pos h]
   · have hb:(g == f)=false:=beq_eq_false_iff_ne.mpr h;simp only[List.lookup,hb,if_neg h]
 | (k,x)::r=>by
   have ih:=Ju f g v r;rw[show qbK f v ((k,x)::r)=(if k=f then (k,v)::r else (k,x)::qbK f v r) from rfl];by_cases hk:k=f
   · rw[if_pos hk];by_cases h:g=k
     · have hb:(g == k)=true:=beq_iff_eq.mpr h;simp only[List.lookup,hb,if_pos (h.trans hk)]
     · have hb:(g == k)=false:=beq_eq_false_iff_ne.mpr h;simp only[List.lookup,hb,if_neg (fun e:g=f=>h (e.trans hk.symm))]
   · rw[if_neg hk];by_cases h:g=k
     · have hb:(g == k)=true:=beq_iff_eq.mpr h;simp only[List.lookup,hb,if_neg (fun e:g=f=>hk (h.symm.trans e))]
     · have hb:(g == k)=false:=beq_eq_false_iff_ne.mpr h;simp only[List.lookup,hb];exact ih
theorem Jz (f:Str) (v:V):∀ fs:List (Str×V),f∈(qbK f v fs).map (·.1)∧∀ g,g∈fs.map (·.1)->g∈(qbK f v fs).map (·.1)
 | []=>⟨by simp[qbK],fun g h=>by simp at h⟩
 | (k,x)::r=>by
   obtain⟨i1,i2⟩:=Jz f v r;rw[show qbK f v ((k,x)::r)=(if k=f then (k,v)::r else (k,x)::qbK f v r) from rfl];by_cases hk:k=f
   · rw[if_pos hk];subst hk;exact⟨by simp,fun g h=>by simpa using h⟩
   · rw[if_neg hk];refine⟨?_,fun g h=>?_⟩
     · rw[List.map_cons];exact List.mem_cons_of_mem _ i1
     · rw[List.map_cons]at h ⊢;rcases List.mem_cons.mp h with e|e
       · exact List.mem_cons.mpr (.inl e)
       · exact List.mem_cons_of_mem _ (i2 g e)
theorem Jw (f:Str) (v:V):∀ fs:List (Str×V),(qbK f v fs).length≤fs.length+1
 | []=>by simp[qbK]
 | (k,x)::r=>by
   have ih:=Jw f v r;rw[show qbK f v ((k,x)::r)=(if k=f then (k,v)::r else (k,x)::qbK f v r) from rfl];by_cases hk:k=f
   · rw[if_pos hk,List.length_cons,List.length_cons];omega
   · rw[if_neg hk,List.length_cons,List.length_cons];omega
theorem RelO.some_of {v:V}{o:Option Value} (r:RelO (some v) o):∃ u,o=some u∧RelV v u:=by
 cases o with
 | none=>exact(show False from r).elim
 | some u=>exact⟨u,rfl,r⟩
theorem RelO.none_of {o:Option Value} (r:RelO none o):o=none:=by
 cases o with
 | none=>rfl
 | some u=>exact(show False from r).elim
theorem qbu {v:V}{u:Value} (r:RelV v u):handedIn u=true:=by
 cases v with
 | non=>cases (show u=Value.none from r);rfl
 | bl b=>cases (show u=Value.bool b from r);rfl
 | int i=>obtain⟨t,e⟩:=(show ∃ t,u=Value.int i t from r);cases e;rfl
 | str x=>obtain⟨t,e⟩:=(show ∃ t,u=Value.str x t from r);cases e;rfl
 | byt b=>obtain⟨t,e⟩:=(show ∃ t,u=Value.bytes b t from r);cases e;rfl
 | flt b=>obtain⟨t,e⟩:=(show ∃ t,u=Value.float b t from r);cases e;rfl
 | ref a=>cases (show u=Value.ref a from r);rfl
 | ty n=>cases (show u=Value.type n from r);rfl
section
variable {P:Program}{w:World}{H H':Hp}{h h':Heap}{a C dx:Addr}{fs fs':List (Str×V)}
theorem qaV (hok:HOk P w H h) (e:H a=some (.ins C dx fs)):∃ mA,ObjM h a dx C mA∧(∀ f,RelO (fs.lookup f) (mA f))∧PySem.Within mA (fs.map (·.1))∧fs.length≤1000∧H dx=some (.own a):=by
 obtain⟨d,z,ne,ob,mA,n,r,q⟩:=(show ObjOk P w H h a (.ins C dx fs) from hok a _ e)
 exact⟨mA,⟨ob,n,ne⟩,r,q,z,d⟩
end
structure Cls (K:Frag) (C:Addr):Prop where
 pg:plainGet K C Str.empty=true
 hd:hasDictIn K C=true
 po:plainOver K C=true
 sa:findIn K (.ref C) "__setattr__"=some (some (.builtin "object.__setattr__"))
theorem Cls.get {K:Frag}{C:Addr} (c:Cls K C) (f:Str):plainGet K C f=true:=c.pg
def NoAttr (K:Frag) (C:Addr) (f:Str):Prop:=findIn K (.ref C) f=some none
theorem NoAttr.taker {K:Frag}{C:Addr}{f:Str} (n:NoAttr K C f):takerIn K C f=some none:=by
 unfold takerIn;rw[show findIn K (.ref C) f=some none from n];rfl
structure qfm (K:Frag) (C:Addr) (m:Str) (f:Addr):Prop where
 at_:findIn K (.ref C) m=some (some (.ref f))
 fn:isFn K (.ref f)=true
 kp:keepIn K (.ref f)=true
section
variable {X:Cx}{pins:List (Addr×Obj)}{σ:St}{H:Hp}{s:Shared}{a C dx:Addr}{fs:List (Str×V)}{f:Str}{v:V}{A:Around}{E:Value->Shared->Prop}
theorem qcX {b:Bool}{Q:Value->Shared->Prop} (I:Inv X pins σ H s) (e:H a=some (.ins C dx fs)) (c:Cls X.K C) (n:NoAttr X.K C f) (l:fs.lookup f=some v)
   (h:∀ u s',Inv X pins σ H s'->RelV v u->Q u s'):wpAny (model X.prog X.w) A (getAttr (.ref a) f b) Q E s:=by
 obtain⟨mA,O,r,_,_,_⟩:=qaV I.hok e;obtain⟨u,hu,ru⟩:=RelO.some_of (v:=v) (o:=mA f) (by rw[← l];exact r f);exact qgF I.kIn O (c.get f) c.hd n hu (qbu ru) (h u _ (I.tok _) ru)
theorem qap {m:Str}{g:Addr}{pl:Sem Bool}{Q:Value×List Value->Shared->Prop} (I:Inv X pins σ H s) (e:H a=some (.ins C dx fs)) (c:Cls X.K C) (k:qfm X.K C m g) (l:fs.lookup m=none)
   (h:Q (.ref g,[.ref a]) s):wpAny (model X.prog X.w) A (getMethod (.ref a) m pl) Q E s:=by
 obtain⟨mA,O,r,_,_,_⟩:=qaV I.hok e;have hn:mA m=none:=RelO.none_of (by rw[← l];exact r m);exact qfd I.kIn O (c.get m) k.at_ k.fn hn h
theorem qcH {y:V}{u:Value}{Q:Unit->Shared->Prop} (I:Inv X pins σ H s) (e:H a=some (.ins C dx fs)) (c:Cls X.K C) (n:NoAttr X.K C f) (hl:fs.length < 1000) (ry:RelV y u)
   (h:∀ s',Inv X pins σ (upd H a (.ins C dx (qbK f y fs))) s'->Q () s'):wpAny (model X.prog X.w) A (setAttr (.ref a) f u) Q E s:=by
 obtain⟨mA,O,r,wi,_,ho⟩:=qaV I.hok e;have hz:(fs.map (·.1)).length≤sizeLine:=by rw[List.length_map,sizeLine_eq];omega
 refine qgh I.kIn O c.sa c.po n.taker c.hd wi hz fun h' O' sb=>h _ ?_;have hd:∃ o,h'.get? dx=some o:=let ⟨o,_,_,e',_⟩:=O'.ns;⟨o,e'⟩;refine I.write (x:=a) (e:=dx) (by rw[e];exact True.intro) (.inr ho) (fun b q hb z=>(sb.2 b hb).trans z) hd ?_;refine⟨by rw[qi O.ne];exact ho,?_,O.ne,O'.obj,_,O'.ns,fun g=>?_,fun g hg=>?_⟩
 · have:=Jw f y fs;omega
 · show RelO ((qbK f y fs).lookup g) (if g=f then some u else mA g);rw[Ju];by_cases q:g=f
   · rw[if_pos q,if_pos q];exact ry
   · rw[if_neg q,if_neg q];exact r g
 · by_cases q:g=f
   · rw[q];exact(Jz f y fs).1
   · refine(Jz f y fs).2 g (wi g fun z=>hg ?_);show (if g=f then some u else mA g)=none;rw[if_neg q];exact z
theorem Inv.made (I:Inv X pins σ H s):Inv X pins σ (upd (upd H s.heap.objs.size (.own (s.heap.objs.size+1))) (s.heap.objs.size+1) (.ins C s.heap.objs.size []))
   { s with heap:=(s.heap.push emptyDict).push (instObj C s.heap.objs.size) }:=by
 have e1:(s.heap.push emptyDict).get? s.heap.objs.size=some emptyDict:=Heap.get?_push_size s.heap rfl
 have e2:((s.heap.push emptyDict).push (instObj C s.heap.objs.size)).get? (s.heap.objs.size+1)=some (instObj C s.heap.objs.size):=by
   have:=Heap.get?_push_size (s.heap.push emptyDict) (o:=instObj C s.heap.objs.size) rfl
   rwa [Heap.size_push]at this
 have e3:(s.heap.push emptyDict).Ns s.heap.objs.size (fun _=>none):=⟨emptyDict,#[],_,e1,rfl,(fun e he=>absurd he (by simp)),fun _=>rfl⟩
 have I1:=I.laid (a:=s.heap.objs.size) (o:=.own (s.heap.objs.size+1)) (h':=s.heap.push emptyDict) (t':=s.toks) (fun b u q=>Heap.get?_push_of_some _ q) (Nat.le_refl _) ⟨_,e1⟩;refine I1.laid (a:=s.heap.objs.size+1) (o:=.ins C s.heap.objs.size []) (t':=s.toks) (fun b u q=>Heap.get?_push_of_some _ q) (Nat.le_of_eq (Heap.size_push _ _)) ?_;have ne:s.heap.objs.size≠s.heap.objs.size+1:=Nat.ne_of_lt (Nat.lt_succ_self _);refine⟨by rw[qi ne,qe],Nat.zero_le _,ne,e2,fun _=>none,(Heap.Ns1.of_empty e3).at fun o q=>Heap.get?_push_of_some _ q,fun _=>True.intro,fun y hy=>absurd rfl hy⟩
theorem qev {prog:Program}{w:World}{env:Env}{e:Expr}{f:Str}{pos:Pos}{s:Shared}{Q:Value->Shared->Prop} (hb:attributeBase e f env (eval e env)=eval e env)
   (h:wpAny (model prog w) A (eval e env) (fun o s₁=>wpAny (model prog w) A (getAttr o f true) Q E s₁) E s):wpAny (model prog w) A (eval (.Attribute e f pos) env) Q E s :=
 Attribute_any_ h (by rw[arm_eval_Attribute,hb])
end
inductive qfq (K:Frag) (f:Str) (Q:VK) (x:V) (H1:Hp):Prop
 | mk (a C dx fs v:_) (h1:x=.ref a) (h2:H1 a=some (.ins C dx fs)) (h3:Cls K C) (h4:NoAttr K C f) (h5:fs.lookup f=some v) (h6:Q v H1):qfq K f Q x H1
def qjp (K:Frag) (ta:TE) (f:Str):TE:=fun σ H Q=>ta σ H fun x H1=>qfq K f Q x H1
def qjr (K:Frag) (ta tv:TE) (f:Str):TS:=fun D σ H=>tv σ H fun y H1=>ta σ H1 fun x H2=>∃ a C dx fs,x=.ref a∧H2 a=some (.ins C dx fs)∧Cls K C∧NoAttr K C f∧fs.length < 1000 ∧
 D.nx σ (upd H2 a (.ins C dx (qbK f y fs)))
section
variable {X:Cx}{o e value:Expr}{f:Str}{pos pos' tpos:Pos}{ta tv:TE}
theorem zG (he:PE X e ta) (hb:attributeBase e f X.env (eval e X.env)=eval e X.env):PE X (.Attribute e f pos) (qjp X.K ta f):=by
 intro pins s σ H Q I h;refine qev hb (thn (he pins s σ H _ I h) fun u s1 zz_=>?_);obtain⟨x,H1,I1,rx,a,C,dx,fs,v,ex,ea,c,n,l,q⟩:=zz_;subst ex;obtain rfl:u=Value.ref a:=rx;exact qcX I1 ea c n l fun u' s2 I2 ru=>⟨v,H1,I2,ru,q⟩
theorem ZT (ha:PE X o ta) (hv:PE X value tv) (hs:swapsWith value (some (.Attribute o f pos')) pos.line X.env=pure false):PS X (.Assign [.Attribute o f pos'] value pos) (qjr X.K ta tv f):=by
 intro pins s σ H D I h;refine plainObj_wpAny_Assign_Attribute (thn (hv pins s σ H _ I h) fun u s1 ⟨y,H1,I1,ry,q⟩=>thn (ha pins s1 σ H1 _ I1 q) fun ov s2 zz_=>?_) hs;obtain⟨x,H2,I2,rx,a,C,dx,fs,ex,ea,c,n,l,q2⟩:=zz_;subst ex;obtain rfl:ov=Value.ref a:=rx;exact qcH I2 ea c n l ry fun s3 I3=>⟨σ,_,I3,q2⟩
end
section
variable {X:Cx}{pins:List (Addr×Obj)}{σ:St}{H:Hp}{s:Shared}{A:Around}{E:Value->Shared->Prop}{Q:Value->Shared->Prop}{c:Value}{b:Bool}
inductive qa0 (K:Frag) (H:Hp):V->Value->Prop where
 | non:qa0 K H .non (.type "NoneType")
 | bl (x:Bool):qa0 K H (.bl x) (.type "bool")
 | int (i:Int):qa0 K H (.int i) (.type "int")
 | str (x:Str):qa0 K H (.str x) (.type "str")
 | flt (x:UInt64):qa0 K H (.flt x) (.type "float")
 | lst {a:Addr}{xs:List V} (e:H a=some (.lst xs)):qa0 K H (.ref a) (.type "list")
 | frz {a:Addr}{o:Obj}{xs:List V} (e:H a=some (.frz o (.lst xs))):qa0 K H (.ref a) (.type "list")
 | tup {a:Addr}{xs:List V} (e:H a=some (.tup xs)):qa0 K H (.ref a) (.type "tuple")
 | dK {a:Addr}{kvs:List (Key×V)} (e:H a=some (.dK kvs)):qa0 K H (.ref a) (.type "dict")
 | dT {a:Addr}{kvs:List (List Key×V)} (e:H a=some (.dT kvs)):qa0 K H (.ref a) (.type "dict")
 | ins {a C dx:Addr}{fs:List (Str×V)} (e:H a=some (.ins C dx fs)) (cl:Cls K C) (ha:findIn K (.ref C) "__class__"=some (some (.builtin "object.__class__")))
     (hn:PySem.W.specialIn K (.builtin "object.__class__") "__get__"=some (some (.builtin "getset_descriptor.__get__"))) (htk:PySem.W.takesIn K (.builtin "object.__class__")=some true)
     (hm:PySem.W.mroIn K C (.type "object")=some true):qa0 K H (.ref a) (.ref C)
theorem qbt {x:V}{u t:Value} (I:Inv X pins σ H s) (rx:RelV x u) (ty:qa0 X.K H x t) (e:PySem.W.kitOne X.K t c=some b) (h:∀ tk,Q (.bool b) { s with toks:=tk }) :
   wpAny (model X.prog X.w) A (call (.builtin "isinstance") [u,c]) Q E s:=by
 cases ty with
 | non=>cases (show u=Value.none from rx);exact kia_one PySem.W.kitx_none I.kIn True.intro e (fun z=>nomatch z) h
 | bl y=>cases (show u=Value.bool y from rx);exact kia_one PySem.W.kitx_bool I.kIn True.intro e (fun z=>nomatch z) h
 | int i=>obtain⟨t,q⟩:=(show ∃ t,u=Value.int i t from rx);cases q;exact kia_one PySem.W.kitx_int I.kIn True.intro e (fun z=>nomatch z) h
 | str y=>obtain⟨t,q⟩:=(show ∃ t,u=Value.str y t from rx);cases q;exact kia_one PySem.W.kitx_str I.kIn True.intro e (fun z=>nomatch z) h
 | flt y=>obtain⟨t,q⟩:=(show ∃ t,u=Value.float y t from rx);cases q;exact kia_one PySem.W.kitx_float I.kIn True.intro e (fun z=>nomatch z) h
 | @lst a xs ea =>
   cases (show u=Value.ref a from rx);obtain⟨_,_,n,_,h1⟩:=(show ObjOk X.prog X.w H s.heap a (.lst xs) from I.hok a _ ea)
   exact kia_one kitx_list I.kIn ⟨_,h1,rfl⟩ e (fun z=>nomatch z) h
 | @frz a ob xs ea =>
   cases (show u=Value.ref a from rx);obtain⟨_,_,_,n,_,h1⟩:=(show ObjOk X.prog X.w H s.heap a (.frz ob (.lst xs)) from I.hok a _ ea)
   exact kia_one kitx_list I.kIn ⟨_,h1,rfl⟩ e (fun z=>nomatch z) h
 | @tup a xs ea =>
   cases (show u=Value.ref a from rx);obtain⟨_,_,_,p⟩:=(show ObjOk X.prog X.w H s.heap a (.tup xs) from I.hok a _ ea)
   obtain⟨o,h1,h2,_⟩:=p;exact kia_one PySem.W.kitx_tuple I.kIn ⟨o,h1,h2⟩ e (fun z=>nomatch z) h
 | @dK a kvs ea =>
   cases (show u=Value.ref a from rx);obtain⟨_,_,vs,_,p⟩:=(show ObjOk X.prog X.w H s.heap a (.dK kvs) from I.hok a _ ea)
   obtain⟨o,es,ep,h1,h2,_⟩:=p;exact kia_one kitx_dict I.kIn ⟨o,h1,h2.1⟩ e (fun z=>nomatch z) h
 | @dT a kvs ea =>
   cases (show u=Value.ref a from rx);obtain⟨_,_,xs,_,o,es,ep,h1,h2,_⟩:=(show ObjOk X.prog X.w H s.heap a (.dT kvs) from I.hok a _ ea)
   exact kia_one kitx_dict I.kIn ⟨o,h1,h2.1⟩ e (fun z=>nomatch z) h
 | @ins a C dx fs ea cl ha hn htk hm =>
   cases (show u=Value.ref a from rx);obtain⟨mA,O,_⟩:=qaV I.hok ea;obtain⟨od,J,_⟩:=O.look;exact kia_one (PySem.W.kitx_own (cl.get _) cl.hd ha hn htk hm) I.kIn J e (fun z=>nomatch z) h
end
structure Room (k:Nat) (A:Around):Prop where
 hd:A.handled=none
 dp:A.depth+3 * k+5 < recursionLimit
 un:A.units+16 * k+200 < cLine
 gd:A.guards=some []
theorem Room.mono {j k:Nat}{A:Around} (r:Room k A) (h:j≤k):Room j A:=⟨r.hd,by have:=r.dp;omega,by have:=r.un;omega,r.gd⟩
theorem Room.deeper {k:Nat}{A:Around} (r:Room (k+1) A) (env:Env):Room k (A.deeper env) :=
 ⟨r.hd,by have:=r.dp;show A.depth+1+3 * k+5 < _;omega,by have:=r.un;show A.units+3+16 * k+200 < _;omega,r.gd⟩
theorem qcU {A:Around}{C:Addr}{us:List Value}{kw:List (Str×Value)}:(A.under (.builtin "type.__call__" ⟨.ref C::us,kw⟩)).depth=A.depth+1:=by
 first|rfl|simp[Around.under,Code.weight,Code.isCreation,Code.isGuard,Code.isCaller,Code.frames,Code.isFrame,guardIds]
theorem qcT {A:Around}{C:Addr}{us:List Value}{kw:List (Str×Value)}:(A.under (.builtin "type.__call__" ⟨.ref C::us,kw⟩)).units=A.units+1:=by
 first|rfl|simp[Around.under,Code.cUnits,Code.frames,Code.isFrame]
theorem Room.make {k:Nat}{A:Around} (r:Room (k+1) A) (C:Addr) (us:List Value) (kw:List (Str×Value)):Room k (A.under (.builtin "type.__call__" ⟨.ref C::us,kw⟩)) :=
 ⟨r.hd,by have:=r.dp;rw[qcU];omega,by have:=r.un;rw[qcT];omega,r.gd⟩
theorem Room.depth {k:Nat}{A:Around} (r:Room k A):A.depth < recursionLimit:=by have:=r.dp;omega
theorem Room.units {k:Nat}{A:Around} (r:Room k A):A.units+64 < cLine:=by have:=r.un;omega
def qih:TA:=fun _ H Q=>Q [] H
def qil (ta:TE) (tr:TA):TA:=fun σ H Q=>ta σ H fun x H1=>tr σ H1 fun xs H2=>Q (x::xs) H2
section
variable {X:Cx}{e:Expr}{es:List Expr}{te:TE}{t:TA}{pos:Pos}
theorem qb:PA X [] qih:=fun _ _ _ _ H Q I h=>Calls.spliced_nil ⟨[],H,I,.nil,h⟩
theorem qa (ha:PE X e te) (hr:PA X es t) (hs:starEach (e::es) X.env=(false,eval e X.env)::starEach es X.env:=by rfl):PA X (e::es) (qil te t):=by
 intro pos pins s σ H Q I h;rw[hs];show wpAny _ _ (spliced ((false,eval e X.env)::backTo pos (starEach es X.env))) _ _ s;refine Calls.spliced_cons (thn (ha pins s σ H _ I h) fun u s1 zz_=>?_);obtain⟨x,H1,I1,r1,q1⟩:=zz_;exact thn (hr pos pins s1 σ H1 _ I1 q1) fun us s2 ⟨xs,H2,I2,r2,q2⟩=>⟨x::xs,H2,I2,.cons r1 r2,q2⟩
def qjj (t:TA):TE:=fun σ H Q=>t σ H fun xs H1=>xs.length≤sizeLine∧∀ p,H1 p=none->Q (.ref p) (upd H1 p (.tup xs))
def qjm (t:TA):TE:=fun σ H Q=>t σ H fun xs H1=>xs.length≤sizeLine∧∀ p,H1 p=none->Q (.ref p) (upd H1 p (.lst xs))
theorem zE {x1} (h:PA X es t):PE X (.Tuple es x1 pos) (qjj t):=by
 intro pins s σ H Q I hq;refine wpAny_Tuple_spliced (thn (h pos pins s σ H _ I hq) fun us s1 ⟨xs,H1,I1,r,z,q⟩=>⟨by rw[← r.length];exact z,?_⟩);have hf:H1 s1.heap.objs.size=none:=I1.hok.fresh (Nat.le_refl _);refine⟨.ref s1.heap.objs.size,upd H1 s1.heap.objs.size (.tup xs),I1.laid (t':=s1.toks) (fun b u e=>Heap.get?_push_of_some _ e) (Nat.le_refl _) ?_,rfl,q _ hf⟩;exact⟨z,us,r,⟨_,Heap.get?_push_size _ rfl,rfl,_,rfl⟩⟩
theorem qZ (h:PA X es t):PE X (.List es pos) (qjm t):=by
 intro pins s σ H Q I hq;refine wpAny_List_spliced (thn (h pos pins s σ H _ I hq) fun us s1 ⟨xs,H1,I1,r,z,q⟩=>⟨by rw[← r.length];exact z,?_⟩);have hf:H1 s1.heap.objs.size=none:=I1.hok.fresh (Nat.le_refl _);refine⟨.ref s1.heap.objs.size,upd H1 s1.heap.objs.size (.lst xs),I1.laid (t':=s1.toks) (fun b u e=>Heap.get?_push_of_some _ e) (Nat.le_refl _) ?_,rfl,q _ hf⟩;exact⟨z,us,0,r,Heap.get?_push_size _ rfl⟩
end
abbrev Sp:=List V->Hp->VK->XK->Prop
abbrev CXT:=List Env->Hp->Shared->XK->Value->Shared->Prop
structure Env0 (P:Program) (w:World) (K:Frag) (mg:Str->Option Value) (base:Heap) (A:Around) (outer:List Env) (s:Shared) (H:Hp):Prop where
 frames:A.frames=some outer
 mod:Mod K mg base
 bs:∀ b o,base.get? b=some o->s.heap.get? b=some o∧H b=none
 bsz:base.objs.size≤s.heap.objs.size
 funs:s.heap.FunFrames base outer
 frf:∀ b∈frs outer,H b=none
 hok:HOk P w H s.heap
 bare:AllBare s.gens
def CE (outer:List Env) (P:Program) (w:World) (H:Hp) (s:Shared) (Q:VK) (u:Value) (s':Shared):Prop :=
 ∃ v H',s'.os=s.os∧AllBare s'.gens∧Un (frs outer) [] H H' s.heap s'.heap∧HOk P w H' s'.heap∧RelV v u∧Q v H'
def CR (CX:CXT) (outer:List Env) (P:Program) (w:World) (H:Hp) (s:Shared) (Q:VK) (E:XK) (r:Result) (s':Shared):Prop :=
 match r with
 | .ok (.ret u)=>CE outer P w H s Q u s'
 | .ok _=>False
 | .error e=>CX outer H s E e s'
structure qB (P:Program) (w:World) (K:Frag) (mg:Str->Option Value) (base:Heap) (CX:CXT) (k:Nat) (f:Addr) (fd:FuncData) (ps:List Str) (sp:Sp):Prop where
 len:∀ vs H Q E,sp vs H Q E->vs.length=ps.length
 run:∀ (A:Around) (outer:List Env) (s:Shared) (H:Hp) (args:Args) (us:List Value) (vs:List V) (Q:VK) (E:XK),Room k A->Env0 P w K mg base A outer s H->BindsTo s fd args (ps.zip us)->Vals vs us->sp vs H Q E ->
   codeAny (model P w) A (.call (.ref f) args) (CR CX outer P w H s Q E) s
theorem Env0.make {P:Program}{w:World}{K:Frag}{mg:Str->Option Value}{base:Heap}{A:Around}{outer:List Env}{s:Shared}{H:Hp} (e:Env0 P w K mg base A outer s H) (C:Addr) (us:List Value) (kw:List (Str×Value)) :
   Env0 P w K mg base (A.under (.builtin "type.__call__" ⟨.ref C::us,kw⟩)) outer s H:=⟨by first|exact e.frames|(simpa[Around.under,Code.envs,Code.isFrame,pushEnvs] using e.frames),e.mod,e.bs,e.bsz,e.funs,e.frf,e.hok,e.bare⟩
section
variable {X:Cx}{pins:List (Addr×Obj)}{σ:St}{H:Hp}{s s':Shared}
theorem Inv.env0 (I:Inv X pins σ H s):Env0 X.prog X.w X.K X.mg X.base X.A X.stack s H :=
 ⟨I.ok.frames,I.ok.mod,I.bs,Nat.le_trans I.ok.bsz I.sz,I.stack,I.stkFree,I.hok,I.bare⟩
theorem Inv.after {Q:VK}{u:Value} (I:Inv X pins σ H s) (h:CE X.stack X.prog X.w H s Q u s'):EP X pins σ Q u s':=by
 obtain⟨v,H',os,bare,un,hok,r,q⟩:=h;obtain⟨hh,g,d,t,os'⟩:=s';obtain rfl:os'=s.os:=os;exact⟨v,H',I.call (h':=hh) (g':=g) (d':=d) (t':=t) (ch:=[]) un hok bare (fun b z=>absurd z (by simp)),r,q⟩
end
def qgb (sp:Sp) (dvs:List V) (E:XK) (t:TA):TE:=fun σ H Q=>t σ H fun vs H1=>sp (vs++dvs) H1 Q E
inductive qdm (C:Addr) (m:Str) (sp:Sp) (dvs:List V) (E:XK) (t:TA) (σ:St) (Q:VK) (x:V) (H1:Hp):Prop
 | mk (a dx fs:_) (h1:x=.ref a) (h2:H1 a=some (.ins C dx fs)) (h3:fs.lookup m=none) (h4:t σ H1 fun vs H2=>sp (x::(vs++dvs)) H2 Q E):qdm C m sp dvs E t σ Q x H1
def qg1 (C:Addr) (m:Str) (sp:Sp) (dvs:List V) (E:XK) (ta:TE) (t:TA):TE:=fun σ H Q=>ta σ H fun x H1=>qdm C m sp dvs E t σ Q x H1
def qii (C:Addr) (sp:Sp) (dvs:List V) (E:XK) (t:TA):TE:=fun σ H Q=>t σ H fun vs H1=>∀ x dx,H1 x=none->H1 dx=none->dx≠x ->
 sp (.ref x::(vs++dvs)) (upd (upd H1 dx (.own x)) x (.ins C dx [])) (fun v H2=>v=.non∧Q (.ref x) H2) E
def Binds (K:Frag) (fd:FuncData) (ps:List Str) (ds:List Value):Prop :=
 ∀ (s:Shared) (us:List Value),K.In s.heap->(us++ds).length=ps.length->BindsTo s fd ⟨us,[]⟩ (ps.zip (us++ds))
theorem Binds.all {K:Frag}{fd:FuncData}{ps:List Str} (h:∀ us:List Value,us.length=ps.length->bindArgs fd ⟨us,[]⟩=pure (ps.zip us)):Binds K fd ps []:=fun s us _ hl=>by
 rw[List.append_nil]at hl ⊢;exact .of_eq (h us hl)
def Z2 (CX:CXT) (X:Cx) (E:XK):Prop:=∀ (pins:List (Addr×Obj)) (σ:St) (H:Hp) (s:Shared) (e:Value) (s':Shared),Inv X pins σ H s->CX X.stack H s E e s'->X.xe e s'
section
variable {X:Cx}{CX:CXT}{k:Nat}{f C:Addr}{fd:FuncData}{ps:List Str}{sp:Sp}{dvs:List V}{ds:List Value}{E:XK}{x m:Str}{p pos apos:Pos}{e o:Expr}{es:List Expr}{ta:TE}{t:TA}
theorem qbl {pins:List (Addr×Obj)}{σ:St}{H:Hp}{s:Shared}{Q:VK}{us:List Value}{vs:List V} (F:qB X.prog X.w X.K X.mg X.base CX k f fd ps sp) (hr:Room k X.A) (hb:Binds X.K fd ps ds) (hd:Vals dvs ds) (hx:Z2 CX X E)
   (I:Inv X pins σ H s) (r:Vals vs us) (h:sp (vs++dvs) H Q E):wpAny (model X.prog X.w) X.A (call (.ref f) us) (EP X pins σ Q) X.xe s:=by
 have r2:Vals (vs++dvs) (us++ds):=r.append hd;have hl:(us++ds).length=ps.length:=by rw[← r2.length];exact F.len _ _ _ _ h
 refine wpAny_call (codeAny_mono (F.run X.A X.stack s H ⟨us,[]⟩ (us++ds) (vs++dvs) Q E hr I.env0 (hb s us I.kIn hl) r2 h) fun r s' hq=>?_)
 cases r with
 | error e=>exact hx pins σ H s e s' I hq
 | ok fl =>
   cases fl with
   | ret u=>exact I.after hq
   | next=>exact False.elim hq
   | brk=>exact False.elim hq
   | cont=>exact False.elim hq
theorem qq (F:qB X.prog X.w X.K X.mg X.base CX k f fd ps sp) (hr:Room k X.A) (hg:Gl X x) (hm:X.mg x=some (.ref f)) (hk:keepIn X.K (.ref f)=true) (hb:Binds X.K fd ps ds) (hd:Vals dvs ds) (hx:Z2 CX X E)
   (ha:PA X (e::es) t) (hdb:(x == ("__debug__":Str))=false:=by decide) (he:starEach (e::es) X.env=(false,eval e X.env)::starEach es X.env:=by rfl) (hpl:(backTo pos (starEach es X.env)).any (·.1)=false:=by rfl) :
   PE X (.Call (.Name x p) (e::es) [] pos) (qgb sp dvs E t):=by
 intro pins s σ H Q I h;refine wpAny_Call_Name_kw (QU I hg hm ?_ hdb);refine callWith_K (h₀:=X.base) I.ok.mod.kin hk (thn (ha pos pins s σ H _ I h) fun us s1 ⟨vs,H1,I1,r,q⟩=>⟨I1.kIn,?_⟩) he hpl;exact qbl F hr hb hd hx I1 r q
theorem qeW (F:qB X.prog X.w X.K X.mg X.base CX k f fd ps sp) (hr:Room k X.A) (hg:Gl X x) (hm:X.mg x=some (.ref f)) (hk:keepIn X.K (.ref f)=true) (hb:Binds X.K fd ps ds) (hd:Vals dvs ds) (hx:Z2 CX X E)
   (hdb:(x == ("__debug__":Str))=false:=by decide):PE X (.Call (.Name x p) [] [] pos) (qgb sp dvs E qih):=by
 intro pins s σ H Q I h;refine wpAny_Call_Name_kw (QU I hg hm ?_ hdb);exact callWith_K0 I.kIn hk (qbl (us:=[]) F hr hb hd hx I .nil h)
theorem qdH {pl:Sem Bool} (he:PE X o ta) (c:Cls X.K C) (hm:qfm X.K C m f) (F:qB X.prog X.w X.K X.mg X.base CX k f fd ps sp) (hr:Room k X.A) (hb:Binds X.K fd ps ds) (hd:Vals dvs ds) (hx:Z2 CX X E) (ha:PA X (e::es) t)
   (hst:starEach (e::es) X.env=(false,eval e X.env)::starEach es X.env:=by rfl) (hpl:(backTo pos (starEach es X.env)).any (·.1)=false:=by rfl)
   (ht:eval (.Call (.Attribute o m apos) (e::es) [] pos) X.env=(do
     let ov ← eval o X.env
     standAt apos.atName
     let (f,first) ← holding [ov] (getMethod ov m pl)
     callWith pos f first (backTo pos (starEach (e::es) X.env)) (backToKw pos (keywordEach [] X.env))):=by rfl) :
   PE X (.Call (.Attribute o m apos) (e::es) [] pos) (qg1 C m sp dvs E ta t):=by
 intro pins s σ H Q I h;refine PySem.W.methodCall_KW (pl:=pl) (thn (he pins s σ H _ I h) fun u s1 zz_=>?_) ht;obtain⟨x,H1,I1,rx,a,dx,fs,ex,ea,l,q⟩:=zz_;subst ex;obtain rfl:u=Value.ref a:=rx;refine qap I1 ea c hm l ?_;refine callWith_K (first:=[.ref a]) (h₀:=X.base) I.ok.mod.kin hm.kp (thn (ha pos pins s1 σ H1 _ I1 q) fun us s2 ⟨vs,H2,I2,r,q2⟩=>⟨I2.kIn,?_⟩) hst hpl;exact qbl (us:=.ref a::us) (vs:=.ref a::vs) F hr hb hd hx I2 (.cons rfl r) q2
theorem qO {pl:Sem Bool} (he:PE X o ta) (c:Cls X.K C) (hm:qfm X.K C m f) (F:qB X.prog X.w X.K X.mg X.base CX k f fd ps sp) (hr:Room k X.A) (hb:Binds X.K fd ps ds) (hd:Vals dvs ds) (hx:Z2 CX X E)
   (ht:eval (.Call (.Attribute o m apos) [] [] pos) X.env=(do
     let ov ← eval o X.env
     standAt apos.atName
     let (f,first) ← holding [ov] (getMethod ov m pl)
     callWith pos f first (backTo pos (starEach [] X.env)) (backToKw pos (keywordEach [] X.env))):=by rfl) :
   PE X (.Call (.Attribute o m apos) [] [] pos) (qg1 C m sp dvs E ta qih):=by
 intro pins s σ H Q I h;refine PySem.W.methodCall_KW (pl:=pl) (thn (he pins s σ H _ I h) fun u s1 zz_=>?_) ht;obtain⟨x,H1,I1,rx,a,dx,fs,ex,ea,l,q⟩:=zz_;subst ex;obtain rfl:u=Value.ref a:=rx;refine qap I1 ea c hm l ?_;exact callWith_K0 (first:=[.ref a]) I1.kIn hm.kp (qbl (us:=[.ref a]) (vs:=[.ref a]) F hr hb hd hx I1 (.cons rfl .nil) q)
structure Mk (K:Frag) (C f:Addr):Prop where
 makes:makesIn K C=true
 init:findIn K (.ref C) "__init__"=some (some (.ref f))
 fn:isFn K (.ref f)=true
 kp:keepIn K (.ref C)=true
theorem qeM {pins:List (Addr×Obj)}{σ:St}{H:Hp}{s:Shared}{Q:VK}{us:List Value}{vs:List V} (M:Mk X.K C f) (F:qB X.prog X.w X.K X.mg X.base CX k f fd ps sp) (hr:Room (k+1) X.A) (hb:Binds X.K fd ps ds) (hd:Vals dvs ds)
   (hx:Z2 CX X E) (I:Inv X pins σ H s) (r:Vals vs us)
   (h:∀ x dx,H x=none->H dx=none->dx≠x->sp (.ref x::(vs++dvs)) (upd (upd H dx (.own x)) x (.ins C dx [])) (fun v H2=>v=.non∧Q (.ref x) H2) E) :
   wpAny (model X.prog X.w) X.A (call (.ref C) us) (EP X pins σ Q) X.xe s:=by
 have hq:=h (s.heap.objs.size+1) s.heap.objs.size (I.hok.fresh (Nat.le_succ _)) (I.hok.fresh (Nat.le_refl _)) (Nat.ne_of_lt (Nat.lt_succ_self _));have I2:=Inv.made (C:=C) I;have r2:Vals (V.ref (s.heap.objs.size+1)::(vs++dvs)) (Value.ref (s.heap.objs.size+1)::(us++ds)):=.cons rfl (r.append hd)
 have hl:(Value.ref (s.heap.objs.size+1)::us++ds).length=ps.length:=by
   have e:=r2.length;rw[F.len _ _ _ _ hq]at e;exact e.symm
 refine wpAny_call (qe4 (f:=f) I.kIn M.makes M.init (beq_iff_eq.mp M.fn) (codeAny_mono (F.run _ X.stack _ _ ⟨Value.ref (s.heap.objs.size+1)::us,[]⟩ (Value.ref (s.heap.objs.size+1)::(us++ds)) _ _ E (hr.make C us [])
   (I2.env0.make C us []) (hb _ (Value.ref (s.heap.objs.size+1)::us) I2.kIn hl) r2 hq) fun r s' hq'=>?_))
 cases r with
 | error e=>exact hx pins σ _ _ e s' I2 hq'
 | ok fl =>
   cases fl with
   | ret u =>
     obtain⟨v,H',I3,rv,ev,q3⟩:=I2.after hq';subst ev;exact⟨rv,⟨V.ref (s.heap.objs.size+1),H',I3,rfl,q3⟩⟩
   | next=>exact False.elim hq'
   | brk=>exact False.elim hq'
   | cont=>exact False.elim hq'
theorem zF (M:Mk X.K C f) (F:qB X.prog X.w X.K X.mg X.base CX k f fd ps sp) (hr:Room (k+1) X.A) (hg:Gl X x) (hm:X.mg x=some (.ref C)) (hb:Binds X.K fd ps ds) (hd:Vals dvs ds) (hx:Z2 CX X E)
   (ha:PA X (e::es) t) (hdb:(x == ("__debug__":Str))=false:=by decide) (he:starEach (e::es) X.env=(false,eval e X.env)::starEach es X.env:=by rfl) (hpl:(backTo pos (starEach es X.env)).any (·.1)=false:=by rfl) :
   PE X (.Call (.Name x p) (e::es) [] pos) (qii C sp dvs E t):=by
 intro pins s σ H Q I h;refine wpAny_Call_Name_kw (QU I hg hm ?_ hdb);refine callWith_K (h₀:=X.base) I.ok.mod.kin M.kp (thn (ha pos pins s σ H _ I h) fun us s1 ⟨vs,H1,I1,r,q⟩=>⟨I1.kIn,?_⟩) he hpl;exact qeM M F hr hb hd hx I1 r q
end
section
variable {X:Cx}{CX:CXT}{k:Nat}{f C:Addr}{fd:FuncData}{ps ks:List Str}{sp:Sp}{E:XK}{x m:Str}{p pos apos kpos:Pos}{e o:Expr}{es:List Expr}{kws:List Keyword}{te ta:TE}{t tk:TA}{nm:Option Str}
variable {g:List Value->List Value->List Value}{gV:List V->List V->List V}
end
structure qr (N P:List Str) (sc:Scope):Prop where
 kind:sc.kind=.function
 co:sc.isCoroutine=false
 gen:sc.isGenerator=false
 nd:N.Nodup
 pre:N.take P.length=P
 par:∀ x∈P,sc.names.lookup x=some .local∨sc.names.lookup x=some .cell
 nofree:∀ y∈sc.names,y.2≠.free
theorem qbD {kindOf:Str->Option NameKind}{x:Str}:∀ {binds:List (Str×Value)}{m:Str->Option Value},(∀ v,(x,v)∉binds)->bindL kindOf binds m x=m x
 | [],_,_=>rfl
 | (n,v)::r,m,h=>by
   unfold bindL;rw[qbD fun w hw=>h w (List.mem_cons_of_mem _ hw)];split
   · have:x≠n:=by rintro rfl;exact h v List.mem_cons_self
     simp[this]
   · rfl
theorem qbF {kindOf:Str->Option NameKind}{x:Str}:∀ {binds:List (Str×Value)}{m:Str->Option Value},(∀ v,(x,v)∉binds)->bindC kindOf binds m x=m x
 | [],_,_=>rfl
 | (n,v)::r,m,h=>by
   unfold bindC;rw[qbF fun w hw=>h w (List.mem_cons_of_mem _ hw)];split
   · rfl
   · have:x≠n:=by rintro rfl;exact h v List.mem_cons_self
     simp[this]
theorem qbE {kindOf:Str->Option NameKind}{x:Str}{v:Value}:∀ {P:List Str}{vs:List Value}{i:Nat}{m:Str->Option Value},P.Nodup->P[i]?=some x->vs[i]?=some v->kindOf x=some .local ->
   bindL kindOf (P.zip vs) m x=some v
 | [],_,_,_,_,h,_,_=>by simp at h
 | _::_,[],_,_,_,_,h,_=>by simp at h
 | p::P,w::vs,0,m,nd,h1,h2,hk=>by
   simp at h1 h2;subst h1;subst h2;show bindL kindOf ((p,w)::P.zip vs) m p=_;unfold bindL;rw[qbD fun v hv=>(List.nodup_cons.mp nd).1 (List.of_mem_zip hv).1,if_pos hk];simp
 | p::P,w::vs,i+1,m,nd,h1,h2,hk=>by
   show bindL kindOf ((p,w)::P.zip vs) m x=_;unfold bindL;exact qbE (i:=i) (List.nodup_cons.mp nd).2 (by simpa using h1) (by simpa using h2) hk
theorem qbG {kindOf:Str->Option NameKind}{x:Str}{v:Value}:∀ {P:List Str}{vs:List Value}{i:Nat}{m:Str->Option Value},P.Nodup->P[i]?=some x->vs[i]?=some v->kindOf x≠some .local ->
   bindC kindOf (P.zip vs) m x=some v
 | [],_,_,_,_,h,_,_=>by simp at h
 | _::_,[],_,_,_,_,h,_=>by simp at h
 | p::P,w::vs,0,m,nd,h1,h2,hk=>by
   simp at h1 h2;subst h1;subst h2;show bindC kindOf ((p,w)::P.zip vs) m p=_;unfold bindC;rw[qbF fun v hv=>(List.nodup_cons.mp nd).1 (List.of_mem_zip hv).1,if_neg hk];simp
 | p::P,w::vs,i+1,m,nd,h1,h2,hk=>by
   show bindC kindOf ((p,w)::P.zip vs) m x=_;unfold bindC;exact qbG (i:=i) (List.nodup_cons.mp nd).2 (by simpa using h1) (by simpa using h2) hk
def JJ (N:List Str) (vs:List V):St:=vs.map some++List.replicate (N.length - vs.length) none
def zc (CX:CXT) (P:Program) (w:World) (K:Frag) (mg:Str->Option Value) (base:Heap) (N:List Str) (qual:Str) (scope:Scope) (f:Addr) (cd:Value) (A:Around) (outer:List Env) (s:Shared) (H:Hp) (E:XK):Cx where
 prog:=P
 w:=w
 K:=K
 mg:=mg
 base:=base
 A:=A.deeper (envOfC qual scope s.heap.objs.size f cd)
 N:=N
 s₀:=s
 H₀:=H
 env:=envOfC qual scope s.heap.objs.size f cd
 outer:=outer
 stack:=envOfC qual scope s.heap.objs.size f cd::outer
 ex:=[]
 calm:=true
 fn:=fun _=>true
 pn:=[]
 xe:=fun e s'=>wpAny (model P w) (A.deeper (envOfC qual scope s.heap.objs.size f cd)) (leaving (envOfC qual scope s.heap.objs.size f cd) e) (fun _ s''=>CX outer H s E e s'') (fun e' s''=>CX outer H s E e' s'') s'
theorem qaY {sc:Scope}{n:Nat}{x:Str} (h:sc.names.lookup x=some .cell):∃ c,(cellsFrom n sc.names []).lookup x=some c:=by
 have q:=PySem.W.cellsFrom_some sc.names n [] (.inl h);exact Option.isSome_iff_exists.mp q
theorem qd2 {CX:CXT}{P:Program}{w:World}{K:Frag}{mg:Str->Option Value}{base:Heap}{N ps:List Str}{qual:Str}{scope:Scope}{f:Addr}{cd:Value}{A:Around}{outer:List Env}{s s1:Shared}{H:Hp}{E:XK}{us:List Value}{vs:List V}
   (S:qr N ps scope) (hd:A.handled=none) (e0:Env0 P w K mg base A outer s H) (hl:vs.length=ps.length) (r:Vals vs us)
   (x:InCallC s s.heap.objs.size (bindL (envOfC qual scope s.heap.objs.size f cd).kindOf (ps.zip us) fun _=>none) (cellsFrom (s.heap.objs.size+1) scope.names []) (bindC (envOfC qual scope s.heap.objs.size f cd).kindOf (ps.zip us) fun _=>none) s1) :
   Inv (zc CX P w K mg base N qual scope f cd A outer s H E) [] (JJ N vs) H s1:=by
 have hpl:ps.length≤N.length:=by have:=congrArg List.length S.pre;rw[List.length_take]at this;omega
 obtain⟨h1,tk,rfl,hk⟩:=x.done;have noA:∀ b:Addr,b∉(zc CX P w K mg base N qual scope f cd A outer s H E).ex:=fun b z=>absurd (show b∈([]:List Addr) from z) (by simp)
 refine⟨⟨e0.mod,S.kind,rfl,rfl,Nat.le_refl _,fun y z c h1 h2=>?_,fun y hy=>?_,fun y c _ h=>?_,fun _=>hd,Around.frames_deeper e0.frames,.inr ⟨rfl,rfl⟩,fun b z=>absurd z (noA b),e0.bs,e0.bsz,fun b _ _=>noA b,fun b z=>absurd z (noA b),e0.funs,e0.frf⟩,
   rfl,e0.bare,Un.kept hk,⟨_,x.toInCall.ns,fun i y v h1 h2 h3=>?_⟩,fun y c h=>⟨_,x.cell y c h⟩,e0.hok.fresh (Nat.le_refl _),fun y c h=>?_,fun p hp=>absurd (show p∈([]:List (Addr×Obj)) from hp) (by simp),e0.hok.kept hk,?_⟩
 · exact name_of_addr x.apart (PySem.mem_of_lookup h1) (PySem.mem_of_lookup h2)
 · have hy:scope.names.lookup y=some .cell∨scope.names.lookup y=some .free:=hy;rcases hy with hy|hy
   · exact qaY hy
   · exact absurd rfl (S.nofree _ (PySem.mem_of_lookup hy))
 · exact Nat.le_of_lt (x.above y c (PySem.mem_of_lookup h))
 · have hi:i < vs.length:=by
     unfold JJ at h2;by_cases hi:i < vs.length
     · exact hi
     · rw[List.getElem?_append_right (by simpa using hi)]at h2;rw[List.getElem?_replicate]at h2;split at h2<;>cases h2
   have ha:vs[i]?=some v:=by
     unfold JJ at h2;rw[List.getElem?_append_left (by simpa using hi),List.getElem?_map]at h2
     cases e:vs[i]? with
     | none=>rw[e]at h2;cases h2
     | some a=>rw[e]at h2;cases h2;rfl
   obtain⟨u,hu,rv⟩:=r.get ha
   have hp:ps[i]?=some y:=by
     rw[← S.pre,List.getElem?_take_of_lt (by omega)];exact h1
   have ndP:ps.Nodup:=by rw[← S.pre];exact S.nd.sublist (List.take_sublist _ _)
   refine⟨u,rv,?_⟩;rcases S.par y (List.mem_of_getElem? hp) with k|k
   · exact .inl ⟨k,qbE ndP hp hu k⟩
   · obtain⟨c,e⟩:=qaY (n:=s.heap.objs.size+1) k;refine .inr ⟨.inl k,c,e,?_⟩;have q:=x.cell y c e;rw[qbG ndP hp hu (by show scope.names.lookup y≠_;rw[k];decide)]at q;exact q
 · exact e0.hok.fresh (Nat.le_of_lt (x.above y c (PySem.mem_of_lookup h)))
 · unfold JJ;show _=N.length;rw[List.length_append,List.length_map,List.length_replicate];omega
theorem qgH {CX:CXT}{P:Program}{w:World}{K:Frag}{mg:Str->Option Value}{base:Heap}{k:Nat}{f:Addr}{name qual:Str}{params:Arguments}{body:List Stmt}{scope:Scope}{dV kV doc pm cdv ct oc:Value}{an od:Option Addr}
   {osl:Array (Option Value)}{N ps:List Str}{sp:Sp} (lk:K.lookup f=some ⟨oc,od,.func (fnOf name qual params body scope dV kV doc pm an cdv ct),osl⟩) (hcd:PySem.W.codeIn K cdv qual=true) (S:qr N ps scope)
   (len:∀ vs H Q E,sp vs H Q E->vs.length=ps.length)
   (hbody:∀ (A:Around) (outer:List Env) (s:Shared) (H:Hp) (vs:List V) (Q:VK) (E:XK),Room k (A.deeper (envOfC qual scope s.heap.objs.size f cdv))->sp vs H Q E ->
     ∃ t,PSs (zc CX P w K mg base N qual scope f cdv A outer s H E) body t∧t { nx:=fun _ H'=>Q .non H',rt:=Q } (JJ N vs) H) :
   qB P w K mg base CX (k+1) f (fnOf name qual params body scope dV kV doc pm an cdv ct) ps sp:=by
 refine⟨len,fun A outer s H args us vs Q E hr e0 hb r hsp=>?_⟩;have hl:=len _ _ _ _ hsp;have KX:K.In s.heap:=e0.mod.kin.keeps fun b o e=>(e0.bs b o e).1;have lim:s.heap.NoLimit:=e0.mod.nolimit.keeps fun b o e=>(e0.bs b o e).1
 have hkind:∀ y∈ps.zip us,scope.names.lookup y.1=some .local∨(scope.names.lookup y.1=some .cell∧((cellsFrom (s.heap.objs.size+1) scope.names []).lookup y.1).isSome=true):=fun⟨n,v⟩ hy=>by
   rcases S.par n (List.of_mem_zip hy).1 with q|q
   · exact .inl q
   · exact .inr ⟨q,PySem.W.cellsFrom_some _ _ _ (.inl q)⟩
 refine codeAny_call_function hr.depth (KX _ _ lk) rfl S.co S.gen rfl (PySem.W.codeRec_of KX hcd) (hb _ _ _ _ ?_);refine wpAny_newFunctionEnv_cells S.kind hkind fun env he s1 x=>?_;subst he;refine⟨lim.keeps x.toInCall.keep,codeAny_func ?_⟩;obtain⟨t,ht,hq⟩:=hbody A outer s H vs Q E (hr.deeper _) hsp;have I:Inv (zc CX P w K mg base N qual scope f cdv A outer s H E) [] (JJ N vs) H s1:=qd2 S hr.hd e0 hl r x;refine wpAny_mono (ht [] s1 (JJ N vs) H _ I hq) (fun fl s' hs=>?_) fun e s' hs=>hs
 have fin:∀ {σ':St}{H':Hp}{v:V}{u:Value},Inv (zc CX P w K mg base N qual scope f cdv A outer s H E) [] σ' H' s'->RelV v u->Q v H'->CE outer P w H s Q u s' :=
   fun {σ' H' v u} J rv q=>⟨v,H',J.os,J.bare,J.base,J.hok,rv,q⟩
 cases fl with
 | ret u =>
   obtain⟨v,σ',H',J,rv,q⟩:=hs;exact fin J rv q
 | next =>
   obtain⟨σ',H',J,q⟩:=hs;exact fin (v:=V.non) (u:=Value.none) J rfl q
 | brk =>
   obtain⟨_,_,_,q⟩:=hs;exact False.elim q
 | cont =>
   obtain⟨_,_,_,q⟩:=hs;exact False.elim q
section
variable {X:Cx}{x:Str}{p pos:Pos}{e:Expr}{es:List Expr}{t:TA}{id T:String}{r:List V->Hp->VK->Prop}
def tCB (r:List V->Hp->VK->Prop) (t:TA):TE:=fun σ H Q=>t σ H fun vs H1=>r vs H1 Q
theorem qp (hc:Z3 X (.builtin id) r) (hg:Gl X x) (hm:X.mg x=none) (hv:bootBuiltins x=some (.builtin id)) (ha:PA X (e::es) t) (hn:x≠"__name__":=by decide) (hdb:(x == ("__debug__":Str))=false:=by decide)
   (he:starEach (e::es) X.env=(false,eval e X.env)::starEach es X.env:=by rfl) (hpl:(backTo pos (starEach es X.env)).any (·.1)=false:=by rfl):PE X (.Call (.Name x p) (e::es) [] pos) (tCB r t):=by
 intro pins s σ H Q I h;refine wpAny_Call_Name_kw (qal I hg hm hv ?_ hn hdb);exact PyProof.Rows.callWith_builtin1 (thn (ha pos pins s σ H _ I h) fun us s1 ⟨vs,H1,I1,r1,q1⟩=>hc pins s1 σ H1 vs us Q I1 r1 q1) he hpl
theorem zH (hc:Z3 X (.type T) r) (hg:Gl X x) (hm:X.mg x=none) (hv:bootBuiltins x=some (.type T)) (ha:PA X (e::es) t) (hn:x≠"__name__":=by decide) (hdb:(x == ("__debug__":Str))=false:=by decide)
   (he:starEach (e::es) X.env=(false,eval e X.env)::starEach es X.env:=by rfl) (hpl:(backTo pos (starEach es X.env)).any (·.1)=false:=by rfl):PE X (.Call (.Name x p) (e::es) [] pos) (tCB r t):=by
 intro pins s σ H Q I h;refine wpAny_Call_Name_kw (qal I hg hm hv ?_ hn hdb);exact PyProof.Rows.callWith_type1 (thn (ha pos pins s σ H _ I h) fun us s1 ⟨vs,H1,I1,r1,q1⟩=>hc pins s1 σ H1 vs us Q I1 r1 q1) he hpl
end
end L2
namespace HT
open PySem PyProof.Rows
section
open PySem.SeqAt
open PySem.AutoSeq1 (wpAny_loadPart')
open PySem.MeetsSeq PySem.MeetsSeq2 PySem.MeetsSeq3
end
section
variable {prog:Program}{w:World}{A:Around}{E:Value->Shared->Prop}{s:Shared}
def sIx (n d:Nat):Option Int->Nat
 | none=>d
 | some v=>if v < 0 then (v+(n:Int)).toNat else min v.toNat n
theorem sIx_none (n d:Nat):sIx n d none=d:=rfl
theorem sIx_nat (n d k:Nat):sIx n d (some (k:Int))=min k n:=by
 show (if (k:Int) < 0 then ((k:Int)+(n:Int)).toNat else min (k:Int).toNat n)=min k n;rw[if_neg (by omega),Int.toNat_natCast]
theorem qhc (n d:Nat) (hd:d≤n) (o:Option Int):sIx n d o≤n:=by
 cases o with
 | none=>exact hd
 | some v =>
   show (if v < 0 then (v+(n:Int)).toNat else min v.toNat n)≤n;by_cases hv:v < 0
   · rw[if_pos hv];omega
   · rw[if_neg hv];exact Nat.min_le_right _ _
theorem qej (v:Int) (n d:Nat):(if v < 0 then max (v+(n:Int)) 0 else min v (n:Int))=((sIx n d (some v):Nat):Int):=by
 show (if v < 0 then max (v+(n:Int)) 0 else min v (n:Int))=(((if v < 0 then (v+(n:Int)).toNat else min v.toNat n):Nat):Int);by_cases hv:v < 0
 · simp only[if_pos hv];omega
 · simp only[if_neg hv];omega
theorem qc1 (lo hi:Option Int) (n:Nat):Builtin.Slice.sliceAdjust lo hi 1 (n:Int)=(((sIx n 0 lo:Nat):Int),((sIx n n hi:Nat):Int)):=by
 have h1:¬ ((1:Int) < 0):=by omega
 unfold Builtin.Slice.sliceAdjust;simp only[h1,if_false];refine Prod.ext ?_ ?_
 · cases lo with
   | none=>rfl
   | some v=>exact qej v n 0
 · cases hi with
   | none=>rfl
   | some v=>exact qej v n n
theorem qcM (i j:Nat):Builtin.Slice.slicePlaces (i:Int) (j:Int) 1=j - i:=by
 unfold Builtin.Slice.slicePlaces;have h1:(1:Int) > 0:=by omega
 simp only[h1,if_true,Int.ediv_one];split<;>omega
theorem JZ {v:Value}{o:Option Int}{Q:Option Int->Shared->Prop} (p:IsPart v o) (h:Q o s):wpAny (model prog w) A (Builtin.Slice.slicePartIndex v) Q E s:=by
 cases p with
 | none=>exact slicePart_none h
 | int i t=>exact slicePart_int h
theorem jN {sl:Addr}{vl vu:Value}{lo hi:Option Int}{n:Nat}{Q:Int×Int×Nat->Shared->Prop} (hs:s.heap.IsSliceOf sl vl vu .none) (pl:IsPart vl lo) (pu:IsPart vu hi)
   (h:Q (((sIx n 0 lo:Nat):Int),1,sIx n n hi - sIx n 0 lo) s):wpAny (model prog w) A (Builtin.Slice.sliceApplied (.ref sl) (pure (n:Int))) Q E s:=by
 obtain⟨os,hos,hcs,hds⟩:=id hs;unfold Builtin.Slice.sliceApplied Builtin.Slice.sliceFields;refine wpAny_bind (wpAny_bind (wpAny_field hos hds (x:=vl) rfl (wpAny_bind (wpAny_field hos hds (x:=vu) rfl (wpAny_bind (wpAny_field hos hds (x:=.none) rfl (wpAny_pure ?_)))))));refine wpAny_bind (slicePart_none ?_);show wpAny _ _ (if ((1:Int) == 0)=true then _ else _) _ _ s;rw[if_neg (by decide)];refine wpAny_bind (JZ pl (wpAny_bind (JZ pu (wpAny_bind (wpAny_pure ?_)))));show wpAny _ _ (match Builtin.Slice.sliceAdjust lo hi 1 (n:Int) with|(lo,hi)=>pure (lo,(1:Int),Builtin.Slice.slicePlaces lo hi 1)) _ _ s;rw[qc1 lo hi n];show wpAny _ _ (pure (((sIx n 0 lo:Nat):Int),(1:Int),Builtin.Slice.slicePlaces ((sIx n 0 lo:Nat):Int) ((sIx n n hi:Nat):Int) 1)) _ _ s;rw[qcM];exact wpAny_pure h
theorem qeR (xs:Array Value) (i k:Nat):((List.range k).filterMap fun (m:Nat)=>xs[((i:Int)+(m:Int) * 1).toNat]?).toArray=((xs.toList.drop i).take k).toArray:=by
 have e:(fun (m:Nat)=>xs[((i:Int)+(m:Int) * 1).toNat]?)=fun m=>xs[i+m]?:=by
   funext m
   have:((i:Int)+(m:Int) * 1).toNat=i+m:=by omega
   rw[this]
 rw[e]
 have:=pick_run xs i k
 rw[List.filterMap_map]at this;have e2:((fun x=>xs[x]?) ∘ fun x=>i+x)=fun m=>xs[i+m]?:=rfl;rw[e2]at this;rw[this]
theorem getItem_tuple_cut {t sl:Addr}{items:Array Value}{vl vu:Value}{lo hi:Option Int}{Q:Value->Shared->Prop} (ht:IsTup s.heap t items) (hs:s.heap.IsSliceOf sl vl vu .none) (pl:IsPart vl lo) (pu:IsPart vu hi)
   (hw:¬ (sIx items.size 0 lo=0∧sIx items.size items.size hi=items.size))
   (h:Q (.ref s.heap.objs.size) { s with heap:=s.heap.push { cls:=.type "tuple",data:=.seq ((items.toList.drop (sIx items.size 0 lo)).take (sIx items.size items.size hi - sIx items.size 0 lo)).toArray } })
   (hsz:items.size≤sizeLine):wpAny (model prog w) A (getItem (.ref t) (.ref sl)) Q E s:=by
 have htake:sizeOk (.seq ((items.toList.drop (sIx items.size 0 lo)).take (sIx items.size items.size hi - sIx items.size 0 lo)).toArray):=by
   show ((items.toList.drop (sIx items.size 0 lo)).take (sIx items.size items.size hi - sIx items.size 0 lo)).toArray.size≤sizeLine;rw[List.size_toArray,List.length_take,List.length_drop,Array.length_toList];omega
 have hj:sIx items.size items.size hi≤items.size:=qhc _ _ (Nat.le_refl _) hi;obtain⟨os,hos,hcs,hds⟩:=id hs;have hTs:s.TypeIs (.ref sl) "slice":=⟨os,hos,hcs⟩
 unfold getItem;(try with_reducible refine wpAny_holding ?_)
 first|refine wpAny_bind (wpAny_pure ?_)|skip
 refine wpAny_bind (wpAny_sequenceKey ht.typeIs (by decide) ?_)
 refine wpAny_bind (wpAny_callSpecial?_slot (name:=Str.ofString "__getitem__") ht.typeIs PyProof.Rows.slot_tuple_getitem
   (wpAny_call_entry PyProof.Rows.slot_tuple_getitem ht.typeIs entry_tuple_getitem ?_ (args_tuple_getitem _ _)))
 show wpAny _ _ (Builtin.Tuple.tupleItemsOf (.ref t) >>= _) _ _ s;refine wpAny_bind (tupleItemsOf_ ht ?_);refine wpAny_bind (wpAny_typeOf hTs ?_);rw[if_pos (by decide)];refine wpAny_bind (jN hs pl pu ?_)
 have hno:¬ ((((sIx items.size 0 lo:Nat):Int) == 0 && (1:Int) == 1 && (sIx items.size items.size hi - sIx items.size 0 lo) == items.size)=true):=by
   intro q;rw[Bool.and_eq_true,Bool.and_eq_true]at q;have q1:((sIx items.size 0 lo:Nat):Int)=0:=eq_of_beq q.1.1;have q2:sIx items.size items.size hi - sIx items.size 0 lo=items.size:=eq_of_beq q.2;exact hw ⟨by omega,by omega⟩
 show wpAny _ _ (if (((sIx items.size 0 lo:Nat):Int) == 0 && (1:Int) == 1 && (sIx items.size items.size hi - sIx items.size 0 lo) == items.size)=true then _ else _) _ _ s;rw[if_neg hno,qeR]
 first
   | exact wpAny_bind (m:=Builtin.Tuple.tupleExact _) (wpAny_newObj_type (wpAny_pure ⟨_,rfl,wpAny_pure h⟩) htake)
   | exact wpAny_bind (m:=Builtin.Tuple.tupleExact _) (wpAny_newObj_type (wpAny_bind (wpAny_pure (wpAny_pure ⟨_,rfl,wpAny_pure h⟩))) htake)
   | exact wpAny_bind (wpAny_bind (m:=Builtin.Tuple.tupleExact _) (wpAny_newObj_type (wpAny_pure (wpAny_pure ⟨_,rfl,wpAny_pure h⟩)) htake))
   | exact wpAny_bind (wpAny_bind (m:=Builtin.Tuple.tupleExact _) (wpAny_newObj_type (wpAny_pure ⟨_,rfl,wpAny_pure h⟩) htake))
end
end HT
namespace L2
open PySem PySem.Spec PyProof.Rows
open PySem.W (Frag)
abbrev TO:=St->Hp->(Option Int->Hp->Prop)->Prop
def PO (X:Cx) (e:Option Expr) (t:TO):Prop :=
 ∀ (pins:List (Addr×Obj)) (s:Shared) (σ:St) (H:Hp) (Q:Option Int->Hp->Prop),Inv X pins σ H s->t σ H Q ->
   wpAny (model X.prog X.w) X.A (evalPart e X.env) (fun u s'=>∃ o H',Inv X pins σ H' s'∧IsPart u o∧Q o H') X.xe s
def qf9:TO:=fun _ H Q=>Q none H
inductive qdk (Q:(Option Int->Hp->Prop)) (x:V) (H1:Hp):Prop
 | mk (i:_) (h1:x=.int i) (h2:Q (some i) H1):qdk Q x H1
def qif (t:TE):TO:=fun σ H Q=>t σ H fun x H1=>qdk Q x H1
section
variable {X:Cx}{e:Expr}{te:TE}{lo hi:Option Expr}{tl th:TO}{pos p2:Pos}
theorem qdC:PO X none qf9:=by
 intro pins s σ H Q I h;rw[evalPart_none];exact wpAny_pure ⟨none,H,I,.none,h⟩
theorem za (h:PE X e te):PO X (some e) (qif te):=by
 intro pins s σ H Q I hw;rw[evalPart_some];refine thn (h pins s σ H _ I hw) fun u s1 zz_=>?_;obtain⟨x,H1,I1,r1,q1⟩:=zz_;obtain⟨i,rfl,q⟩:=q1;obtain⟨t,rfl⟩:=r1;exact⟨some i,H1,I1,.int i t,q⟩
def SlR (X:Cx) (r:V->Option Int->Option Int->Hp->VK->Prop):Prop :=
 ∀ (pins:List (Addr×Obj)) (s:Shared) (σ:St) (H:Hp) (x:V) (v vl vu:Value) (lo hi:Option Int) (sl:Addr) (Q:VK),Inv X pins σ H s->RelV x v->s.heap.IsSliceOf sl vl vu .none->IsPart vl lo->IsPart vu hi->r x lo hi H Q ->
   ∃ T id,typeLookup (.type T) "__getitem__"=pure (some (.builtin id))∧s.TypeIs v T∧wpAny (model X.prog X.w) X.A (getItem v (.ref sl)) (EP X pins σ Q) X.xe s
theorem SlR.or {r r':V->Option Int->Option Int->Hp->VK->Prop} (h:SlR X r) (h':SlR X r'):SlR X (fun x lo hi H Q=>r x lo hi H Q∨r' x lo hi H Q):=by
 intro pins s σ H x v vl vu lo hi sl Q I rx hs pl pu q;rcases q with q|q
 · exact h pins s σ H x v vl vu lo hi sl Q I rx hs pl pu q
 · exact h' pins s σ H x v vl vu lo hi sl Q I rx hs pl pu q
def tSl (r:V->Option Int->Option Int->Hp->VK->Prop) (te:TE) (tl th:TO):TE:=fun σ H Q=>te σ H fun x H1=>tl σ H1 fun l H2=>th σ H2 fun u H3=>r x l u H3 Q
theorem zw {r:V->Option Int->Option Int->Hp->VK->Prop} (hr:SlR X r) (he:PE X e te) (hl:PO X lo tl) (hu:PO X hi th):PE X (.Subscript e (.Slice lo hi none p2) pos) (tSl r te tl th):=by
 intro pins s σ H Q I h;refine Subscript_ (thn (he pins s σ H _ I h) fun v s1 zz_=>?_);obtain⟨x,H1,I1,r1,q1⟩:=zz_;refine wpAny_Slice (thn (hl pins s1 σ H1 _ I1 q1) fun vl s2 ⟨l,H2,I2,pl,q2⟩=>thn (hu pins s2 σ H2 _ I2 q2) fun vu s3 zz_=>?_);obtain⟨u,H3,I3,pu,q3⟩:=zz_;rw[evalPart_none];refine wpAny_pure ?_;have I4:Inv X pins σ H3 { s3 with heap:=s3.heap.push { cls:=.type "slice",data:=.fields #[vl,vu,.none] } }:=I3.kept (t':=s3.toks) fun b ob q=>Heap.get?_push_of_some _ q;obtain⟨T,id,hT,ht,hg⟩:=hr pins { s3 with heap:=s3.heap.push { cls:=.type "slice",data:=.fields #[vl,vu,.none] } } σ H3 x v vl vu l u s3.heap.objs.size Q I4 r1 (Heap.IsSliceOf.new ..) pl pu q3;show wpAny (model X.prog X.w) X.A (subscriptTail e (.Slice lo hi none p2) v (.ref s3.heap.objs.size)) (EP X pins σ Q) X.xe { s3 with heap:=s3.heap.push { cls:=.type "slice",data:=.fields #[vl,vu,.none] } };exact tail_any (ops:=[.ref s3.heap.objs.size,v]) ht hT hg (by with_unfolding_all rfl)
def qc4 (xs:List V) (lo hi:Option Int):List V:=(xs.drop (HT.sIx xs.length 0 lo)).take (HT.sIx xs.length xs.length hi - HT.sIx xs.length 0 lo)
theorem JF (xs:List V) (lo hi:Option Int):(qc4 xs lo hi).length≤xs.length:=by
 unfold qc4;refine Nat.le_trans (List.length_take_le' _ _) ?_;rw[List.length_drop];exact Nat.sub_le _ _
def qiX (K:Frag):V->Option Int->Option Int->Hp->VK->Prop:=fun x lo hi H Q=>∃ a xs,x=.ref a∧SqT K H a xs ∧
 ¬ (HT.sIx xs.length 0 lo=0∧HT.sIx xs.length xs.length hi=xs.length)∧∀ p,H p=none->Q (.ref p) (upd H p (.tup (qc4 xs lo hi)))
theorem qg7:SlR X (qiX X.K):=by
 intro pins s σ H x v vl vu lo hi sl Q I rx hs pl pu h;obtain⟨a,xs,rfl,hx,hw,q⟩:=h;cases rx;obtain⟨its,r,ht,hz⟩:=I.tuple hx;have hlen:its.toArray.size=xs.length:=by rw[List.size_toArray];exact r.length.symm
 refine⟨"tuple",_,PyProof.Rows.slot_tuple_getitem.lookup,ht.typeIs,?_⟩;refine HT.getItem_tuple_cut ht hs pl pu (by rw[hlen];exact hw) ?_ (by rw[hlen];exact hz);rw[hlen];refine⟨.ref s.heap.objs.size,_,I.laid (t':=s.toks) (o:=.tup (qc4 xs lo hi)) (fun b ob q=>Heap.get?_push_of_some _ q) (Nat.le_refl _) ?_,rfl,q _ (I.hok.fresh (Nat.le_refl _))⟩;exact⟨Nat.le_trans (JF xs lo hi) hz,_,(r.drop (HT.sIx xs.length 0 lo)).take (HT.sIx xs.length xs.length hi - HT.sIx xs.length 0 lo),IsTup.new _ _⟩
end
def ixN (n:Nat) (i:Int):Option Nat:=if 0≤i then (if i < n then some i.toNat else none) else if -(n:Int)≤i then some (i+n).toNat else none
def atI {α:Type} (xs:List α) (i:Int):Option α:=(ixN xs.length i).bind fun j=>xs[j]?
theorem qd0 {n:Nat}{i:Int}{j:Nat} (h:ixN n i=some j):seqIndex? i n=some j∧j < n∧-(n:Int)≤i∧i < n:=by
 unfold ixN at h;by_cases h0:0≤i
 · rw[if_pos h0]at h;by_cases h1:i < n
   · rw[if_pos h1]at h;have e:i.toNat=j:=Option.some.inj h;exact⟨by rw[seqIndex_of h0 h1,e],by omega,by omega,h1⟩
   · rw[if_neg h1]at h;cases h
 · rw[if_neg h0]at h;by_cases h1:-(n:Int)≤i
   · rw[if_pos h1]at h;have e:(i+n).toNat=j:=Option.some.inj h;exact⟨by rw[seqIndex_neg (by omega) h1,e],by omega,h1,by omega⟩
   · rw[if_neg h1]at h;cases h
theorem qb0 {α:Type}{xs:List α}{i:Int}{v:α} (h:atI xs i=some v):∃ j,seqIndex? i xs.length=some j∧xs[j]?=some v∧j < xs.length∧-(xs.length:Int)≤i∧i < xs.length:=by
 unfold atI at h
 cases e:ixN xs.length i with
 | none=>rw[e]at h;cases h
 | some j =>
   rw[e]at h;obtain⟨h1,h2,h3,h4⟩:=qd0 e;exact⟨j,h1,h,h2,h3,h4⟩
theorem Zy {α:Type}{xs:List α}{j:Nat}{v:α} (h:xs[j]?=some v):atI xs (j:Int)=some v:=by
 have hj:j < xs.length:=(List.getElem?_eq_some_iff.mp h).1
 have e:ixN xs.length (j:Int)=some j:=by
   unfold ixN;rw[if_pos (by omega),if_pos (by omega)];simp
 unfold atI;rw[e];exact h
def qgN (b:Expr):Prop:=∀ o i,subscripted b false o i=operate [o,i] (getItem o i)
def IxR (X:Cx) (r:R2):Prop :=
 ∀ (value slice:Expr) (pins:List (Addr×Obj)) (s:Shared) (σ:St) (H:Hp) (x y:V) (v u:Value) (Q:VK),Inv X pins σ H s->RelV x v->RelV y u->r x y H Q ->
   subscripted slice false v u=operate [v,u] (getItem v u)->wpAny (model X.prog X.w) X.A (subscriptTail value slice v u) (EP X pins σ Q) X.xe s
def MtR (X:Cx) (id:String) (r:V->List V->Hp->VK->Prop):Prop :=
 ∀ (pins:List (Addr×Obj)) (s:Shared) (σ:St) (H:Hp) (x:V) (xs:List V) (v:Value) (us:List Value) (Q:VK),Inv X pins σ H s->RelV x v->Vals xs us->r x xs H Q ->
   wpAny (model X.prog X.w) X.A (call (.builtin id) (v::us)) (EP X pins σ Q) X.xe s
section
variable {X:Cx}{a b:Expr}{ta tb:TE}{pos:Pos}
theorem IxR.or {r r':R2} (h:IxR X r) (h':IxR X r'):IxR X (fun x y H Q=>r x y H Q∨r' x y H Q):=by
 intro value slice pins s σ H x y v u Q I rx ry q hs;rcases q with q|q
 · exact h value slice pins s σ H x y v u Q I rx ry q hs
 · exact h' value slice pins s σ H x y v u Q I rx ry q hs
theorem qL {r:R2} (hr:IxR X r) (ha:PE X a ta) (hb:PE X b tb) (hs:qgN b):PE X (.Subscript a b pos) (tOp r ta tb):=by
 intro pins s σ H Q I h;exact Subscript_ (qiM ha hb I h fun v u s2 x y H2 I2 rx ry q=>hr a b pins s2 σ H2 x y v u Q I2 rx ry q (hs _ _))
inductive qfw (K:Frag) (x:V) (y:V) (H:Hp) (Q:VK):Prop
 | mk (p xs i v:_) (h1:x=.ref p) (h2:y=.int i) (h3:SqL K H p xs) (h4:atI xs i=some v) (h5:Q v H):qfw K x y H Q
def qi3 (K:Frag):R2:=fun x y H Q=>qfw K x y H Q
inductive qfv (K:Frag) (x:V) (y:V) (H:Hp) (Q:VK):Prop
 | mk (p xs i v:_) (h1:x=.ref p) (h2:y=.int i) (h3:SqT K H p xs) (h4:atI xs i=some v) (h5:Q v H):qfv K x y H Q
def qi1 (K:Frag):R2:=fun x y H Q=>qfv K x y H Q
def qi2:R2:=fun x y H Q=>∃ z i c,x=.str z∧y=.int i∧z.length≤sizeLine∧atI z.cps.toList i=some c∧Q (.str ⟨#[c]⟩) H
theorem ix_list:IxR X (qi3 X.K):=by
 intro value slice pins s σ H x y v u Q I rx ry h hs;obtain⟨p,xs,i,z,rfl,rfl,hq,he,q⟩:=h;cases rx;obtain⟨t,rfl⟩:=ry;obtain⟨its,r,pl,hz⟩:=I.list hq;obtain⟨j,h1,h2,h3,h4,h5⟩:=qb0 he;obtain⟨w,ew,rw'⟩:=r.get h2;have hl:=r.length;have hn:=qak;have fin:EP X pins σ Q w s:=⟨z,H,I,rw',q⟩
 by_cases h0:0≤i
 · have hj:i.toNat=j:=by
     rw[seqIndex_of h0 h5]at h1;exact Option.some.inj h1
   exact item_listR pl.isList h0 (by omega) (by rw[hj];simpa using ew) fin hs
 · have hj:(i+(its.toArray.size:Int)).toNat=j:=by
     rw[seqIndex_neg (by omega) h4]at h1;rw[List.size_toArray,← hl];exact Option.some.inj h1
   exact subscriptTail_builtinR (x:=w) pl.isList.typeIs slot_list_getitem.lookup
     (wpAny_getItem_list_neg (Q:=fun r s'=>r=w∧EP X pins σ Q r s') pl.isList (by omega) (by rw[List.size_toArray]<;>omega) (by omega) (by rw[hj];simpa using ew) ⟨rfl,fin⟩) hs
theorem ix_tup:IxR X (qi1 X.K):=by
 intro value slice pins s σ H x y v u Q I rx ry h hs;obtain⟨p,xs,i,z,rfl,rfl,hq,he,q⟩:=h;cases rx;obtain⟨t,rfl⟩:=ry;obtain⟨its,r,pl,hz⟩:=I.tuple hq;obtain⟨j,h1,h2,h3,h4,h5⟩:=qb0 he;obtain⟨w,ew,rw'⟩:=r.get h2;have hl:=r.length;have hn:=qak;have fin:EP X pins σ Q w s:=⟨z,H,I,rw',q⟩
 exact subscriptTail_builtinR (x:=w) pl.typeIs slot_tuple_getitem.lookup
   (getItem_tuple (j:=j) (Q:=fun r s'=>r=w∧EP X pins σ Q r s') pl (by omega) (by omega) (by rw[List.size_toArray,← hl];exact h1) (by simpa using ew) ⟨rfl,fin⟩) hs
theorem qhK:IxR X qi2:=by
 intro value slice pins s σ H x y v u Q I rx ry h hs;obtain⟨z,i,c,rfl,rfl,hz,he,q⟩:=h;obtain⟨t,rfl⟩:=rx;obtain⟨t',rfl⟩:=ry;obtain⟨j,h1,h2,h3,h4,h5⟩:=qb0 he;have hl:z.cps.toList.length=z.length:=by simp[Str.length]
 rw[hl]at h1 h4 h5;have hn:=qak
 exact tail_any (typeIs_str s z t) slot_str_getitem.lookup (getItem_str (c:=c) (by
   have e1:decide (i < -(2 ^ 63:Int))=false:=decide_eq_false (by omega);have e2:decide (i ≥ 2 ^ 63)=false:=decide_eq_false (by omega)
   rw[e1,e2,Bool.or_false]) (by rw[h1];simpa using h2) ⟨.str ⟨#[c]⟩,H,I.tok _,⟨_,rfl⟩,q⟩) hs
def rIx (K:Frag):R2:=fun x y H Q=>qi3 K x y H Q∨qi1 K x y H Q∨qi2 x y H Q
theorem qC:IxR X (rIx X.K):=ix_list.or (ix_tup.or qhK)
theorem qcS (its:List Value) (n j:Nat) (u:Value):Obj.mapSeq (·.setIfInBounds j u) { cls:=.type "list",data:=.seq its.toArray n }={ cls:=.type "list",data:=.seq (its.set j u).toArray n }:=by
 simp[Obj.mapSeq]
theorem Inv.lst {pins:List (Addr×Obj)}{σ:St}{H:Hp}{s:Shared}{p:Addr}{xs:List V} (I:Inv X pins σ H s) (h:H p=some (.lst xs)) :
   ∃ (its:List Value) (n:Nat),Vals xs its∧s.heap.get? p=some { cls:=.type "list",data:=.seq its.toArray n }∧xs.length≤sizeLine:=by
 obtain⟨z,its,n,r,e⟩:=I.hok p _ h;exact⟨its,n,r,e,z⟩
theorem Inv.lstUpd {pins:List (Addr×Obj)}{σ:St}{H:Hp}{s:Shared}{p:Addr}{xs ys:List V}{its its':List Value}{n n':Nat}{f:Obj->Obj} (I:Inv X pins σ H s) (h:H p=some (.lst xs))
   (ho:s.heap.get? p=some { cls:=.type "list",data:=.seq its.toArray n }) (hf:f { cls:=.type "list",data:=.seq its.toArray n }={ cls:=.type "list",data:=.seq its'.toArray n' }) (r:Vals ys its') (hz:ys.length≤sizeLine) (t:Nat) :
   Inv X pins σ (upd H p (.lst ys)) { s with heap:=s.heap.update p f,toks:=t }:=by
 have e:(s.heap.update p f).get? p=some { cls:=.type "list",data:=.seq its'.toArray n' }:=by
   rw[Heap.get?_update_self f ho (by rw[hf]<;>rfl),hf]
 refine I.write (x:=p) (e:=p) (by rw[h];trivial) (.inl rfl) (fun b u hb q=>(Heap.get?_update_other _ _ (Ne.symm hb)).trans q) ⟨_,e⟩ ?_;exact⟨hz,its',n',r,e⟩
inductive qdz (o:V) (i:V) (v:V) (H:Hp) (Q:(Hp->Prop)):Prop
 | mk (p xs k j:_) (h1:o=.ref p) (h2:i=.int k) (h3:H p=some (.lst xs)) (h4:ixN xs.length k=some j) (h5:Q (upd H p (.lst (xs.set j v)))):qdz o i v H Q
def qip:V->V->V->Hp->(Hp->Prop)->Prop:=fun o i v H Q=>qdz o i v H Q
theorem qcc:qjf X qip:=by
 intro pins s σ H o i v ov iv u Q I ro ri rv h;obtain⟨p,xs,k,j,rfl,rfl,hp,hj,q⟩:=h;cases ro;obtain⟨t,rfl⟩:=ri;obtain⟨its,n,r,ho,hz⟩:=I.lst hp;obtain⟨h1,h2,h3,h4⟩:=qd0 hj;have hl:=r.length;have hn:=qak
 have I':Inv X pins σ (upd H p (.lst (xs.set j v))) { s with heap:=s.heap.update p (Obj.mapSeq (·.setIfInBounds j u)) } :=
   I.lstUpd hp ho (qcS its n j u) (r.set rv j) (by rw[List.length_set];exact hz) s.toks
 by_cases h0:0≤k
 · have hk:k.toNat=j:=by
     rw[seqIndex_of h0 h4]at h1;exact Option.some.inj h1
   exact PySem.W.ki_setAt ho h0 (by omega) (by rw[List.size_toArray,← hl];exact h4) (by rw[hk];exact⟨_,I',q⟩)
 · have hk:(k+(its.toArray.size:Int)).toNat=j:=by
     rw[seqIndex_neg (by omega) h3]at h1;rw[List.size_toArray,← hl];exact Option.some.inj h1
   exact PySem.W.ki_setBack ho (by omega) (by rw[List.size_toArray,← hl];exact h3) (by omega) (by rw[hk];exact⟨_,I',q⟩)
theorem tn_ (n:Nat):((-1:Int)+(n:Int)).toNat=n - 1:=by
 rw[Int.add_comm];exact Int.toNat_sub n 1
theorem qfs (i:Int) (n:Nat):max 0 (min (if i < 0 then i+(n:Int) else i) (n:Int))=((if i < 0 then (i+(n:Int)).toNat else min i.toNat n:Nat):Int):=by
 by_cases h:i < 0
 · have h':i+(n:Int)≤n:=by have:=Int.add_le_add_right (Int.le_of_lt h) n;rwa [Int.zero_add]at this
   rw[if_pos h,if_pos h,Int.min_eq_left h',Int.ofNat_toNat,Int.max_comm]
 · obtain⟨k,rfl⟩:=Int.eq_ofNat_of_zero_le (Int.not_lt.mp h);rw[if_neg h,if_neg h,Int.toNat_natCast];rcases Nat.le_total k n with g|g
   · rw[Nat.min_eq_left g,Int.min_eq_left (Int.ofNat_le.mpr g),Int.max_eq_right (Int.natCast_nonneg _)]
   · rw[Nat.min_eq_right g,Int.min_eq_right (Int.ofNat_le.mpr g),Int.max_eq_right (Int.natCast_nonneg _)]
theorem qbb (lo hi:Option Int) (n:Nat):(sliceBounds lo hi none n).1=((HT.sIx n 0 lo:Nat):Int)∧(sliceBounds lo hi none n).2.1=((HT.sIx n n hi:Nat):Int)∧(sliceBounds lo hi none n).2.2=1:=by
 refine⟨?_,?_,rfl⟩
 · cases lo with
   | none=>simp[sliceBounds,HT.sIx]
   | some i =>
     simp only[sliceBounds,HT.sIx,Option.getD_none,show (1:Int) > 0 by decide,if_true];exact qfs i n
 · cases hi with
   | none=>simp[sliceBounds,HT.sIx]
   | some i =>
     simp only[sliceBounds,HT.sIx,Option.getD_none,show (1:Int) > 0 by decide,if_true];exact qfs i n
theorem qaz (its:List Value) (lo hi:Option Int):slicePick its.toArray lo hi none=((its.drop (HT.sIx its.length 0 lo)).take (HT.sIx its.length its.length hi - HT.sIx its.length 0 lo)).toArray:=by
 obtain⟨h1,h2,h3⟩:=qbb lo hi its.toArray.size;unfold slicePick;rw[h1,h2,h3];simp only[sliceRange_one,pick_run,List.size_toArray]<;>rfl
inductive qft (K:Frag) (x:V) (lo:Option Int) (hi:Option Int) (H:Hp) (Q:VK):Prop
 | mk (a xs:_) (h1:x=.ref a) (h2:SqL K H a xs) (h3:∀ p,H p=none->Q (.ref p) (upd H p (.lst (qc4 xs lo hi)))):qft K x lo hi H Q
def qiZ (K:Frag):V->Option Int->Option Int->Hp->VK->Prop:=fun x lo hi H Q=>qft K x lo hi H Q
theorem sl_list:SlR X (qiZ X.K):=by
 intro pins s σ H x v vl vu lo hi sl Q I rx hs pl pu h;obtain⟨a,xs,rfl,hx,q⟩:=h;cases rx;obtain⟨its,r,ht,hz⟩:=I.list hx;have hlen:=r.length;refine⟨"list",_,slot_list_getitem.lookup,ht.isList.typeIs,?_⟩;refine wpAny_getItem_list_slice ht.isList hs pl pu .none (by simp) ?_ (by rw[List.size_toArray]<;>omega);rw[qaz,← hlen];refine⟨.ref s.heap.objs.size,_,I.laid (t':=s.toks) (o:=.lst (qc4 xs lo hi)) (fun b ob q=>Heap.get?_push_of_some _ q) (Nat.le_refl _) ?_,rfl,q _ (I.hok.fresh (Nat.le_refl _))⟩;exact⟨Nat.le_trans (JF xs lo hi) hz,_,0,(r.drop (HT.sIx xs.length 0 lo)).take (HT.sIx xs.length xs.length hi - HT.sIx xs.length 0 lo),Heap.get?_push_size _ rfl⟩
def qbw:V->Bool
 | .non=>true
 | .bl _=>true
 | .int _=>true
 | .str _=>true
 | _=>false
def eqV:V->V->Bool
 | .non,.non=>true
 | .bl a,.bl b=>a == b
 | .bl a,.int b=>(if a then 1 else 0) == b
 | .int a,.bl b=>a == (if b then 1 else 0)
 | .int a,.int b=>a == b
 | .str a,.str b=>a == b
 | _,_=>false
theorem qhQ {A:Around}{s:Shared}{y x:V}{u v:Value} (ry:RelV y u) (rx:RelV x v) (fy:qbw y=true) (fx:qbw x=true):SeqAt.EqAt A s u v (eqV y x):=by
 cases y with
 | non =>
   cases ry
   cases x with
   | non=>cases rx;exact SeqAt.EqAt.same _
   | bl b=>cases rx;exact SeqAt.EqAt.none_bool b
   | int b=>obtain⟨t,rfl⟩:=rx;exact SeqAt.EqAt.none_int b t
   | str b=>obtain⟨t,rfl⟩:=rx;exact SeqAt.EqAt.none_str b t
   | _=>exact absurd (show false=true from fx) Bool.false_ne_true
 | bl a =>
   cases ry
   cases x with
   | non=>cases rx;exact SeqAt.EqAt.bool_none a
   | bl b=>cases rx;exact SeqAt.EqAt.bool_bool a b
   | int b=>obtain⟨t,rfl⟩:=rx;exact SeqAt.EqAt.bool_int a b t
   | str b=>obtain⟨t,rfl⟩:=rx;exact SeqAt.EqAt.bool_str a b t
   | _=>exact absurd (show false=true from fx) Bool.false_ne_true
 | int a =>
   obtain⟨t',rfl⟩:=ry
   cases x with
   | non=>cases rx;exact SeqAt.EqAt.int_none a t'
   | bl b=>cases rx;exact SeqAt.EqAt.int_bool a t' b
   | int b=>obtain⟨t,rfl⟩:=rx;exact SeqAt.EqAt.int_int a t' b t
   | str b=>obtain⟨t,rfl⟩:=rx;exact SeqAt.EqAt.int_str a t' b t
   | _=>exact absurd (show false=true from fx) Bool.false_ne_true
 | str a =>
   obtain⟨t',rfl⟩:=ry
   cases x with
   | non=>cases rx;exact SeqAt.EqAt.str_none a t'
   | bl b=>cases rx;exact SeqAt.EqAt.str_bool a t' b
   | int b=>obtain⟨t,rfl⟩:=rx;exact SeqAt.EqAt.str_int a t' b t
   | str b=>obtain⟨t,rfl⟩:=rx;exact SeqAt.EqAt.str_str a t' b t
   | _=>exact absurd (show false=true from fx) Bool.false_ne_true
 | _=>exact absurd (show false=true from fy) Bool.false_ne_true
def eqU (x:V) (u:Value):Bool:=match u with
 | .none=>eqV .non x
 | .bool b=>eqV (.bl b) x
 | .int i _=>eqV (.int i) x
 | .str z _=>eqV (.str z) x
 | _=>false
theorem qfU {x y:V}{u:Value} (r:RelV y u) (f:qbw y=true):eqU x u=eqV y x:=by
 cases y with
 | non=>cases r;rfl
 | bl b=>cases r;rfl
 | int i=>obtain⟨t,rfl⟩:=r;rfl
 | str z=>obtain⟨t,rfl⟩:=r;rfl
 | _=>exact absurd (show false=true from f) Bool.false_ne_true
theorem qb2 {x:V}:∀ {xs:List V}{us:List Value},Vals xs us->xs.all qbw=true->us.any (eqU x)=xs.any fun y=>eqV y x
 | _,_,.nil,_=>rfl
 | y::xs,u::us,.cons r t,f=>by
   rw[List.all_cons,Bool.and_eq_true]at f;rw[List.any_cons,List.any_cons,qfU r f.1,qb2 t f.2]
theorem qaS {A:Around}{s:Shared}{x:V}{v:Value} (rx:RelV x v) (fx:qbw x=true):∀ {xs:List V}{us:List Value},Vals xs us->xs.all qbw=true->∀ u∈us,SeqAt.EqAt A s u v (eqU x u)
 | _,_,.nil,_=>fun u hu=>by cases hu
 | y::xs,u::us,.cons r t,f=>fun u' hu=>by
   rw[List.all_cons,Bool.and_eq_true]at f;rcases List.mem_cons.mp hu with rfl|hu
   · rw[qfU r f.1];exact qhQ r rx f.1 fx
   · exact qaS rx fx t f.2 u' hu
def inV (x:V) (xs:List V):Bool:=xs.any fun y=>eqV y x
inductive qhg (K:Frag) (neg:Bool) (x:V) (y:V) (H:Hp) (Q:VK):Prop
 | mk (p xs:_) (h1:y=.ref p) (h2:(SqL K H p xs∨SqT K H p xs)) (h3:qbw x=true) (h4:xs.all qbw=true) (h5:Q (.bl (if neg then !inV x xs else inV x xs)) H):qhg K neg x y H Q
def rIn (K:Frag) (neg:Bool):R2:=fun x y H Q=>qhg K neg x y H Q
theorem jD:OpR X (compareOp .NotIn) (rIn X.K true):=by
 intro pins s σ H x y v u Q I rx ry h;obtain⟨p,xs,rfl,hq,fx,fs,q⟩:=h;cases ry;rcases hq with hq|hq
 · obtain⟨its,r,pl,hz⟩:=I.list hq;refine SeqAt.notIn_listAt (eqU x) pl.isList (fun w hw=>qaS rx fx r fs w (by simpa using hw)) ⟨.bl _,H,I,rfl,?_⟩;rw[show its.toArray.any (eqU x)=its.any (eqU x) by simp,qb2 r fs];exact q
 · obtain⟨its,r,pl,hz⟩:=I.tuple hq;refine SeqAt.notIn_tupleAt (eqU x) pl (fun w hw=>qaS rx fx r fs w (by simpa using hw)) ⟨.bl _,H,I,rfl,?_⟩;rw[show its.toArray.any (eqU x)=its.any (eqU x) by simp,qb2 r fs];exact q
theorem Q2:Z3 X (.type "list") (fun xs H Q=>∃ p ys,xs=[.ref p]∧(SqL X.K H p ys∨SqT X.K H p ys)∧∀ l,H l=none->Q (.ref l) (upd H l (.lst ys))):=by
 intro pins s σ H xs us Q I r h;obtain⟨p,ys,rfl,hq,q⟩:=h;obtain⟨u,rfl,rx⟩:=JI r;cases rx;have fin:∀ (its:List Value),Vals ys its->ys.length≤sizeLine->∀ (h':Heap) (c':Nat),(∀ b o',s.heap.get? b=some o'->h'.get? b=some o') ->
     h'.get? s.heap.objs.size=some { cls:=.type "list",dict:=none,data:=.seq its.toArray c',slots:=#[] }->EP X pins σ Q (.ref s.heap.objs.size) { s with heap:=h' }:=fun its r' hz h' c' kp e =>
   ⟨.ref s.heap.objs.size,_,I.laid (t':=s.toks) kp (Nat.le_refl _) (show ObjOk X.prog X.w _ h' _ (.lst ys) from ⟨hz,its,c',r',e⟩),rfl,q _ (I.hok.fresh (Nat.le_refl _))⟩
 rcases hq with hq|hq
 · obtain⟨its,r',pl,hz⟩:=I.list hq;have hlen:=r'.length;obtain⟨o,ho,hc,n,hd⟩:=pl.isList;exact call_list_seq p (.inl rfl) ho hc hd (fun h' c' kp e=>fin its r' hz h' c' kp e) (by simp only[List.size_toArray]<;>omega)
 · obtain⟨its,r',pl,hz⟩:=I.tuple hq;have hlen:=r'.length;obtain⟨o,ho,hc,n,hd⟩:=pl;exact call_list_seq p (.inr rfl) ho hc hd (fun h' c' kp e=>fin its r' hz h' c' kp e) (by simp only[List.size_toArray]<;>omega)
def tyV (K:Frag) (T:String) (x:V) (H:Hp):Prop:=match x with
 | .str _=>T="str"
 | .int _=>T="int"
 | .ref p=>(T="list"∧∃ xs,SqL K H p xs)∨(T="tuple"∧∃ o,K.lookup p=some o∧o.cls=.type "tuple"∧o.dict=none) ∨
     (T="dict"∧((∃ kvs,H p=some (.dK kvs))∨∃ kvs,H p=some (.dT kvs)))∨(T="set"∧∃ S n,H p=some (.set S n))
 | _=>False
theorem qgS {pins:List (Addr×Obj)}{σ:St}{H:Hp}{s:Shared}{T:String}{x:V}{v:Value} (I:Inv X pins σ H s) (r:RelV x v) (ty:tyV X.K T x H) :
   s.TypeIs v T∧∀ a,v=.ref a->∃ ob,s.heap.get? a=some ob∧ob.dict=none:=by
 cases x with
 | str z =>
   obtain⟨t,rfl⟩:=r;cases (show T="str" from ty);exact⟨typeIs_str s z t,fun _ e=>nomatch e⟩
 | int i =>
   obtain⟨t,rfl⟩:=r;cases (show T="int" from ty);exact⟨typeIs_int s i t,fun _ e=>nomatch e⟩
 | ref p =>
   cases r;rcases ty with ⟨rfl,xs,hq⟩|⟨rfl,o,hk,hc,hd⟩|⟨rfl,hk⟩|⟨rfl,S,n,hk⟩
   · obtain⟨its,_,pl,_⟩:=I.list hq;refine⟨pl.isList.typeIs,fun a e=>?_⟩;cases e;obtain⟨o,n,e,c,hd,_⟩:=pl;exact⟨o,e,hd⟩
   · refine⟨⟨o,I.kIn p o hk,hc⟩,fun a e=>?_⟩;cases e;exact⟨o,I.kIn _ o hk,hd⟩
   · have z:∃ o,s.heap.get? p=some o∧o.ExactDict:=by
       rcases hk with ⟨kvs,hk⟩|⟨kvs,hk⟩
       · obtain⟨_,_,_,_,o,_,_,e,ex,_⟩:=I.hok p _ hk;exact⟨o,e,ex⟩
       · obtain⟨_,_,_,_,o,_,_,e,ex,_⟩:=I.hok p _ hk;exact⟨o,e,ex⟩
     obtain⟨o,e,ex⟩:=z;refine⟨⟨o,e,ex.1⟩,fun a e2=>?_⟩;cases e2;exact⟨o,e,ex.2.1⟩
   · obtain⟨o,_,_,_,e,ex,_⟩:=I.hok p _ hk;refine⟨⟨o,e,ex.1⟩,fun a e2=>?_⟩;cases e2;exact⟨o,e,ex.2.1⟩
 | _=>exact False.elim ty
def tBM (K:Frag) (T:String) (r:V->List V->Hp->VK->Prop) (to:TE) (t:TA):TE:=fun σ H Q=>to σ H fun x H1=>tyV K T x H1∧t σ H1 fun xs H2=>r x xs H2 Q
variable {o e:Expr}{es:List Expr}{to:TE}{t:TA}{name:Str}{apos cpos:Pos}{T id:String}{r:V->List V->Hp->VK->Prop}
theorem Jk (pa:PlainAttrs T) (slot:Slot T name id) (hty:typeOf (.builtin id)=pure (.type "method_descriptor")) (hm:MtR X id r) (ho:PE X o to) (ha:PA X (e::es) t)
   (hbase:attributeBase o name X.env (eval o X.env)=eval o X.env:=by rfl)
   (hfew:((backTo cpos (starEach (e::es) X.env)).all (fun x=>!x.1) && (backToKw cpos (keywordEach [] X.env)).all (fun x=>x.1.isSome)
     && decide ((e::es).length+([]:List Keyword).length+(if ([]:List Keyword).isEmpty then 0 else 1) < 30))=true:=by rfl)
   (hline:(apos.endLine == cpos.line)=true:=by rfl) (hs:starEach (e::es) X.env=(false,eval e X.env)::starEach es X.env:=by rfl) (hplain:(backTo cpos (starEach es X.env)).any (·.1)=false:=by rfl) :
   PE X (.Call (.Attribute o name apos) (e::es) [] cpos) (tBM X.K T r to t):=by
 intro pins s σ H Q I h;refine wpAny_Call_method_late hbase hfew hline rfl (thn (ho pins s σ H _ I h) fun v s1 zz_=>?_);obtain⟨x,H1,I1,r1,ty,q1⟩:=zz_;obtain⟨h1,h2⟩:=qgS I1 r1 ty;refine⟨T,id,pa,slot,hty,h1,h2,?_⟩;have hA:=ha cpos pins s1 σ H1 _ I1 q1;rw[hs]at hA ⊢;refine Calls.callWith_builtin (by show (false || (backTo cpos (starEach es X.env)).any (·.1))=false;rw[hplain]<;>rfl) (Calls.evalArgs_plain ?_);exact thn hA fun us s2 ⟨vs,H2,I2,r2,q2⟩=>hm pins s2 σ H2 x vs v us Q I2 r1 r2 q2
end
def MtM (X:Cx) (id:String) (r:V->List V->Hp->VK->Prop):Prop :=
 ∀ (pins:List (Addr×Obj)) (s:Shared) (σ:St) (H:Hp) (x:V) (xs:List V) (v:Value) (us:List Value) (Q:VK),Inv X pins σ H s->RelV x v->Vals xs us->r x xs H Q ->
   wpAny (model X.prog X.w) X.A (call (.builtin id) (v::us)) (EP X pins σ Q) X.xe s
theorem Vals.one {x:V}{us:List Value} (h:Vals [x] us):∃ u,us=[u]∧RelV x u:=by
 cases h with
 | cons r t=>cases t;exact⟨_,rfl,r⟩
theorem Vals.rep {xs:List V}{us:List Value} (h:Vals xs us):∀ k:Nat,Vals (List.replicate k xs).flatten (List.replicate k us).flatten
 | 0=>.nil
 | k+1=>by
   rw[List.replicate_succ,List.replicate_succ,List.flatten_cons,List.flatten_cons];exact Vals.append h (Vals.rep h k)
theorem qbv (its:List Value):∀ (k:Nat) (acc:List Value),
   List.foldl (fun x1 x2=>x1++x2) acc.toArray (List.replicate k its.toArray)=(acc++(List.replicate k its).flatten).toArray
 | 0,acc=>by simp
 | k+1,acc=>by
   have e:acc.toArray++its.toArray=(acc++its).toArray:=by simp
   have e2:(acc++its)++(List.replicate k its).flatten=acc++(List.replicate (k+1) its).flatten:=by
     rw[List.replicate_succ,List.flatten_cons,List.append_assoc]
   rw[← e2,← qbv its k (acc++its),← e,List.replicate_succ,List.foldl_cons]
section
variable {X:Cx}{pins:List (Addr×Obj)}{σ:St}{H:Hp}{s:Shared}{l b:Addr}{xs ys zs:List V}
theorem Inv.lset {its its':List Value}{n:Nat}{f:Array Value->Array Value}{t':Nat} (I:Inv X pins σ H s) (hH:H l=some (.lst xs))
   (e:s.heap.get? l=some { cls:=.type "list",data:=.seq its.toArray n }) (hf:f its.toArray=its'.toArray) (hv:Vals ys its') (hz:ys.length≤sizeLine) :
   Inv X pins σ (upd H l (.lst ys)) { s with heap:=s.heap.update l (Obj.mapSeq f),toks:=t' }:=by
 have q:=PySem.IsL.update e f;rw[hf]at q;refine I.write (x:=l) (e:=l) (by rw[hH];exact trivial) (.inl rfl) (fun b' u hb hu=>(Heap.get?_update_other s.heap (Obj.mapSeq f) (Ne.symm hb)).trans hu) ⟨_,q⟩ ?_;exact⟨hz,its',_,hv,q⟩
theorem Inv.lnew {its:List Value}{t':Nat} (I:Inv X pins σ H s) (hv:Vals ys its) (hz:ys.length≤sizeLine) :
   Inv X pins σ (upd H s.heap.objs.size (.lst ys)) { s with heap:=s.heap.push { cls:=.type "list",data:=.seq its.toArray },toks:=t' } :=
 I.laid (fun _ _ q=>Heap.get?_push_of_some _ q) (Nat.le_refl _) ⟨hz,its,0,hv,Heap.get?_push_size _ rfl⟩
theorem Inv.fresh (I:Inv X pins σ H s):H s.heap.objs.size=none:=I.hok.fresh (Nat.le_refl _)
theorem Inv.lstM (I:Inv X pins σ H s) (hH:H l=some (.lst xs)):xs.length≤sizeLine∧∃ (its:List Value) (n:Nat),Vals xs its∧xs.length=its.length∧s.heap.get? l=some { cls:=.type "list",data:=.seq its.toArray n }:=by
 obtain⟨z,its,n,r,e⟩:=I.hok l _ hH;exact⟨z,its,n,r,r.length,e⟩
theorem qeZ {n:Nat} (h:n≤sizeLine):Builtin.List.listTooLong n=false:=by
 unfold Builtin.List.listTooLong;exact decide_eq_false (by omega)
end
section
variable {X:Cx}
inductive qbm (x:V) (vs:List V) (H:Hp) (Q:VK):Prop
 | mk (l xs y:_) (h1:x=.ref l) (h2:vs=[y]) (h3:H l=some (.lst xs)) (h4:xs.length < sizeLine) (h5:Q .non (upd H l (.lst (xs++[y])))):qbm x vs H Q
def qgk:V->List V->Hp->VK->Prop:=fun x vs H Q=>qbm x vs H Q
theorem zq:MtM X "list.append" qgk:=by
 intro pins s σ H x vs v us Q I rx rv h;obtain⟨l,xs,y,rfl,rfl,hH,hz,q⟩:=h;cases rx;obtain⟨u,rfl,ru⟩:=rv.one;obtain⟨z,its,n,r,hl,e⟩:=I.lstM hH;refine call_meets F.slot_list_append ⟨_,e,rfl⟩ F.entry_list_append (F.args_list_append_2 _ _) (PySem.list_append l its.toArray n u (by rw[List.size_toArray];omega)) ⟨e,?_⟩;refine⟨.non,_,I.lset (its':=its++[u]) hH e (by simp) (r.append (.cons ru .nil)) ?_,rfl,q⟩;rw[List.length_append,List.length_singleton];omega
inductive qfA (x:V) (y:V) (H:Hp) (Q:VK):Prop
 | mk (l b xs zs:_) (h1:x=.ref l) (h2:y=.ref b) (h3:H l=some (.lst xs)) (h4:H b=some (.lst zs)) (h5:xs.length+zs.length≤sizeLine) (h6:∀ p,H p=none->Q (.ref p) (upd H p (.lst (xs++zs)))):qfA x y H Q
def qi7:R2:=fun x y H Q=>qfA x y H Q
theorem op_cat:OpR X (binaryOp .Add) qi7:=by
 intro pins s σ H x y v u Q I rx ry h;obtain⟨l,b,xs,zs,rfl,rfl,hH,hB,hz,q⟩:=h;cases rx;cases ry;obtain⟨z,its,n,r,hl,e⟩:=I.lstM hH;obtain⟨z2,its2,n2,r2,hl2,e2⟩:=I.lstM hB;refine PySem.P.add_list e e2 ?_ (by rw[List.size_toArray,List.size_toArray];omega);have ea:its.toArray++its2.toArray=(its++its2).toArray:=by simp
 rw[ea];exact⟨.ref _,_,I.lnew (t':=s.toks) (r.append r2) (by rw[List.length_append];omega),rfl,q _ I.fresh⟩
def qjs:R2:=fun x y H Q=>∃ l k xs,x=.ref l∧y=.int k∧H l=some (.lst xs)∧-(2 ^ 63)≤k∧k < 2 ^ 63∧xs.length * k.toNat≤sizeLine ∧
 ∀ p,H p=none->Q (.ref p) (upd H p (.lst (List.replicate k.toNat xs).flatten))
theorem qgA {α:Type} (xs:List α) (k:Nat):(List.replicate k xs).flatten.length=k * xs.length:=by
 induction k with
 | zero=>simp
 | succ k ih=>rw[List.replicate_succ,List.flatten_cons,List.length_append,ih,Nat.succ_mul,Nat.add_comm]
theorem qdI:OpR X (binaryOp .Mult) qjs:=by
 intro pins s σ H x y v u Q I rx ry h;obtain⟨l,k,xs,rfl,rfl,hH,h1,h2,hz,q⟩:=h;cases rx;obtain⟨t,rfl⟩:=ry;obtain⟨z,its,n,r,hl,e⟩:=I.lstM hH;have hlen:its.toArray.size * k.toNat≤sizeLine:=by rw[List.size_toArray,← hl];exact hz
 have hcap:¬ its.toArray.size * k.toNat > (2 ^ 63 - 1) / 8:=by
   have:(sizeLine:Nat)≤(2 ^ 63 - 1) / 8:=by decide
   omega
 have hfit:¬ (!Builtin.List.listFitsIndex k)=true:=by
   rw[fitsIndex_both h1 h2];exact Bool.false_ne_true
 have hlong:¬ Builtin.List.listTooLong (its.toArray.size * k.toNat)=true:=by
   rw[qeZ hlen];exact Bool.false_ne_true
 have hnew:List.foldl (fun x1 x2=>x1++x2) #[] (List.replicate (if its.toArray.isEmpty=true then 0 else k.toNat) its.toArray)=(List.replicate k.toNat its).flatten.toArray:=by
   have f0:∀ m:Nat,List.foldl (fun x1 x2=>x1++x2) #[] (List.replicate m its.toArray)=(List.replicate m its).flatten.toArray:=fun m=>by
     have:=qbv its m []
     rw[List.nil_append]at this;exact this
   rw[f0]
   cases its with
   | nil=>simp
   | cons a r'=>rw[if_neg (by simp)]
 refine wpAny_binaryOp_repeat_ref (T:="list") (U:="int") (by decide) ⟨_,e,rfl⟩ (fun s'=>typeIs_int s' k t) noFill_list_mul F.fills_int_mul F.slot_int_rmul repeat_list F.slot_int_index.lookup
   (call_meets F.slot_int_rmul (typeIs_int s k t) F.entry_int_rmul (F.args_int_rmul_2 _ _) (int___rmul___int_list k t l its.toArray n)
     ⟨e,rfl,⟨_,e,rfl⟩,call_meets F.slot_list_mul ⟨_,e,rfl⟩ F.entry_list_mul (F.args_list_mul_2 _ _) (AutoListH.list___mul___list_int_3 l its.toArray n k t hfit hcap hlong) ⟨e,?_⟩⟩)
 rw[hnew];exact⟨.ref _,_,I.lnew (t':=s.toks) (r.rep k.toNat) (by rw[qgA,Nat.mul_comm];exact hz),rfl,q _ I.fresh⟩
end
section
variable {X:Cx}{pins:List (Addr×Obj)}{σ:St}{H:Hp}{s:Shared}{a:Addr}{y v:V}{u r:Value}{o:Option V}{A:Around}{E:Value->Shared->Prop}
theorem Inv.big (I:Inv X pins σ H s):sysModules < s.heap.objs.size:=by
 have h:mainGlobals < s.heap.objs.size:=(I.mod.glob.keeps I.bk).lt;exact Nat.lt_trans (by decide) h
end
theorem qfh {P:Program}{w:World}{H:Hp} (h:Heap) (hb:sysModules < h.objs.size):ObjOk P w H (h.push { cls:=.type "dict",data:=.dict #[] }) h.objs.size (.dK []) :=
 ⟨Nat.zero_le _,beq_eq_false_iff_ne.mpr (Ne.symm (Nat.ne_of_lt hb)),[],.nil,Heap.DictOf.new h⟩
def qg2:TE:=fun _ H Q=>∀ p,H p=none->Q (.ref p) (upd H p (.dK []))
section
variable {X:Cx}{pos:Pos}
theorem qcm:PE X (.Dict [] [] pos) qg2:=fun pins s σ H Q I h =>
 wpAny_Dict_empty ⟨.ref s.heap.objs.size,_,I.laid (a:=s.heap.objs.size) (o:=.dK []) (t':=s.toks) (fun _ _ q=>Heap.get?_push_of_some _ q) (Nat.le_refl _) (qfh s.heap I.big),rfl,h _ (I.hok.fresh (Nat.le_refl _))⟩
end
end L2
namespace Att
open PySem PySem.W PySem.Calls PyProof.Rows
theorem JA {P:Params}{h:Heap}:∀ (ns:List Int) (vs:List Value),WellAll P h vs (ns.map WData.int)->IntsAre vs ns:=by
 intro ns
 induction ns with
 | nil =>
   intro vs w;rw[List.map_nil]at w;cases w;exact .nil
 | cons n ns ih =>
   intro vs w;rw[List.map_cons]at w
   cases w with
   | cons a b =>
     cases a;exact .cons _ _ (ih _ b)
theorem qdq {l:OpenLaw}{n:Nat} (hn:l.most=some n) {P:Params}{h:Heap}{args:List WData}{vals:List Value}
   (hpre:l.row.toRowW.claim.pre args=true) (hwl:WellAll P h vals args) :
   ∃ a vs ns,vals=[Value.ref a]∧args=[WData.list (ns.map WData.int)]∧h.get? a=some { cls:=.type "list",data:=.seq vs.toArray }∧IntsAre vs ns∧ns.length≤n:=by
 have hsh:WShape.hasAll [] args [.list .int]=true:=(pre_splitW hpre).1;have hc:l.pre.holds [] { args:=args }=true:=(pre_splitW hpre).2;obtain⟨d,r,rfl,h1,h2⟩:=hasAllW_cons hsh;obtain rfl:=hasAllW_nil h2;obtain⟨xs,rfl,h3⟩:=hasW_list h1;obtain⟨ns,rfl⟩:=items_int h3
 have hlen:ns.length≤n:=by
   unfold OpenLaw.pre at hc
   have h4:(WTm.not (.lt (.lit (.int (n:Int))) (.len (.arg 0)))).holds [] { args:=[.list (ns.map .int)] }=true:=by
     have h4:=(holds_andW hc).1;rw[hn]at h4;exact h4
   have h5:=condW_of h4 (w_not (w_lt w_lit (w_len_list (w_arg rfl))));rw[List.length_map]at h5;refine Nat.le_of_not_lt fun q=>?_;have q':(n:Int) < ((ns.length:Nat):Int):=by omega
   first
     | (rw[decide_eq_true q']at h5;exact absurd h5 (by decide))
     | (simp at h5;omega)
 cases hwl with
 | cons w1 w2 =>
   cases w2
   cases w1 with
   | list ho hall=>exact⟨_,_,ns,rfl,rfl,ho,JA ns _ hall,hlen⟩
theorem qdB (l:OpenLaw) (args:List WData):l.row.toRowW.claim.post args (.bool true) args=true :=
 postW_of (r:=l.row.toRowW) (X:=(true == true))
   (show WShape.has [] (.bool true) .bool=true by first|rfl|decide|simp[WShape.has,WShape.arms,WShape.armsAll])
   (show (WTm.eq .res (.lit (.bool true))).value [] { args:=args,res:=some (.bool true),after:=args }=some (.bool (true == true)) from w_eq_bool (w_res rfl) w_lit) rfl
theorem attach_call {l:OpenLaw}{n:Nat}{q:Program}{loose:List Str}{XP:(Str->Option Value)->Heap->Prop}{YP:World->Heap->Prop}{d:DefRec}
   (hn:l.most=some n) (hdf:d.params.defaults=[])
   (call:∀ (w:World) (s₀ s₁:Shared) (mg mb:Str->Option Value) (fa:Addr) (o:Obj) (pm cd doc:Value) (a:Addr) (vs:List Value) (ns:List Int),
     Ground q loose [] XP w s₀ mg mb s₁.heap->YP w s₁.heap ->
     s₁.heap.get? fa=some o->o.data=.func (docDef d.name d.params d.body d.scope pm cd doc)->s₁.heap.CodeRec cd d.name->mg d.name=some (.ref fa) ->
     s₁.heap.get? a=some { cls:=.type "list",data:=.seq vs.toArray }->IntsAre vs ns->ns.length≤n->s₁.gens=#[] ->
     codeAny (model l.prog w) callerA (.call (.ref fa) ⟨[.ref a],[]⟩) (fun r s'=>r=.ok (.ret (.bool true))∧OldK s₁.heap s'.heap∧s'.os=s₁.os∧AllBare s'.gens) s₁) :
   WalkO q loose XP YP l.row.toRowW d [] (fun f vs=>PySem.call f vs):=by
 intro w s₀ s₁ mg mb G Y fa o pm cd doc dV kV ho hd hcd hD hmg hg args vals as hpre hlay hrd hwl hlo;obtain rfl:dV=.none:=Dflts.none hD hdf;obtain rfl:kV=.none:=Dflts.noKw hD;obtain⟨a,vs,ns,rfl,rfl,hobj,hints,hlen⟩:=qdq hn hpre hwl;refine enter_call (codeAny_mono (call w s₀ s₁ mg mb fa o pm cd doc a vs ns G Y ho (fd_plain hd) hcd hmg hobj hints hlen hg) fun r s' hq=>?_);obtain⟨rfl,h2,h3,h4⟩:=hq;exact⟨.inl ⟨.bool true,.bool true,[],rfl,fun _=>rfl,.bool true,qdB l _,fun _=>⟨List.Pairwise.nil,fun _ hm=>(nomatch hm)⟩⟩,h2,h3,h4⟩
end Att
namespace L2
open PySem PySem.Spec PyProof.Rows
open PySem.W (Frag keepIn kitOne fnOf codeIn)
theorem qa2:∀ {vs:List Value}{ns:List Int},IntsAre vs ns->Vals (ns.map V.int) vs
 | _,_,.nil=>.nil
 | _,_,.cons n t h=>.cons ⟨t,rfl⟩ (qa2 h)
def qX (s:Stmt) (j:Nat):Stmt:=match s with
 | .ClassDef _ _ _ body _ _ _ _ _ _ _=>body.getD j (.Pass ⟨0,0,0,0⟩)
 | _=>.Pass ⟨0,0,0,0⟩
def z5 (s:Stmt):Arguments:=match s with
 | .FunctionDef _ a _ _ _ _ _ _ _ _=>a
 | _=>{ posonlyargs:=[],args:=[],vararg:=none,kwonlyargs:=[],kw_defaults:=[],kwarg:=none,defaults:=[] }
def zj (s:Stmt):List Stmt:=match s with
 | .FunctionDef _ _ b _ _ _ _ _ _ _=>b
 | _=>[]
def qh (s:Stmt):Scope:=match s with
 | .FunctionDef _ _ _ _ _ _ sc _ _ _=>sc
 | _=>{ kind:=.function,names:=[],isGenerator:=false,isCoroutine:=false }
abbrev CX0:CXT:=fun _ _ _ _ _ _=>False
abbrev E0:XK:=fun _ _ _=>False
theorem qv {X:Cx}:Z2 CX0 X E0:=fun _ _ _ _ _ _ _ h=>h.elim
structure Fun (K:Frag) (x qual:Str) (st:Stmt) (f:Addr) (fd:FuncData):Prop where
 ex:∃ (oc:Value) (od:Option Addr) (kV doc pm:Value) (an:Option Addr) (cdv ct:Value) (osl:Array (Option Value)),
   fd=fnOf x qual (z5 st) (zj st) (qh st) .none kV doc pm an cdv ct∧K.lookup f=some ⟨oc,od,.func fd,osl⟩∧codeIn K cdv qual=true
 kp:keepIn K (.ref f)=true
section
variable {P:Program}{w:World}{K:Frag}{mg:Str->Option Value}{base:Heap}
theorem Fun.ok {x qual:Str}{st:Stmt}{f:Addr}{fd:FuncData}{N ps:List Str}{k:Nat}{sp:Sp} (F:Fun K x qual st f fd) (S:qr N ps (qh st)) (len:∀ vs H Q E,sp vs H Q E->vs.length=ps.length)
   (hbody:∀ (cdv:Value) (A:Around) (outer:List Env) (s:Shared) (H:Hp) (vs:List V) (Q:VK) (E:XK),Room k (A.deeper (envOfC qual (qh st) s.heap.objs.size f cdv))->sp vs H Q E ->
     ∃ t,PSs (zc CX0 P w K mg base N qual (qh st) f cdv A outer s H E).nox (zj st) t∧t { nx:=fun _ H'=>Q .non H',rt:=Q } (JJ N vs) H):qB P w K mg base CX0 (k+1) f fd ps sp:=by
 obtain⟨oc,od,kV,doc,pm,an,cdv,ct,osl,rfl,lk,hcd⟩:=F.ex;refine qgH lk hcd S len fun A outer s H vs Q E hr hsp=>?_;obtain⟨t,h,q⟩:=hbody cdv A outer s H vs Q E hr hsp;exact⟨t,h.nox,q⟩
theorem Fun.binds {x qual:Str}{st:Stmt}{f:Addr}{fd:FuncData}{ps:List Str} (F:Fun K x qual st f fd)
   (h:∀ (kV doc pm:Value) (an:Option Addr) (cdv ct:Value) (us:List Value),us.length=ps.length->bindArgs (fnOf x qual (z5 st) (zj st) (qh st) .none kV doc pm an cdv ct) ⟨us,[]⟩=pure (ps.zip us)):Binds K fd ps []:=by
 obtain⟨oc,od,kV,doc,pm,an,cdv,ct,osl,rfl,lk,hcd⟩:=F.ex;exact .all (h kV doc pm an cdv ct)
theorem qcx {x qual:Str}{st:Stmt}{f:Addr}{oc:Value}{od an:Option Addr}{osl:Array (Option Value)}{kV doc pm cdv ct:Value} (l:K.lookup f=some ⟨oc,od,.func (fnOf x qual (z5 st) (zj st) (qh st) .none kV doc pm an cdv ct),osl⟩)
   (c:codeIn K cdv qual=true) (k:keepIn K (.ref f)=true):Fun K x qual st f (fnOf x qual (z5 st) (zj st) (qh st) .none kV doc pm an cdv ct):=⟨⟨oc,od,kV,doc,pm,an,cdv,ct,osl,rfl,l,c⟩,k⟩
end
theorem qJ {A:Around}{k:Nat} (hr:Room k A):A.units+1 < cLine:=Nat.lt_of_le_of_lt (Nat.add_le_add_left (by decide:1≤64) _) hr.units
theorem qR {n:Nat} (h:n≤1000):n < sizeLine:=Nat.lt_of_le_of_lt h (by decide)
section
variable {X:Cx}
theorem pv (i:Nat) {x:Str}{pos:Pos} (hN:X.N[i]?=some x:=by rfl) (hv:Vis X.env.scope x:=by first|exact Or.inl rfl|exact Or.inr (Or.inl rfl)|exact Or.inr (Or.inr rfl)) (hd:(x == ("__debug__":Str))=false:=by decide)
   (hcd:(x == ("__classdict__":Str))=false:=by decide):PE X (.Name x pos) (qh0 i):=qhm hN hv hd hcd
end
theorem Zq {A B:Prop} (h:B):if false=true then A else B:=by
 rw[if_neg Bool.false_ne_true];exact h
theorem Q6 {A B:Prop} (h:A):if true=true then A else B:=by
 rw[if_pos rfl];exact h
def Same (H H':Hp):Prop:=∀ b o,H b=some o->H' b=some o
theorem Same.refl (H:Hp):Same H H:=fun _ _ h=>h
theorem Same.trans {H H1 H2:Hp} (a:Same H H1) (b:Same H1 H2):Same H H2:=fun c o h=>b c o (a c o h)
section
variable {X:Cx}{pins:List (Addr×Obj)}{σ:St}{H:Hp}{s:Shared}{h':Heap}
theorem Inv.turnLaid {ch:List Addr}{a:Addr}{o:HO}{t':Nat} (I:Inv X pins σ H s) (k:∀ b u,b∉ch->s.heap.get? b=some u->h'.get? b=some u) (hf:∀ b∈ch,qc2 X pins H b)
   (hp:s.heap.objs.size≤a) (new:ObjOk X.prog X.w (upd H a o) h' a o):Inv X pins σ (upd H a o) { s with heap:=h',toks:=t' }:=by
 have hn:H a=none:=I.hok.fresh hp;refine I.step (g':=s.gens) (d':=s.drawn) (ch:=ch) (fun b hb=>?_) (fun b u _ _ hc e _=>k b u hc e) (fun b u _ _ hc e _=>⟨u.slots,k b u hc e⟩)
   (fun b u _ e n=>?_) (fun b u hc e=>⟨u,k b u hc e⟩) (fun b xs e=>?_) (fun b u v e=>?_) (fun b ps e=>?_) (fun m hm=>?_) (fun b u e=>?_) I.bare
 · obtain⟨_,f1,_,f3,f4,f5⟩:=hf b hb;exact⟨f3,f1,f4,f5⟩
 · rw[qi (Nat.ne_of_lt (Nat.lt_of_lt_of_le (Heap.lt_size e) hp))];exact n
 · rw[qi (qk e hn)];exact e
 · rw[qi (qk e hn)];exact e
 · exact⟨#[],by rw[qi (qk e hn),e];simp⟩
 · obtain⟨ob,es,ep,ho,r⟩:=hm;exact⟨ob,es,ep,k _ ob (fun z=>(hf _ z).2.1 rfl) ho,r⟩
 · by_cases hb:b=a
   · subst hb;rw[qe]at e;cases e;exact new
   · rw[qi hb]at e;refine(I.hok b u e).stay (fun c v hc q=>k c v ?_ q) (fun c q=>by rw[qi (qk q hn)];exact q) fun c xs q=>by rw[qi (qk q hn)];exact q
     intro z;have zz:=(hf c z).1;rcases hc with rfl|hc
     · rw[e]at zz;cases zz
     · rw[hc]at zz;cases zz
theorem Inv.turnL {ch:List Addr}{t':Nat} (I:Inv X pins σ H s) (k:∀ b u,b∉ch->s.heap.get? b=some u->h'.get? b=some u) (hf:∀ b∈ch,qc2 X pins H b) :
   Inv X pins σ H { s with heap:=h',toks:=t' }:=by
 refine I.step (g':=s.gens) (d':=s.drawn) (ch:=ch) (fun b hb=>?_) (fun b u _ _ hc e _=>k b u hc e) (fun b u _ _ hc e _=>⟨u.slots,k b u hc e⟩)
   (fun b u _ e n=>n) (fun b u hc e=>⟨u,k b u hc e⟩) (fun b xs e=>e) (fun b u v e=>e) (fun b ps e=>⟨#[],by rw[e];simp⟩) (fun m hm=>?_) (fun b u e=>?_) I.bare
 · obtain⟨_,f1,_,f3,f4,f5⟩:=hf b hb;exact⟨f3,f1,f4,f5⟩
 · obtain⟨ob,es,ep,ho,r⟩:=hm;exact⟨ob,es,ep,k _ ob (fun z=>(hf _ z).2.1 rfl) ho,r⟩
 · refine(I.hok b u e).stay (fun c v hc q=>k c v ?_ q) (fun c q=>q) fun c xs q=>q;intro z;have zz:=(hf c z).1;rcases hc with rfl|hc
   · rw[e]at zz;cases zz
   · rw[hc]at zz;cases zz
end
def Ite (K:Frag) (a:Addr):It :=
 ⟨fun i H=>∃ xs x,SqL K H a xs∧xs[i]?=some x,
  fun i H x H'=>∃ p v,H p=none∧x=.ref p∧(∀ xs,SqL K H a xs->xs[i]?=some v)∧H'=upd H p (.tup [.int i,v]),
  fun i H=>∃ xs,SqL K H a xs∧xs.length≤i⟩
theorem qdd {P:Program}{w:World}{K:Frag}{elts:List Expr}{k:Nat}{pos:Pos} (a e it:Addr) (hne:e≠it) :
   qhT P w K (.Tuple elts k pos) (Ite K a) [e,it] e (fun i h=>(∃ old,IsEnum h e it i old)∧h.IsListIter it a i) where
 mem:=by simp
 obj:=fun i h st b hb=>by
   obtain⟨⟨old,he⟩,hit⟩:=st;rcases List.mem_cons.mp hb with rfl|hb
   · exact⟨_,he,fun v z=>by cases z⟩
   · have e1:b=it:=by simpa using hb
     subst e1;obtain⟨o,q,c,d⟩:=hit;exact⟨o,q,fun v z=>by rw[d]at z;cases z⟩
 keep:=fun i h h' st kk=>by
   obtain⟨⟨old,he⟩,hit⟩:=st;exact⟨⟨old,kk e (by simp) _ he⟩,hit.at fun o q=>kk it (by simp) o q⟩
 item:=by
   intro X hP hw hK hc i pins s σ H E I hf st hg;subst hP hw hK;obtain⟨xs,x,hq,hx⟩:=hg;obtain⟨its,rv,p,hz⟩:=I.list hq;obtain⟨u,hu,ru⟩:=rv.get hx;obtain⟨⟨old,he⟩,hit⟩:=st;refine wpAny_pyNext_enum_item he hit p.isList (x:=u) (by simpa using hu) hne fun h1 ho hit1 hT hsz hk=>?_;refine⟨_,rfl,wpAny_letOwnedTupleGo_enum (s:={ s with heap:=h1,toks:=s.toks+1 }) ho fun h2 he2 hs2=>?_⟩;have hel:e < s.heap.objs.size:=Heap.lt_size he;have hil:it < s.heap.objs.size:=by obtain⟨_,q,_⟩:=hit;exact Heap.lt_size q
   have hT2:h2.get? s.heap.objs.size=some { cls:=.type "tuple",data:=.seq #[.int i s.toks,u] }:=(hs2.2 _ (Nat.ne_of_gt hel)).trans hT
   have I1:Inv X pins σ (upd H s.heap.objs.size (.tup [.int i,x])) { s with heap:=h2,toks:=s.toks+1 }:=by
     refine I.turnLaid (ch:=[e,it]) (fun b o hb q=>?_) hf (Nat.le_refl _) ⟨by show 2≤sizeLine;decide,[.int i s.toks,u],.cons ⟨_,rfl⟩ (.cons ru .nil),⟨_,hT2,rfl,_,rfl⟩⟩;have b1:b≠e:=fun z=>hb (by simp[z]);have b2:b≠it:=fun z=>hb (by simp[z]);exact(hs2.2 b b1).trans (hk b o b1 b2 q)
   refine⟨.ref s.heap.objs.size,_,I1,rfl,⟨_,x,I.hok.fresh (Nat.le_refl _),rfl,fun ys hy=>by rw[I.list_inj hy hq];exact hx,rfl⟩,⟨⟨_,by simpa using he2⟩,hit1.at fun o q=>(hs2.2 it hne.symm).trans q⟩,fun b hb=>?_⟩
   have hbl:b < s.heap.objs.size:=by
     rcases List.mem_cons.mp hb with rfl|hb
     · exact hel
     · have e1:b=it:=by simpa using hb
       rw[e1];exact hil
   rw[qi (Nat.ne_of_lt hbl)];exact(hf b hb).1
 done:=by
   intro X hP hw hK hc i pins s σ H E I hf st hg;subst hP hw hK;obtain⟨xs,hq,hx⟩:=hg;obtain⟨its,rv,p,hz⟩:=I.list hq;obtain⟨⟨old,he⟩,hit⟩:=st;have hl:=rv.length;refine wpAny_pyNext_enum_end (I.ok.hd hc) he hit p.isList (by simp;omega) fun h' eb=>⟨rfl,I.turnL (t':=s.toks) (ch:=[e,it]) (fun b o hb q=>eb b o (fun z=>hb (by simp[z])) q) hf⟩
 self:=fun _ _ _ _ _ st h=>by
   obtain⟨⟨old,he⟩,_⟩:=st;exact wpAny_pyIter_enum he h
theorem qes:bootBuiltins "enumerate"=some (.type "enumerate"):=by decide +kernel
inductive qd5 (K:Frag) (R:(It->Hp->Prop)) (vs:List V) (H1:Hp):Prop
 | mk (a:_) (h1:vs=[.ref a]) (h2:(∃ xs,SqL K H1 a xs)) (h3:R (Ite K a) H1):qd5 K R vs H1
def qiI (K:Frag) (ta:TA):TI:=fun σ H R=>ta σ H fun vs H1=>qd5 K R vs H1
section
variable {X:Cx}
theorem qgr {a:Expr}{ta:TA}{p pos tp:Pos}{elts:List Expr}{kk:Nat} (hg:Gl X "enumerate") (hm:X.mg "enumerate"=none) (ha:PA X [a] ta) (hs:starEach [a] X.env=[(false,eval a X.env)]:=by rfl) :
   PI X (.Tuple elts kk tp) (.Call (.Name "enumerate" p) [a] [] pos) (qiI X.K ta):=by
 intro pins s σ H R I h;refine Call_ (qal I hg hm qes (PyProof.Rows.callWith_type1 (thn (ha pos pins s σ H _ I h) fun us s1 zz_=>?_) hs rfl));obtain⟨vs,H1,I1,r1,q1⟩:=zz_;obtain⟨l,e,⟨xs,hq⟩,q⟩:=q1;subst e;obtain⟨u,rfl,ru⟩:=JI r1;cases ru;obtain⟨its,rv,pl,hz⟩:=I1.list hq;refine call_enumerate_list pl.isList fun h' he hit hsz hk=>?_;have I2:Inv X pins σ H1 { s1 with heap:=h' }:=I1.kept (t':=s1.toks) hk;refine wpAny_pyIter_enum he ⟨s1.heap.objs.size+1,[s1.heap.objs.size+1,s1.heap.objs.size],_,Ite X.K l,H1,rfl,I2,qdd l _ _ (Nat.succ_ne_self _),⟨⟨_,he⟩,hit⟩,fun b hb=>?_,q⟩
 have hb1:s1.heap.objs.size≤b:=by
   rcases List.mem_cons.mp hb with e1|hb
   · rw[e1];exact Nat.le_succ _
   · have e1:b=s1.heap.objs.size:=by simpa using hb
     rw[e1];exact Nat.le_refl _
 exact I1.fpOk hb1 (I1.hok.fresh hb1)
end
theorem qfg {K:Frag}{a:Addr}{xs:List V}{g:TG}{tb:TS}{D:qc5}{σ:St}{H:Hp} (Pv:Nat->St->Hp->Prop) (h0:Pv 0 σ H) (hl:∀ i σ H,i≤xs.length->Pv i σ H->SqL K H a xs)
   (hs:∀ i x σ H p,xs[i]?=some x->Pv i σ H->H p=none->g (.ref p) σ (upd H p (.tup [.int i,x])) fun σ2 H2=>tb { D with nx:=Pv (i+1),ct:=Pv (i+1),bk:=D.nx } σ2 H2) (hd:∀ σ H,Pv xs.length σ H->D.nx σ H) :
   ∃ W:Nat->Nat->St->Hp->Prop,(∃ m,W 0 m σ H)∧∀ i m σ H,W i m σ H ->
     ((Ite K a).stop i H∧D.nx σ H)∨((Ite K a).go i H∧∃ N:St->Hp->Prop,(∀ σ' H',N σ' H'->∃ m',m' < m∧W (i+1) m' σ' H')∧∀ x H',(Ite K a).yld i H x H'->g x σ H' fun σ2 H2=>tb { D with nx:=N,ct:=N,bk:=D.nx } σ2 H2):=by
 refine⟨fun i m σ H=>m=xs.length - i∧i≤xs.length∧Pv i σ H,⟨xs.length,by simp,Nat.zero_le _,h0⟩,?_⟩;rintro i m σ H ⟨rfl,hi,p⟩;have q:=hl i σ H hi p;by_cases hlt:i < xs.length
 · refine .inr ⟨⟨xs,xs[i],q,by simp[hlt]⟩,Pv (i+1),fun σ' H' p'=>⟨xs.length - (i+1),by omega,rfl,hlt,p'⟩,fun x H' y=>?_⟩;obtain⟨t,v,hn,rfl,y,rfl⟩:=y;exact hs i v σ _ t (y xs q) p hn
 · have e:i=xs.length:=by omega
   subst e;exact .inl ⟨⟨xs,q,Nat.le_refl _⟩,hd σ H p⟩
def tyN (H:Hp):V->Option String
 | .non=>some "NoneType"
 | .bl _=>some "bool"
 | .int _=>some "int"
 | .str _=>some "str"
 | .ref a=>match H a with
   | some (.lst _)=>some "list"
   | some (.tup _)=>some "tuple"
   | some (.dK _)=>some "dict"
   | _=>none
 | _=>none
def qjb (c t:String):Bool:=t == c || (t == "bool" && c == "int")
theorem qeG {K:Frag}{H:Hp}{v:V}{t:String} (h:tyN H v=some t):qa0 K H v (.type t):=by
 cases v with
 | non=>cases h;exact .non
 | bl b=>cases h;exact .bl b
 | int b=>cases h;exact .int b
 | str b=>cases h;exact .str b
 | byt b=>cases h
 | flt b=>cases h
 | ty b=>cases h
 | ref a =>
   simp only[tyN]at h;split at h
   · rename_i e;cases h;exact .lst e
   · rename_i e;cases h;exact .tup e
   · rename_i e;cases h;exact .dK e
   · cases h
def qbN:List String:=["NoneType","bool","int","str","list","tuple","dict"]
theorem qf6 {H:Hp}{v:V}{t:String} (h:tyN H v=some t):t∈qbN:=by
 cases v with
 | non=>cases h;decide
 | bl b=>cases h;decide
 | int b=>cases h;decide
 | str b=>cases h;decide
 | byt b=>cases h
 | flt b=>cases h
 | ty b=>cases h
 | ref a =>
   simp only[tyN]at h;split at h<;>first|(cases h;decide)|cases h
def qaU:List String:=["bool","int","str","list","tuple","dict"]
theorem qhL (K:Frag) {t c:String} (ht:t∈qbN) (hc:c∈qaU):kitOne K (.type t) (.type c)=some (qjb c t):=by
 simp only[qbN,qaU,List.mem_cons,List.not_mem_nil,or_false]at ht hc;rcases ht with rfl|rfl|rfl|rfl|rfl|rfl|rfl<;>rcases hc with rfl|rfl|rfl|rfl|rfl|rfl<;>(unfold kitOne PySem.W.kitCls;rfl)
inductive qfx (xs:List V) (H:Hp) (Q:VK):Prop
 | mk (x c t:_) (h1:xs=[x,.ty c]) (h2:c∈qaU) (h3:tyN H x=some t) (h4:Q (.bl (qjb c t)) H):qfx xs H Q
def qju:List V->Hp->VK->Prop:=fun xs H Q=>qfx xs H Q
section
variable {X:Cx}
theorem zn:Z3 X (.builtin "isinstance") qju:=by
 intro pins s σ H xs us Q I r h;obtain⟨x,c,t,rfl,hc,ht,q⟩:=h;obtain⟨u,w',rfl,ru,rw'⟩:=qdb r;cases (show w'=Value.type c from rw');exact qbt I ru (qeG ht) (qhL X.K (qf6 ht) hc) fun tk=>⟨.bl _,H,I.tok tk,rfl,q⟩
end
mutual
inductive DV (H:Hp):V->PyData->Prop
 | non:DV H .non .none
 | bl (b):DV H (.bl b) (.bool b)
 | int (i):DV H (.int i) (.int i)
 | str (x):DV H (.str x) (.str x)
 | lst {a xs ds}:Rd H a (.lst xs)->DVs H xs ds->DV H (.ref a) (.list ds)
 | tup {a xs ds}:Rd H a (.tup xs)->DVs H xs ds->DV H (.ref a) (.tuple ds)
inductive DVs (H:Hp):List V->List PyData->Prop
 | nil:DVs H [] []
 | cons {x xs d ds}:DV H x d->DVs H xs ds->DVs H (x::xs) (d::ds)
end
section
variable {P:Program}{w:World}{H:Hp}{h:Heap}
mutual
theorem DV.reads (ok:HOk P w H h):∀ {v:V}{d:PyData}{u:Value},DV H v d->RelV v u->∃ as,Reads h u d as
 | _,_,u,.non,r=>by cases (show u=Value.none from r);exact⟨_,.none⟩
 | _,_,u,.bl b,r=>by cases (show u=Value.bool b from r);exact⟨_,.bool b⟩
 | _,_,u,.int i,r=>by obtain⟨t,q⟩:=(show ∃ t,u=Value.int i t from r);cases q;exact⟨_,.int i t⟩
 | _,_,u,.str x,r=>by obtain⟨t,q⟩:=(show ∃ t,u=Value.str x t from r);cases q;exact⟨_,.str x t⟩
 | _,_,u,.lst (a:=a) rd q,r=>by
   cases (show u=Value.ref a from r);obtain⟨_,its,n,rv,e⟩:=rd.ok ok;obtain⟨as,z⟩:=DVs.reads ok q rv;exact⟨_,.list e rfl rfl z⟩
 | _,_,u,.tup (a:=a) rd q,r=>by
   cases (show u=Value.ref a from r);obtain⟨_,its,rv,ob,e,c,n,d⟩:=rd.ok ok;obtain⟨as,z⟩:=DVs.reads ok q rv;exact⟨_,.tuple e c d z⟩
theorem DVs.reads (ok:HOk P w H h):∀ {vs:List V}{ds:List PyData}{us:List Value},DVs H vs ds->Vals vs us->∃ as,ReadsAll h us ds as
 | _,_,_,.nil,.nil=>⟨_,.nil⟩
 | _,_,_,.cons a b,.cons r t=>by
   obtain⟨as,z⟩:=DV.reads ok a r;obtain⟨bs,y⟩:=DVs.reads ok b t;exact⟨_,.cons z y⟩
end
end
section
variable {X:Cx}
inductive qfz (x:V) (y:V) (H:Hp) (Q:VK):Prop
 | mk (d e:_) (h1:DV H x d) (h2:DV H y e) (h3:SeqAt.shaped d=true) (h4:SeqAt.shaped e=true) (h5:Q (.bl (PyData.eqv d e)) H):qfz x y H Q
def qi6:R2:=fun x y H Q=>qfz x y H Q
inductive qfu (x:V) (y:V) (H:Hp) (Q:VK):Prop
 | mk (d e:_) (h1:DV H x d) (h2:DV H y e) (h3:SeqAt.shaped d=true) (h4:SeqAt.shaped e=true) (h5:Q (.bl (!PyData.eqv d e)) H):qfu x y H Q
def qi0:R2:=fun x y H Q=>qfu x y H Q
theorem qhs (hu:X.A.units+64 < cLine):OpR X (compareOp .Eq) qi6:=by
 intro pins s σ H x y v u Q I rx ry h;obtain⟨d,e,hd,he,sd,se,q⟩:=h;obtain⟨as,ra⟩:=hd.reads I.hok rx;obtain⟨bs,rb⟩:=he.reads I.hok ry;exact eq_dataH ra rb sd se hu ⟨.bl _,H,I,rfl,q⟩
theorem qhq (hu:X.A.units+64 < cLine):OpR X (compareOp .NotEq) qi0:=by
 intro pins s σ H x y v u Q I rx ry h;obtain⟨d,e,hd,he,sd,se,q⟩:=h;obtain⟨as,ra⟩:=hd.reads I.hok rx;obtain⟨bs,rb⟩:=he.reads I.hok ry;exact ne_dataH ra rb sd se hu ⟨.bl _,H,I,rfl,q⟩
def qiu:R2:=fun x y H Q=>rI0 (fun i j=>.int (i+j)) x y H Q∨qi7 x y H Q∨∃ i j,x=.str i∧y=.str j∧i.length+j.length≤sizeLine∧Q (.str (i++j)) H
theorem zk:OpR X (binaryOp .Add) qiu:=op_add.or (op_cat.or qcP)
def qjv:R2:=fun x y H Q=>rEq x y H Q∨qi6 x y H Q
def qjt:R2:=fun x y H Q=>rNe x y H Q∨qi0 x y H Q
theorem uEq (hU:X.A.units+64 < cLine):OpR X (compareOp .Eq) qjv:=op_eq.or (qhs hU)
theorem uNe (hU:X.A.units+64 < cLine):OpR X (compareOp .NotEq) qjt:=op_ne.or (qhq hU)
end
theorem qbY:bootBuiltins "tuple"=some (.type "tuple"):=by decide +kernel
theorem Qf:bootBuiltins "list"=some (.type "list"):=by decide +kernel
theorem qbC:bootBuiltins "int"=some (.type "int"):=by decide +kernel
theorem qau:bootBuiltins "bool"=some (.type "bool"):=by decide +kernel
theorem zN:bootBuiltins "str"=some (.type "str"):=by decide +kernel
theorem qW:bootBuiltins "len"=some (.builtin "len"):=by decide +kernel
theorem qer:bootBuiltins "max"=some (.builtin "max"):=by decide +kernel
theorem qbB:bootBuiltins "min"=some (.builtin "min"):=by decide +kernel
theorem qg:bootBuiltins "isinstance"=some (.builtin "isinstance"):=by decide +kernel
structure Df (K:Frag) (mg:Str->Option Value) (x:Str) (st:Stmt) (ps:List Str) (f:Addr) (fd:FuncData):Prop where
 F:Fun K x x st f fd
 b:Binds K fd ps []
 m:mg x=some (.ref f)
 k:keepIn K (.ref f)=true
theorem Same.new {H:Hp}{p:Addr} (o:HO) (h:H p=none):Same H (upd H p o):=fun b u e=>by rw[qi (qk e h)];exact e
theorem Same.then {H H1:Hp} (s:Same H H1) {p:Addr} (o:HO) (h:H1 p=none):Same H (upd H1 p o):=s.trans (Same.new o h)
def But (p:Addr) (H H':Hp):Prop:=∀ b o,H b=some o->b≠p->H' b=some o
theorem But.trans {p:Addr}{H H1 H2:Hp} (a:But p H H1) (b:But p H1 H2):But p H H2:=fun c o h n=>b c o (a c o h n) n
theorem But.put {p:Addr}{H H1:Hp} (s:But p H H1) (o:HO):But p H (upd H1 p o):=fun b u e n=>by rw[qi n];exact s b u e n
theorem But.same {p:Addr}{H H1 H2:Hp} (a:But p H H1) (b:Same H1 H2):But p H H2:=fun c o h n=>b c o (a c o h n)
theorem qj {n:Nat} (h:n≤1000):n≤sizeLine:=Nat.le_of_lt (qR h)
theorem qK {b:Bool}{A B:Prop} (e:b=false) (h:B):if b=true then A else B:=by rw[e];exact Zq h
theorem qgC {b:Bool}{A B:Prop} (e:b=true) (h:A):if b=true then A else B:=by rw[e];exact Q6 h
theorem qjA {b:Bool}{A B:Prop} (h1:b=true->A) (h2:b=false->B):if b=true then A else B:=by
 cases b
 · exact Zq (h2 rfl)
 · exact Q6 (h1 rfl)
theorem Zz {c A B:Prop} [Decidable c] (h1:c->A) (h2:¬ c->B):if (decide c)=true then A else B:=by
 by_cases h:c
 · rw[decide_eq_true h];exact Q6 (h1 h)
 · rw[decide_eq_false h];exact Zq (h2 h)
theorem qiF {c A B:Prop} [Decidable c] (h1:¬ c->A) (h2:c->B):if (!decide c)=true then A else B:=by
 by_cases h:c
 · rw[decide_eq_true h];exact Zq (h2 h)
 · rw[decide_eq_false h];exact Q6 (h1 h)
section
variable {prog:Program}{w:World}{A:Around}{R:Result->Shared->Prop}{s:Shared}
abbrev noE:Value->Shared->Prop:=fun _ _=>False
theorem JG {elt target iter:Expr}{ifs:List Expr}{scope:Scope}{pos:Pos}{it acc:Value}{env:Env} (I:Nat->Shared->Prop)
   (turn:∀ n s,I n s->wpAny (model prog w) A (pyNext it) (fun r s₁=>match r with
     | none=>R (.ok .next) s₁
     | some v=>wpAny (model prog w) A (letOwnedTupleGo target it v) (fun _ s₀=>wpAny (model prog w) A (assign target env v) (fun _ s₂ =>
         wpAny (model prog w) A (forIn ifs true fun c r=>if r=true then do let ok ← isTrue c env (eval c env);pure (ForInStep.yield ok) else pure (ForInStep.yield r)) (fun ok s₃ =>
           if ok=true then wpAny (model prog w) A (eval elt env) (fun x s₄ =>
             wpAny (model prog w) A (call (.builtin "list.append") [acc,x]) (fun _ s₅=>∃ m,m < n∧I m s₅) noE s₄) noE s₃
           else ∃ m,m < n∧I m s₃) noE s₂) noE s₀) noE s₁) noE s)
   (n:Nat) (h:I n s) :
   codeAny (model prog w) A (.compLoop (.ListComp elt [⟨target,iter,ifs,0⟩] scope pos) 0 it acc env) R s:=by
 refine codeAny_loop rfl I (fun n s hI=>?_) n h;show wpAny _ A ((compTurn (.ListComp elt [⟨target,iter,ifs,0⟩] scope pos) 0 it acc env).onRaise (fun x=>do noteFrame x env;theTreesLotGoes x)) _ _ s;refine wpAny_noted ?_;rw[compTurn_list];refine wpAny_bind (wpAny_standAt (wpAny_bind (wpAny_mono (turn n s hI) (fun r s₁ h₁=>?_) fun _ _ h'=>h'.elim)))
 cases r with
 | none=>exact wpAny_pure h₁
 | some v =>
   refine wpAny_bind (wpAny_mono h₁ (fun _ s₀ h₀=>?_) fun _ _ h'=>h'.elim);refine wpAny_bind (wpAny_mono h₀ (fun _ s₂ h₂=>wpAny_bind (wpAny_mono h₂ (fun ok s₃ h₃=>?_) fun _ _ h'=>h'.elim)) fun _ _ h'=>h'.elim)
   cases ok with
   | false=>exact wpAny_pure ⟨rfl,h₃⟩
   | true =>
     exact wpAny_bind (wpAny_bind (wpAny_mono h₃ (fun x s₄ h₄=>wpAny_bind (wpAny_mono h₄ (fun _ s₅ h₅=>wpAny_pure (wpAny_pure ⟨rfl,h₅⟩)) fun _ _ h'=>h'.elim)) fun _ _ h'=>h'.elim))
end
def qT (X:Cx) (scope:Scope) (N:List Str) (cl:List (Str×Addr)) (C:Addr) (s₀:Shared) (H₀:Hp) (ex:List Addr) (pn:List (Addr×Obj)):Cx where
 prog:=X.prog
 w:=X.w
 K:=X.K
 mg:=X.mg
 base:=X.base
 A:=X.A
 N:=N
 s₀:=s₀
 H₀:=H₀
 env:=compEnvC scope cl C X.env
 outer:=X.stack
 stack:=X.stack
 ex:=ex
 fn:=fun x=>!(cl.lookup x).isSome
 calm:=X.calm
 pn:=pn
 xe:=noE
def st0 (js:List (Option Nat)) (σ:St):St:=js.map fun o=>o.bind fun j=>(σ[j]?).join
def PTs (X:Cx) (ifs:List Expr) (t:TT):Prop :=
 ∀ (pins:List (Addr×Obj)) (s:Shared) (σ:St) (H:Hp) (Q:Bool->Hp->Prop),Inv X pins σ H s->t σ H Q ->
   wpAny (model X.prog X.w) X.A (forIn ifs true fun c r=>if r=true then do let ok ← isTrue c X.env (eval c X.env);pure (ForInStep.yield ok) else pure (ForInStep.yield r)) (TP X pins σ Q) X.xe s
def qji:TT:=fun _ H Q=>Q true H
theorem jb {X:Cx}:PTs X [] qji:=fun _ _ _ H _ I h=>wpAny_tests_nil ⟨H,I,h⟩
theorem qgm {X:Cx}{c:Expr}{t:TT} (h:PT X c t):PTs X [c] t:=fun pins s σ H Q I q=>wpAny_tests_one (h pins s σ H Q I q)
def jX (J:It) (g:TG) (tt:TT) (te:TE) (D:Addr) (Q:VK) (σ0:St) (H0:Hp):Prop :=
 ∃ W:Nat->Nat->St->Hp->Prop,(∃ m,W 0 m σ0 H0)∧∀ i m σ' H',W i m σ' H' ->
   (J.stop i H'∧Q (.ref D) H')∨(J.go i H'∧∃ N:St->Hp->Prop,(∀ σ2 H2,N σ2 H2->∃ m',m' < m∧W (i+1) m' σ2 H2) ∧
     ∀ x H2,J.yld i H' x H2->g x σ' H2 fun σ3 H3=>tt σ3 H3 fun ok H4=>if ok=true then te σ3 H4 fun y H5=>∃ ys,H5 D=some (.lst ys)∧ys.length < sizeLine∧N σ3 (upd H5 D (.lst (ys++[y]))) else N σ3 H4)
def qg3 (wi:TI) (g:TG) (tt:TT) (te:TE) (js:List (Option Nat)):TE:=fun σ H Q=>wi σ H fun J H1=>∀ D,H1 D=none->jX J g tt te D Q (st0 js σ) (upd H1 D (.lst []))
structure CompOk (X:Cx) (scope:Scope) (N:List Str) (cl:List (Str×Addr)) (js:List (Option Nat)):Prop where
 clos:closureFor scope X.env=pure cl
 sub:∀ x c,cl.lookup x=some c->X.env.cells.lookup x=some c
 all:∀ x,((relabel scope X.env).names.lookup x=some .cell∨(relabel scope X.env).names.lookup x=some .free)->∃ c,cl.lookup x=some c
 cell:∀ y∈scope.names,y.2≠.cell
 kind:scope.kind=.function
 names:∀ y∈scope.names,y.2=.local->scope.names.lookup y.1=some .local
 len:js.length=N.length
 fr:∀ (i j:Nat) (x:Str),js[i]?=some (some j)->N[i]?=some x->X.N[j]?=some x∧X.env.kindOf x=some .cell∧((relabel scope X.env).names.lookup x=some .cell∨(relabel scope X.env).names.lookup x=some .free)
section
variable {X:Cx}
theorem qgd {js:List (Option Nat)}{σ:St}{i:Nat}{v:V} (h:(st0 js σ)[i]?=some (some v)):∃ j,js[i]?=some (some j)∧σ[j]?=some (some v):=by
 unfold st0 at h;rw[List.getElem?_map]at h
 cases e:js[i]? with
 | none=>rw[e]at h;cases h
 | some o =>
   rw[e]at h
   cases o with
   | none=>cases h
   | some j =>
     refine⟨j,rfl,?_⟩;have h':(σ[j]?).join=some v:=by simpa using h
     cases e2:σ[j]? with
     | none=>rw[e2]at h';cases h'
     | some o2=>rw[e2]at h';cases o2 with
       | none=>cases h'
       | some u=>rw[show u=v by simpa using h']
theorem qgL {pins:List (Addr×Obj)}{σ:St}{H:Hp}{s:Shared}{scope:Scope}{N:List Str}{cl:List (Str×Addr)}{js:List (Option Nat)}{C:Addr}{fp:List Addr} (k:CompOk X scope N cl js) (I:Inv X pins σ H s)
   (hf:∀ b∈fp,qc2 X pins H b) (hfl:∀ b∈fp,b < s.heap.objs.size) (hC:s.heap.objs.size≤C):(qT X scope N cl C s H fp (X.pn++pins)).Ok where
 mod:=I.ok.mod
 kind:=k.kind
 glob:=I.ok.glob
 blt:=I.ok.blt
 above:=hC
 inj:=fun x y c h1 h2=>I.ok.inj x y c (k.sub _ _ h1) (k.sub _ _ h2)
 has:=fun x h=>k.all x h
 cab:=fun x c h1 h2=>by
   have h1':(!(cl.lookup x).isSome)=true:=h1;have h2':cl.lookup x=some c:=h2;rw[h2']at h1';cases h1'
 hd:=I.ok.hd
 frames:=I.ok.frames
 stk:=.inl rfl
 exf:=fun b hb=>⟨Nat.ne_of_lt (Nat.lt_of_lt_of_le (hfl b hb) hC),fun x c h=>(hf b hb).2.2.2.2.1 x c (k.sub _ _ h)⟩
 bs:=I.bs
 bsz:=Nat.le_trans I.ok.bsz I.sz
 noex:=fun b o e hb=>by
   rcases (hf b hb).2.2.2.1 with z|z
   · exact I.ok.noex b o e z
   · exact absurd (Nat.lt_of_lt_of_le (Heap.lt_size e) (Nat.le_trans I.ok.bsz z)) (Nat.lt_irrefl _)
 exfs:=fun b hb z=>by
   rcases List.mem_cons.mp (I.stkSub b z) with e|e
   · exact(hf b hb).2.1 e
   · exact(hf b hb).2.2.1 e
 funs:=I.stack
 frf:=I.stkFree
theorem qcD {pins:List (Addr×Obj)}{σ:St}{H:Hp}{s:Shared}{h1:Heap}{t':Nat}{scope:Scope}{N:List Str}{cl:List (Str×Addr)}{js:List (Option Nat)}{C D:Addr}{fp:List Addr}{m:Str->Option Value} (k:CompOk X scope N cl js) (I:Inv X pins σ H s)
   (hf:∀ b∈fp,qc2 X pins H b) (hfl:∀ b∈fp,b < s.heap.objs.size) (hD:s.heap.objs.size≤D) (hC:s.heap.objs.size≤C) (hDC:D≠C)
   (hn:h1.Ns C m) (hl:h1.get? D=some { cls:=.type "list",data:=.seq ([]:List Value).toArray }) (hk:∀ b o,s.heap.get? b=some o->h1.get? b=some o) :
   Inv (qT X scope N cl C s H fp (X.pn++pins)) [] (st0 js σ) (upd H D (.lst [])) { s with heap:=h1,toks:=t' }:=by
 have fD:H D=none:=I.hok.fresh hD;have fC:H C=none:=I.hok.fresh hC;have nC:∀ b,b < s.heap.objs.size->b≠C:=fun b hb=>Nat.ne_of_lt (Nat.lt_of_lt_of_le hb hC);refine⟨qgL k I hf hfl hC,rfl,I.bare,?_,?_,?_,?_,?_,?_,?_,?_⟩
 · exact(Un.laid (fs:=frs X.stack) (ex:=fp) (o:=.lst []) hk hD fD)
 · refine⟨m,hn,fun i x v e1 e2 e3=>?_⟩;obtain⟨j,f1,f2⟩:=qgd e2;obtain⟨g1,g2,g3⟩:=k.fr i j x f1 e1;obtain⟨m',hn',hl'⟩:=I.loc;obtain⟨u,ru,lk⟩:=hl' j x v g1 f2 (.inr (.inl g2));refine⟨u,ru,.inr ⟨g3,?_⟩⟩;obtain⟨c,hc⟩:=k.all x g3;rcases lk with ⟨z,_⟩|⟨_,c',hc',ic⟩
   · rw[g2]at z;cases z
   · have e:=k.sub _ _ hc;rw[hc']at e;cases e;obtain⟨o,ho,hd⟩:=ic;exact⟨c,hc,o,hk _ _ ho,hd⟩
 · intro x c h;obtain⟨v,o,ho,hd⟩:=I.cell x c (k.sub _ _ h);exact⟨v,o,hk _ _ ho,hd⟩
 · show (upd H D (.lst [])) C=none;rw[qi hDC.symm];exact fC
 · intro x c h;obtain⟨v,o,ho,hd⟩:=I.cell x c (k.sub _ _ h);rw[qi (Nat.ne_of_lt (Nat.lt_of_lt_of_le (Heap.lt_size ho) hD))];exact I.freeC x c (k.sub _ _ h)
 · intro p hp;have hp':p∈X.pn++pins:=by simpa[qT] using hp
   obtain⟨e,n,ne,nf,d⟩:=I.pin p hp';have lt:=Heap.lt_size e;refine⟨hk _ _ e,by rw[qi (Nat.ne_of_lt (Nat.lt_of_lt_of_le lt hD))];exact n,nC _ lt,fun z=>?_,d⟩;rcases List.mem_cons.mp (I.stkSub _ z) with e|e
   · exact ne e
   · exact nf e
 · exact I.hok.laid hk hD ⟨Nat.zero_le _,[],0,.nil,hl⟩
 · show (st0 js σ).length=N.length;unfold st0;rw[List.length_map];exact k.len
theorem jc {elt iter tg:Expr}{ifs:List Expr}{scope:Scope}{pos:Pos}{wi:TI}{g:TG}{tt:TT}{te:TE}{N:List Str}{cl:List (Str×Addr)}{js:List (Option Nat)} (hc:X.calm=true) (k:CompOk X scope N cl js) (hi:PI X tg iter wi)
   (hg:∀ C s₀ H₀ ex pn,PG (qT X scope N cl C s₀ H₀ ex pn) tg g) (ht:∀ C s₀ H₀ ex pn,PTs (qT X scope N cl C s₀ H₀ ex pn) ifs tt) (he:∀ C s₀ H₀ ex pn,PE (qT X scope N cl C s₀ H₀ ex pn) elt te)
   (hs:∀ x,foldedSetIterable iter X.env x=pure x:=by intro _;rfl) :
   PE X (.ListComp elt [⟨tg,iter,ifs,0⟩] scope pos) (qg3 wi g tt te js):=by
 intro pins s σ H Q I h;rw[eval_ListComp];refine wpAny_comprehension_free (use:=none) rfl hs k.clos k.kind k.names ?_;refine thn (hi pins s σ H _ I h) fun v s1 h1=>thn h1 fun itv s2 h2=>?_;obtain⟨it,fp,tn,J,H2,e,I2,T,st2,f2,hD⟩:=h2;subst e;refine wpAny_newObj_type (wpAny_newFunctionEnv k.cell (by intro y hy;simp at hy) (fun h₁ hns₁ hsb₁=>?_) k.kind);dsimp only at hns₁ hsb₁ ⊢;generalize hH2:s2.heap.push { cls:=.type "list",dict:=none,data:=.seq ([]:List Value).toArray }=P2 at hns₁ hsb₁ ⊢;have hC:P2.objs.size=s2.heap.objs.size+1:=by rw[← hH2,Heap.size_push]
 have hDC:s2.heap.objs.size≠P2.objs.size:=by rw[hC];exact Nat.ne_of_lt (Nat.lt_succ_self _)
 have hCle:s2.heap.objs.size≤P2.objs.size:=by rw[hC];exact Nat.le_succ _
 have old:∀ b o,s2.heap.get? b=some o->h₁.get? b=some o:=fun b o e=>hsb₁.extBut b o (Nat.ne_of_lt (Nat.lt_of_lt_of_le (Heap.lt_size e) hCle)) (Heap.get?_push_of_some _ (hH2▸Heap.get?_push_of_some _ e));have hacc:h₁.get? s2.heap.objs.size=some { cls:=.type "list",data:=.seq ([]:List Value).toArray }:=hsb₁.extBut _ _ hDC (Heap.get?_push_of_some _ (hH2▸Heap.get?_push_size _ rfl))
 have hfl:∀ b∈fp,b < s2.heap.objs.size:=fun b hb=>by
   obtain⟨o,e,_⟩:=T.obj _ _ st2 b hb;exact Heap.lt_size e
 have fD:H2 s2.heap.objs.size=none:=I2.hok.fresh (Nat.le_refl _);obtain⟨W,⟨m0,w0⟩,turn⟩:=hD _ fD
 have IX:Inv (qT X scope N cl P2.objs.size s2 H2 fp (X.pn++pins)) [] (st0 js σ) (upd H2 s2.heap.objs.size (.lst [])) { s2 with heap:=h₁,toks:=s2.toks+([]:List (Str×Value)).length } :=
   qcD k I2 f2 hfl (Nat.le_refl _) hCle hDC hns₁ hacc old
 have hg':=hg P2.objs.size s2 H2 fp (X.pn++pins);have ht':=ht P2.objs.size s2 H2 fp (X.pn++pins);have he':=he P2.objs.size s2 H2 fp (X.pn++pins)
 have stat:∀ {H':Hp},(∀ b∈fp,H' b=none)->∀ b∈fp,qc2 (qT X scope N cl P2.objs.size s2 H2 fp (X.pn++pins)) [] H' b:=fun hn b hb=>by
   obtain⟨g0,g1,g2,g3,g4,g5⟩:=f2 b hb;refine⟨hn b hb,Nat.ne_of_lt (Nat.lt_of_lt_of_le (hfl b hb) hCle),fun z=>?_,.inl hb,fun x c h=>g4 x c (k.sub _ _ h),fun p hp=>g5 p (by simpa[qT] using hp)⟩;rcases List.mem_cons.mp (I2.stkSub b z) with e|e
   · exact g1 e
   · exact g2 e
 have loop:∀ s₃:Shared,s₃={ s2 with heap:=h₁,toks:=s2.toks+([]:List (Str×Value)).length } ->
     codeAny (model X.prog X.w) X.A (.compLoop (.ListComp elt [⟨tg,iter,ifs,0⟩] scope pos) 0 (.ref it) (.ref s2.heap.objs.size) (compEnvC scope cl P2.objs.size X.env))
       (compPost (model X.prog X.w) X.A X.xe none (EP X pins σ Q) (.ref s2.heap.objs.size) P2.objs.size) s₃:=by
   rintro s₃ rfl;refine JG (fun n s'=>∃ i σ' H',Inv (qT X scope N cl P2.objs.size s2 H2 fp (X.pn++pins)) [] σ' H' s'∧tn i s'.heap∧(∀ b∈fp,H' b=none)∧W i n σ' H') ?_ m0
     ⟨0,st0 js σ,_,IX,T.keep _ _ _ st2 (fun b hb o e=>old b o e),fun b hb=>by rw[qi (Nat.ne_of_lt (hfl b hb))];exact(f2 b hb).1,w0⟩
   rintro n s3 ⟨i,σ3,H3,I3,st3,fr3,w3⟩;rcases turn i n σ3 H3 w3 with ⟨stop,qn⟩|⟨go,N2,hN,step⟩
   · refine thn (T.done (qT X scope N cl P2.objs.size s2 H2 fp (X.pn++pins)) rfl rfl rfl hc i [] s3 σ3 H3 noE I3 (stat fr3) st3 stop) fun r s4 ⟨hr,I4⟩=>?_;subst hr;obtain⟨m4,hn4,_⟩:=id I4.loc;refine⟨m4,hn4,fun h' hsb=>⟨.ref s2.heap.objs.size,H3,?_,rfl,qn⟩⟩;have u4:Un (frs X.stack) fp H2 H3 s2.heap s4.heap:=I4.base;have ltC:∀ b o,s2.heap.get? b=some o->b≠P2.objs.size:=fun b o e=>Nat.ne_of_lt (Nat.lt_of_lt_of_le (Heap.lt_size e) hCle)
     have u5:Un (frs X.stack) fp H2 H3 s2.heap h' :=
       { keep:=fun b o e n hb hx=>hsb.extBut b o (ltC b o e) (u4.keep b o e n hb hx)
         slot:=fun b o e n hb hx=>by
           obtain⟨sl,q⟩:=u4.slot b o e n hb hx;exact⟨sl,hsb.extBut b _ (ltC b o e) q⟩
         free:=u4.free
         there:=fun b o e hx=>by
           obtain⟨o',q⟩:=u4.there b o e hx;exact⟨o',hsb.extBut b _ (ltC b o e) q⟩
         tups:=u4.tups
         frzs:=u4.frzs
         tbls:=u4.tbls }
     have fC:H3 P2.objs.size=none:=I4.free
     have hok5:HOk X.prog X.w H3 h':=fun b u e=>(I4.hok b u e).stay (fun c v hc' q=>hsb.extBut c v (fun z=>by
       rcases hc' with y|y
       · rw[y]at z;rw[z,fC]at e;cases e
       · rw[z,fC]at y;cases y) q) (fun _ q=>q) fun _ _ q=>q
     exact I2.call' (s':={ s4 with heap:=h' }) I4.os u5 hok5 I4.bare fun b hb=>by
       obtain⟨g0,g1,g2,g3,g4,g5⟩:=f2 b hb;exact⟨g3,g1,g4,g5⟩
   · refine thn (T.item (qT X scope N cl P2.objs.size s2 H2 fp (X.pn++pins)) rfl rfl rfl hc i [] s3 σ3 H3 noE I3 (stat fr3) st3 go) fun r s4 ⟨u,hr,h4⟩=>?_;subst hr;refine thn h4 fun _ s5 zz_=>?_;obtain⟨x,H5,I5,r5,y5,st5,fr5⟩:=zz_;have I5':=I5.pinned (stat fr5) (T.obj _ _ st5);refine thn (hg' _ s5 σ3 H5 x u _ I5' r5 (step x H5 y5)) fun _ s6 zz_=>?_;obtain⟨σ6,H6,I6,q6⟩:=zz_;refine thn (ht' _ s6 σ6 H6 _ I6 q6) fun ok s7 zz_=>?_;obtain⟨H7,I7,q7⟩:=zz_;have again:∀ {s8:Shared}{σ8:St}{H8:Hp},Inv (qT X scope N cl P2.objs.size s2 H2 fp (X.pn++pins)) ([]++qad fp s5.heap) σ8 H8 s8->N2 σ8 H8 ->
         ∃ m,m < n∧∃ i σ' H',Inv (qT X scope N cl P2.objs.size s2 H2 fp (X.pn++pins)) [] σ' H' s8∧tn i s8.heap∧(∀ b∈fp,H' b=none)∧W i m σ' H':=fun {s8 σ8 H8} I8 n8=>by
       obtain⟨m',hm,w8⟩:=hN σ8 H8 n8;refine⟨m',hm,i+1,σ8,H8,I8.unpinned,T.keep _ _ _ st5 fun b hb o e=>(I8.pin (b,o) (List.mem_append_right _ (List.mem_append_right _ (zh hb e)))).1,fun b hb=>?_,w8⟩;obtain⟨o,e,d⟩:=T.obj _ _ st5 b hb;exact(I8.pin (b,o) (List.mem_append_right _ (List.mem_append_right _ (zh hb e)))).2.1
     cases ok with
     | false=>exact again I7 (by simpa using q7)
     | true =>
       have q7':te σ6 H7 fun y H5=>∃ ys,H5 s2.heap.objs.size=some (.lst ys)∧ys.length < sizeLine∧N2 σ6 (upd H5 s2.heap.objs.size (.lst (ys++[y]))):=by simpa using q7
       refine thn (he' _ s7 σ6 H7 _ I7 q7') fun xv s8 zz_=>?_;obtain⟨y,H8,I8,r8,ys,hy,hlen,n8⟩:=zz_;refine thn (zq (X:=qT X scope N cl P2.objs.size s2 H2 fp (X.pn++pins)) _ s8 σ6 H8 (.ref s2.heap.objs.size) [y] (.ref s2.heap.objs.size) [xv] (fun _ H9=>N2 σ6 H9) I8 rfl (.cons r8 .nil) ⟨_,ys,y,rfl,rfl,hy,hlen,n8⟩) fun _ s9 ⟨_,H9,I9,_,n9⟩=>again I9 n9
 exact codeAny_compStart_list (loop _ rfl) (T.self _ 0 _ _ _ (T.keep _ _ _ st2 (fun b hb o e=>old b o e)) (loop _ rfl))
end
def Its (x:Str):It:=⟨fun i _=>i < x.cps.size,fun i H v H'=>H'=H∧∃ c,x.cps[i]?=some c∧v=.str ⟨#[c]⟩,fun i _=>x.cps.size≤i⟩
theorem qfO {M:Model}{A:Around}{E:Value->Shared->Prop}{s:Shared}{tg:Expr}{it:Addr}{y:Str}{t:Tok}{Q:Unit->Shared->Prop} (hQ:Q () s):wpAny M A (letOwnedTupleGo tg (.ref it) (.str y t)) Q E s:=by
 unfold letOwnedTupleGo;cases tg<;>exact wpAny_pure hQ
theorem qeH {P:Program}{w:World}{K:Frag}{tg:Expr} (it:Addr) (x:Str) (t:Tok) (ty:String) (hty:ty="str_ascii_iterator"∨ty="str_iterator") :
   qhT P w K tg (Its x) [it] it (fun i h=>h.IsStrIter it ty x t i) where
 mem:=by simp
 obj:=fun i h st b hb=>by
   have e:b=it:=by simpa using hb
   subst e;obtain⟨o,e,c,d⟩:=st;exact⟨o,e,fun v z=>by rw[d]at z;cases z⟩
 keep:=fun i h h' st k=>by
   obtain⟨o,e,r⟩:=st;exact⟨o,k it (by simp) o e,r⟩
 item:=by
   intro X hP hw hK hc i pins s σ H E I hf st hg;subst hP hw hK;obtain⟨f0,f1,f2,f3,f4,f5⟩:=hf it (by simp);have hi:i < x.cps.size:=hg;rcases hty with rfl|rfl
   · refine wpAny_pyNext_ascii_item st (c:=x.cps[i]) (by simp[hi]) fun h' st' sb=>?_;have I1:Inv X pins σ H { s with heap:=h',toks:=s.toks+1 }:=I.turned (fun b o hb e=>sb.extBut b o hb e) f0 f1 f3 f4 f5;exact⟨_,rfl,qfO (s:={ s with heap:=h',toks:=s.toks+1 }) ⟨.str ⟨#[x.cps[i]]⟩,H,I1,⟨_,rfl⟩,⟨rfl,x.cps[i],by simp[hi],rfl⟩,st',fun b hb=>(hf b hb).1⟩⟩
   · refine wpAny_pyNext_wide_item st (c:=x.cps[i]) (by simp[hi]) fun h' st' sb=>?_;have I1:Inv X pins σ H { s with heap:=h',toks:=s.toks+1 }:=I.turned (fun b o hb e=>sb.extBut b o hb e) f0 f1 f3 f4 f5;exact⟨_,rfl,qfO (s:={ s with heap:=h',toks:=s.toks+1 }) ⟨.str ⟨#[x.cps[i]]⟩,H,I1,⟨_,rfl⟩,⟨rfl,x.cps[i],by simp[hi],rfl⟩,st',fun b hb=>(hf b hb).1⟩⟩
 done:=by
   intro X hP hw hK hc i pins s σ H E I hf st hg;subst hP hw hK;obtain⟨f0,f1,f2,f3,f4,f5⟩:=hf it (by simp);have hi:x.cps.size≤i:=hg;rcases hty with rfl|rfl
   · exact wpAny_pyNext_ascii_end (I.ok.hd hc) st (by simp[hi]) fun h' eb=>⟨rfl,I.turned (t':=s.toks) (fun b o hb e=>eb b o hb e) f0 f1 f3 f4 f5⟩
   · exact wpAny_pyNext_wide_end (I.ok.hd hc) st (by simp[hi]) fun h' eb=>⟨rfl,I.turned (t':=s.toks) (fun b o hb e=>eb b o hb e) f0 f1 f3 f4 f5⟩
 self:=fun _ _ _ _ _ st h=>by
   rcases hty with rfl|rfl
   · exact wpAny_pyIter_striter_ascii st h
   · exact wpAny_pyIter_striter_wide st h
def qjB (te:TE):TI:=fun σ H R=>te σ H fun x H1=>∃ z,x=.str z∧R (Its z) H1
section
variable {X:Cx}{tg:Expr}
theorem qhk {e:Expr}{te:TE} (he:PE X e te):PI X tg e (qjB te):=by
 intro pins s σ H R I h;refine thn (he pins s σ H _ I h) fun v s1 zz_=>?_;obtain⟨x,H1,I1,r1,q1⟩:=zz_;obtain⟨z,e,q⟩:=q1;subst e;obtain⟨t,rfl⟩:=r1
 have fin:∀ ty,(ty="str_ascii_iterator"∨ty="str_iterator")->PIE X pins σ tg R (.ref s1.heap.objs.size) { s1 with heap:=s1.heap.push { cls:=.type ty,data:=.fields #[.str z t,.int 0 0] } }:=fun ty hty=>by
   refine⟨s1.heap.objs.size,[s1.heap.objs.size],_,_,H1,rfl,I1.kept (t':=s1.toks) fun b o e=>Heap.get?_push_of_some _ e,qeH _ z t ty hty,⟨_,Heap.get?_push_size _ rfl,rfl,rfl⟩,fun b hb=>?_,q⟩;have e:b=s1.heap.objs.size:=by simpa using hb
   subst e;exact I1.fpOk (Nat.le_refl _) (I1.hok.fresh (Nat.le_refl _))
 cases ha:z.cps.all (· < 128)
 · exact wpAny_pyIter_wide ha (fin _ (.inr rfl))
 · exact wpAny_pyIter_ascii ha (fin _ (.inl rfl))
end
theorem qfj {x:Str}{g:TG}{tt:TT}{te:TE}{D:Addr}{Q:VK}{σ:St}{H:Hp} (Pv:Nat->St->Hp->Prop) (h0:Pv 0 σ H)
   (hs:∀ i c σ H,x.cps[i]?=some c->Pv i σ H->g (.str ⟨#[c]⟩) σ H fun σ3 H3=>tt σ3 H3 fun ok H4=>if ok=true then te σ3 H4 fun y H5=>∃ ys,H5 D=some (.lst ys)∧ys.length < sizeLine∧Pv (i+1) σ3 (upd H5 D (.lst (ys++[y]))) else Pv (i+1) σ3 H4)
   (hd:∀ σ H,Pv x.cps.size σ H->Q (.ref D) H) :
   jX (Its x) g tt te D Q σ H:=by
 refine⟨fun i m σ H=>m=x.cps.size - i∧i≤x.cps.size∧Pv i σ H,⟨x.cps.size,by simp,Nat.zero_le _,h0⟩,?_⟩;rintro i m σ H ⟨rfl,hi,p⟩;by_cases hlt:i < x.cps.size
 · refine .inr ⟨hlt,Pv (i+1),fun σ' H' p'=>⟨x.cps.size - (i+1),by omega,rfl,hlt,p'⟩,fun v H' y=>?_⟩;obtain⟨rfl,c,hc,rfl⟩:=y;exact hs i c σ _ hc p
 · have e:i=x.cps.size:=by omega
   subst e;exact .inl ⟨Nat.le_refl _,hd σ H p⟩
theorem qcZ {lo:Int}{n:Nat}{g:TG}{tt:TT}{te:TE}{D:Addr}{Q:VK}{σ:St}{H:Hp} (Pv:Nat->St->Hp->Prop) (h0:Pv 0 σ H)
   (hs:∀ i σ H,i < n->Pv i σ H->g (.int (lo+i)) σ H fun σ3 H3=>tt σ3 H3 fun ok H4=>if ok=true then te σ3 H4 fun y H5=>∃ ys,H5 D=some (.lst ys)∧ys.length < sizeLine∧Pv (i+1) σ3 (upd H5 D (.lst (ys++[y]))) else Pv (i+1) σ3 H4)
   (hd:∀ σ H,Pv n σ H->Q (.ref D) H) :
   jX (Itr lo n) g tt te D Q σ H:=by
 refine⟨fun i m σ H=>m=n - i∧i≤n∧Pv i σ H,⟨n,by simp,Nat.zero_le _,h0⟩,?_⟩;rintro i m σ H ⟨rfl,hi,p⟩;by_cases hlt:i < n
 · refine .inr ⟨hlt,Pv (i+1),fun σ' H' p'=>⟨n - (i+1),by omega,rfl,hlt,p'⟩,fun v H' y=>?_⟩;obtain⟨rfl,rfl⟩:=y;exact hs i σ _ hlt p
 · have e:i=n:=by omega
   subst e;exact .inl ⟨Nat.le_refl _,hd σ H p⟩
theorem Q1 {K:Frag}{a:Addr}{xs:List V}{g:TG}{tt:TT}{te:TE}{D:Addr}{Q:VK}{σ:St}{H:Hp} (Pv:Nat->St->Hp->Prop) (h0:Pv 0 σ H) (hl:∀ i σ H,i≤xs.length->Pv i σ H->SqL K H a xs)
   (hs:∀ i x σ H,xs[i]?=some x->Pv i σ H->g x σ H fun σ3 H3=>tt σ3 H3 fun ok H4=>if ok=true then te σ3 H4 fun y H5=>∃ ys,H5 D=some (.lst ys)∧ys.length < sizeLine∧Pv (i+1) σ3 (upd H5 D (.lst (ys++[y]))) else Pv (i+1) σ3 H4)
   (hd:∀ σ H,Pv xs.length σ H->Q (.ref D) H) :
   jX (Itl K a) g tt te D Q σ H:=by
 refine⟨fun i m σ H=>m=xs.length - i∧i≤xs.length∧Pv i σ H,⟨xs.length,by simp,Nat.zero_le _,h0⟩,?_⟩;rintro i m σ H ⟨rfl,hi,p⟩;have q:=hl i σ H hi p;by_cases hlt:i < xs.length
 · refine .inr ⟨⟨xs,xs[i],q,by simp[hlt]⟩,Pv (i+1),fun σ' H' p'=>⟨xs.length - (i+1),by omega,rfl,hlt,p'⟩,fun v H' y=>?_⟩;obtain⟨e,y⟩:=y;subst e;exact hs i v σ _ (y xs q) p
 · have e:i=xs.length:=by omega
   subst e;exact .inl ⟨⟨xs,q,Nat.le_refl _⟩,hd σ H p⟩
theorem qbZ:∀ {bs:List Bool}{us:List Value},Vals (bs.map V.bl) us->us=bs.map Value.bool
 | [],_,r=>by cases r;rfl
 | b::bs,_,r=>by
   cases r with
   | cons r t =>
     cases r;rw[qbZ t];rfl
section
variable {X:Cx}
def qjw (K:Frag):List V->Hp->VK->Prop:=fun xs H Q=>∃ (p:Addr) (bs:List Bool),xs=[.ref p]∧SqL K H p (bs.map V.bl)∧Q (.bl (bs.all id)) H
theorem qbI {α:Type} (f:α->Bool) (d:α):∀ l:List α,(List.range l.length).all (fun i=>f (l.getD i d))=l.all f
 | []=>rfl
 | a::l=>by
   rw[List.length_cons,List.range_succ_eq_map,List.all_cons,List.all_map,List.all_cons,← qbI f d l];rfl
theorem qeo (hc:X.calm=true):Z3 X (.builtin "all") (qjw X.K):=by
 intro pins s σ H xs us Q I r h;obtain⟨p,bs,rfl,hq,q⟩:=h;obtain⟨u,rfl,ru⟩:=JI r;cases ru;obtain⟨its,rv,pl,hz⟩:=I.list hq;have eits:=qbZ rv;subst eits;have hlt:p < s.heap.objs.size:=by obtain⟨_,_,e,_⟩:=pl;exact Heap.lt_size e
 refine call_all_walk (wpAny_pyIter_list pl.isList ?_);have W:=Walks.list (prog:=X.prog) (w:=X.w) (A:=X.A.in1) (I.ok.hd hc) s.heap.objs.size p (Nat.ne_of_lt hlt) (bs.map Value.bool).toArray;refine⟨_,_,_,_,_,_,(fun i=>(bs.getD i true)),rfl,W,⟨⟨_,Heap.get?_push_size _ rfl,rfl,rfl⟩,pl.isList.push _⟩,?_,?_⟩
 · intro i v s' Q' E' hP hQ;have hv:(bs.map Value.bool)[i]?=some v:=by simpa using hP
   rw[List.getElem?_map]at hv
   cases e:bs[i]? with
   | none=>rw[e]at hv;cases hv
   | some b =>
     rw[e]at hv;cases hv;have e2:bs.getD i true=b:=by rw[List.getD_eq_getElem?_getD,e];rfl
     have hQ:Q' (bs.getD i true) s':=hQ;rw[e2]at hQ;exact wpAny_truthy_bool hQ
 · intro h' tk hk;have es:(bs.map Value.bool).toArray.size=bs.length:=by simp
   have ea:(List.range (bs.map Value.bool).toArray.size).all (fun i=>bs.getD i true)=bs.all id:=by rw[es];exact qbI id true bs
   refine⟨.bl _,H,?_,by rw[ea];rfl,q⟩;exact I.kept (t':=tk) fun b o e=>hk b o (by simp;exact Nat.ne_of_lt (Heap.lt_size e)) (Heap.get?_push_of_some _ e)
end
theorem qeu:bootBuiltins "all"=some (.builtin "all"):=by decide +kernel
theorem qdn:∀ {ys:List Str}{us:List Value},Vals (ys.map V.str) us->StrsAre us ys
 | [],_,r=>by cases r;exact .nil
 | y::ys,_,r=>by
   cases r with
   | cons r t =>
     obtain⟨k,rfl⟩:=r;exact .cons y k (qdn t)
section
variable {X:Cx}
def qit (K:Frag):V->List V->Hp->VK->Prop:=fun x xs H Q=>∃ (sep:Str) (p:Addr) (ys:List Str),x=.str sep∧xs=[.ref p]∧SqL K H p (ys.map V.str)∧(ys.map (·.length)).sum+ys.length * sep.length≤16777216∧Q (.str (Txt.join sep ys)) H
theorem qaR:MtR X "str.join" (qit X.K):=by
 intro pins s σ H x xs v us Q I rx r h;obtain⟨sep,p,ys,rfl,rfl,hq,hz,q⟩:=h;obtain⟨t,rfl⟩:=rx;obtain⟨u,rfl,ru⟩:=JI r;cases ru;obtain⟨its,rv,pl,_⟩:=I.list hq;exact join_list pl.isList (by simpa using qdn rv) hz fun t' k=>⟨.str _,H,I.tok k,⟨_,rfl⟩,q⟩
def qiY:V->Option Int->Option Int->Hp->VK->Prop:=fun x lo hi H Q=>∃ z,x=.str z∧z.length≤sizeLine∧Q (.str (Txt.slice z lo hi)) H
theorem qg8:SlR X qiY:=by
 intro pins s σ H x v vl vu lo hi sl Q I rx hs pl pu h;obtain⟨z,rfl,hz,q⟩:=h;obtain⟨t,rfl⟩:=rx;refine⟨"str",_,F.slot_str_getitem.lookup,typeIs_str _ _ _,?_⟩;have fin:∀ t' k,EP X pins σ Q (.str (Txt.slice z lo hi) t') { s with toks:=k }:=fun t' k=>⟨.str _,H,I.tok k,⟨_,rfl⟩,q⟩
 obtain⟨o,e1,e2,e3⟩:=hs
 cases pl with
 | none =>
   cases pu with
   | none=>exact wpAny_getItem_str_slice (l:=none) (u:=none) (st:=none) ⟨o,e1,e2,e3⟩ rfl (post_val_or_str ⟨Nat.le_trans (Txt.slice_le z _ _) hz,fin⟩)
   | int j u=>exact wpAny_getItem_str_slice (l:=none) (u:=some (j,u)) (st:=none) ⟨o,e1,e2,e3⟩ rfl (post_val_or_str ⟨Nat.le_trans (Txt.slice_le z _ _) hz,fin⟩)
 | int i ui =>
   cases pu with
   | none=>exact wpAny_getItem_str_slice (l:=some (i,ui)) (u:=none) (st:=none) ⟨o,e1,e2,e3⟩ rfl (post_val_or_str ⟨Nat.le_trans (Txt.slice_le z _ _) hz,fin⟩)
   | int j u=>exact wpAny_getItem_str_slice (l:=some (i,ui)) (u:=some (j,u)) (st:=none) ⟨o,e1,e2,e3⟩ rfl (post_val_or_str ⟨Nat.le_trans (Txt.slice_le z _ _) hz,fin⟩)
theorem uSl:SlR X (fun x lo hi H Q=>qiZ X.K x lo hi H Q∨qiY x lo hi H Q):=sl_list.or qg8
theorem qbo:OpR X (compareOp .LtE) (fun x y H Q=>∃ i j,x=.str i∧y=.str j∧Q (.bl (!decide (j.cps.toList < i.cps.toList))) H):=by
 intro pins s σ H x y v u Q I rx ry h;obtain⟨i,j,rfl,rfl,q⟩:=h;obtain⟨t,rfl⟩:=rx;obtain⟨t',rfl⟩:=ry;exact P.le_str ⟨.bl _,H,I,rfl,q⟩
end
def zM (cells:List (Str×Addr)):List (Str×NameKind)->List (Str×Addr)->List (Str×Addr)
 | [],acc=>acc
 | (n,k)::r,acc=>zM cells r (if k == .free then (n,(cells.lookup n).getD 0)::acc else acc)
def qfW (env:Env) (x:Str×NameKind) (cs:List (Str×Addr)):Sem (ForInStep (List (Str×Addr))):=match x with
 | (name,kind)=>if (kind == NameKind.free)=true then (do let a ← cellOf env name;pure (ForInStep.yield ((name,a)::cs))) else pure (ForInStep.yield cs)
theorem qek {env:Env}{n:Str}{k:NameKind}{acc:List (Str×Addr)} (h:k=.free->∃ c,env.cells.lookup n=some c) :
   qfW env (n,k) acc=pure (ForInStep.yield (if k == .free then (n,(env.cells.lookup n).getD 0)::acc else acc)):=by
 by_cases hk:k=.free
 · subst hk;obtain⟨c,hc⟩:=h rfl;show (do let a ← cellOf env n;pure (ForInStep.yield ((n,a)::acc)))=(pure (ForInStep.yield ((n,(env.cells.lookup n).getD 0)::acc)):Sem _);unfold cellOf;rw[hc];rfl
 · cases k<;>first|exact absurd rfl hk|rfl
theorem qat {env:Env}:∀ (names:List (Str×NameKind)) (acc:List (Str×Addr)),(∀ y∈names,y.2=.free->∃ c,env.cells.lookup y.1=some c) ->
   (forIn names acc (qfW env))=(pure (zM env.cells names acc):Sem (List (Str×Addr)))
 | [],acc,_=>rfl
 | (n,k)::r,acc,h=>by
   rw[List.forIn_cons,qek fun e=>h (n,k) List.mem_cons_self e];exact qat (env:=env) r _ fun y hy=>h y (List.mem_cons_of_mem _ hy)
theorem ji {scope:Scope}{env:Env} (h:∀ y∈scope.names,y.2=.free->∃ c,env.cells.lookup y.1=some c):closureFor scope env=pure (zM env.cells scope.names []):=by
 unfold closureFor;exact(congrArg (fun (m:Sem (List (Str×Addr)))=>m >>= fun cs=>pure cs) (qat (env:=env) scope.names [] h)).trans rfl
theorem zx {cells:List (Str×Addr)}{x:Str}:∀ (names:List (Str×NameKind)) (acc:List (Str×Addr)),(∀ y∈names,y.2=.free->∃ c,cells.lookup y.1=some c)->(∀ c,acc.lookup x=some c->cells.lookup x=some c) ->
   (∀ c,(zM cells names acc).lookup x=some c->cells.lookup x=some c)∧(((x,NameKind.free)∈names∨(acc.lookup x).isSome=true)->((zM cells names acc).lookup x).isSome=true)
 | [],acc,_,ha=>⟨ha,fun h=>h.elim (fun z=>nomatch z) id⟩
 | (n,k)::r,acc,h,ha=>by
   unfold zM;have hr:∀ y∈r,y.2=.free->∃ c,cells.lookup y.1=some c:=fun y hy=>h y (List.mem_cons_of_mem _ hy)
   cases hk:(k == NameKind.free) with
   | false =>
     obtain⟨i1,i2⟩:=zx (cells:=cells) (x:=x) r acc hr ha;refine⟨by simpa using i1,fun z=>?_⟩
     have:((zM cells r acc).lookup x).isSome=true:=i2 (by
       rcases z with z|z
       · rcases List.mem_cons.mp z with e|e
         · cases e;cases hk
         · exact .inl e
       · exact .inr z)
     simpa using this
   | true =>
     obtain⟨c,hc⟩:=h (n,k) List.mem_cons_self (by simpa using hk);have hc:cells.lookup n=some c:=hc;have ek:k=NameKind.free:=by simpa using hk
     subst ek
     have ha':∀ c',((n,(cells.lookup n).getD 0)::acc).lookup x=some c'->cells.lookup x=some c':=fun c' z=>by
       rw[List.lookup_cons]at z
       cases e:x == n with
       | true =>
         rw[e]at z;have e':x=n:=by simpa using e
         rw[e',hc]at *;simpa using z
       | false=>rw[e]at z;exact ha c' z
     obtain⟨i1,i2⟩:=zx (cells:=cells) (x:=x) r _ hr ha';refine⟨i1,fun z=>i2 ?_⟩;by_cases e:x=n
     · right;rw[List.lookup_cons,e];simp
     · rcases z with z|z
       · rcases List.mem_cons.mp z with q|q
         · cases q;exact absurd rfl e
         · exact .inl q
       · right;rw[List.lookup_cons]
         have:(x == n)=false:=by simpa using e
         rw[this];exact z
theorem Q4 {x:Str}{k:NameKind}:∀ {names:List (Str×NameKind)},names.lookup x=some k->(x,k)∈names
 | [],h=>by cases h
 | (n,j)::r,h=>by
   rw[List.lookup_cons]at h
   cases e:x == n with
   | true =>
     rw[e]at h;have e':x=n:=by simpa using e
     cases h;rw[e'];exact List.mem_cons_self
   | false=>rw[e]at h;exact List.mem_cons_of_mem _ (Q4 h)
theorem Ji {scope:Scope}{env:Env}{x:Str}{k:NameKind} (h:(x,k)∈(relabel scope env).names):(x,k)∈scope.names∨(k=.cell∧(x,NameKind.free)∈scope.names):=by
 have h':(x,k)∈scope.names.map fun (n,k)=>if (k == .free && env.scope.kind == .function && env.kindOf n == some .cell) then (n,.cell) else (n,k):=h
 obtain⟨⟨n,j⟩,hm,e⟩:=List.mem_map.mp h';simp only at e;split at e
 · rename_i c
   cases e
   have:j=.free:=by
     have c1:=(Bool.and_eq_true_iff.mp (Bool.and_eq_true_iff.mp c).1).1;simpa using c1
   subst this;exact .inr ⟨rfl,hm⟩
 · cases e;exact .inl hm
theorem zJ {env:Env}{x:Str} (hX:env.scope.kind=.function) (g3:env.kindOf x=some .cell):∀ {names:List (Str×NameKind)},names.lookup x=some .free ->
   (names.map fun (n,k)=>if (k == NameKind.free && env.scope.kind == .function && env.kindOf n == some .cell) then (n,NameKind.cell) else (n,k)).lookup x=some .cell
 | [],h=>by cases h
 | (n,k)::r,h=>by
   have ih:=zJ hX g3 (names:=r);show List.lookup x ((if (k == NameKind.free && env.scope.kind == .function && env.kindOf n == some .cell)=true then (n,NameKind.cell) else (n,k))::_)=_;rw[List.lookup_cons]at h
   cases e:x == n with
   | true =>
     rw[e]at h;have e':x=n:=by simpa using e
     have ek:k=.free:=by simpa using h
     rw[ek,← e',if_pos (show (NameKind.free == NameKind.free && env.scope.kind == .function && env.kindOf x == some .cell)=true by rw[hX,g3];decide),List.lookup_cons];simp
   | false =>
     rw[e]at h;by_cases hc:(k == NameKind.free && env.scope.kind == .function && env.kindOf n == some .cell)=true
     · rw[if_pos hc,List.lookup_cons,e];exact ih h
     · rw[if_neg hc,List.lookup_cons,e];exact ih h
theorem CompOk.of {X:Cx}{scope:Scope}{N:List Str}{js:List (Option Nat)} (hkind:scope.kind=.function) (hcell:∀ y∈scope.names,y.2≠.cell) (hnames:∀ y∈scope.names,y.2=.local->scope.names.lookup y.1=some .local)
   (hX:X.env.scope.kind=.function) (hfree:∀ y∈scope.names,y.2=.free->X.env.kindOf y.1=some .cell∧∃ c,X.env.cells.lookup y.1=some c) (len:js.length=N.length)
   (hfr:∀ (i j:Nat) (x:Str),js[i]?=some (some j)->N[i]?=some x->X.N[j]?=some x∧scope.names.lookup x=some .free) :
   CompOk X scope N (zM X.env.cells scope.names []) js where
 clos:=ji fun y hy z=>(hfree y hy z).2
 sub:=fun x c h=>(zx scope.names [] (fun y hy z=>(hfree y hy z).2) (fun c h=>by cases h)).1 c h
 all:=fun x h=>by
   have hm:(x,NameKind.free)∈scope.names:=by
     rcases h with h|h
     · rcases Ji (Q4 h) with z|⟨_,z⟩
       · exact absurd rfl (hcell _ z)
       · exact z
     · rcases Ji (Q4 h) with z|⟨e,_⟩
       · exact z
       · cases e
   have:=(zx (cells:=X.env.cells) (x:=x) scope.names [] (fun y hy z=>(hfree y hy z).2) (fun c h=>by cases h)).2 (.inl hm)
   exact Option.isSome_iff_exists.mp this
 cell:=hcell
 kind:=hkind
 names:=hnames
 len:=len
 fr:=fun i j x h1 h2=>by
   obtain⟨g1,g2⟩:=hfr i j x h1 h2;obtain⟨g3,_⟩:=hfree (x,.free) (Q4 g2) rfl;refine⟨g1,g3,.inl ?_⟩;exact zJ hX g3 g2
def qgG (sc:Scope) (N0 N:List Str) (js:List (Option Nat)):Bool:=(js.zip N).all fun p=>match p.1 with
 | none=>true
 | some j=>N0[j]? == some p.2 && sc.names.lookup p.2 == some .free
theorem qcy {sc:Scope}{N0:List Str}:∀ {js:List (Option Nat)}{N:List Str},qgG sc N0 N js=true->∀ (i j:Nat) (x:Str),js[i]?=some (some j)->N[i]?=some x->N0[j]?=some x∧sc.names.lookup x=some .free:=by
 intro js N h i j x h1 h2
 have hm:(some j,x)∈js.zip N:=by
   refine List.mem_of_getElem? (i:=i) ?_;rw[List.getElem?_zip_eq_some];exact⟨h1,h2⟩
 have:=List.all_eq_true.mp h _ hm
 simpa using this
theorem CompOk.def {CX:CXT}{P:Program}{w:World}{K:Frag}{mg:Str->Option Value}{base:Heap}{N0:List Str}{qual:Str}{sc0:Scope}{f:Addr}{cd:Value}{A:Around}{outer:List Env}{s:Shared}{H:Hp}{E:XK}{scope:Scope}
   (N:List Str) (js:List (Option Nat)) (hk0:sc0.kind=.function:=by rfl) (hk:scope.kind=.function:=by rfl) (hcell:∀ y∈scope.names,y.2≠.cell:=by decide +kernel) (hnames:∀ y∈scope.names,y.2=.local->scope.names.lookup y.1=some .local:=by decide +kernel)
   (hfr0:∀ y∈scope.names,y.2=.free->sc0.names.lookup y.1=some .cell:=by decide +kernel) (len:js.length=N.length:=by rfl) (hfr:qgG scope N0 N js=true:=by decide +kernel) :
   CompOk (zc CX P w K mg base N0 qual sc0 f cd A outer s H E).nox scope N (zM (zc CX P w K mg base N0 qual sc0 f cd A outer s H E).nox.env.cells scope.names []) js :=
 CompOk.of hk hcell hnames hk0 (fun y hy z=>⟨hfr0 y hy z,Option.isSome_iff_exists.mp (PySem.W.cellsFrom_some _ _ _ (.inl (hfr0 y hy z)))⟩) len (qcy hfr)
theorem Same.put {G H:Hp}{p:Addr} (s:Same G H) (n:G p=none) (o:HO):Same G (upd H p o):=fun c u e=>by rw[qi (qk e n)];exact s c u e
theorem Same.none {G H:Hp}{p:Addr} (s:Same G H) (n:H p=none):G p=none:=by
 cases e:G p with
 | none=>rfl
 | some o=>rw[s p o e]at n;cases n
theorem But.none {H H':Hp}{p q:Addr} (b:But p H H') (n:H' q=none) (h:q≠p):H q=none:=by
 cases e:H q with
 | none=>rfl
 | some o=>rw[b q o e h]at n;cases n
theorem qay {α:Type}{xs:List α}{x y:α}{i:Nat} (h:(xs++[x])[i]?=some y):xs[i]?=some y∨(i=xs.length∧y=x):=by
 rw[List.getElem?_append]at h;by_cases hi:i < xs.length
 · rw[if_pos hi]at h;exact .inl h
 · rw[if_neg hi]at h
   have e:i - xs.length=0:=by
     cases n:i - xs.length with
     | zero=>rfl
     | succ k=>rw[n]at h;simp at h
   rw[e]at h;exact .inr ⟨by omega,by simpa using h.symm⟩
def qis (K:Frag):List V->Hp->VK->Prop:=fun xs H Q=>∃ p ys,xs=[.ref p]∧(SqL K H p ys∨SqT K H p ys)∧∀ l,H l=none->Q (.ref l) (upd H l (.lst ys))
section
variable {X:Cx}
theorem qgo {i:Nat}{x:Str}{pos' pos:Pos}{elt iter tg:Expr}{ifs:List Expr}{scope:Scope}{cpos:Pos}{wi:TI}{g:TG}{tt:TT}{te:TE}{N:List Str}{cl:List (Str×Addr)}{js:List (Option Nat)} (hN:X.N.Nodup) (hi0:X.N[i]?=some x) (hx:Loc X.env.scope x)
   (hc:X.calm=true) (k:CompOk X scope N cl js) (hi:PI X tg iter wi)
   (hg:∀ C s₀ H₀ ex pn,PG (qT X scope N cl C s₀ H₀ ex pn) tg g) (ht:∀ C s₀ H₀ ex pn,PTs (qT X scope N cl C s₀ H₀ ex pn) ifs tt) (he:∀ C s₀ H₀ ex pn,PE (qT X scope N cl C s₀ H₀ ex pn) elt te)
   (hsw:swapsWith (.ListComp elt [⟨tg,iter,ifs,0⟩] scope cpos) (some (.Name x pos')) pos.line X.env=pure true:=by rfl)
   (hf:X.fn x=true∨X.env.scope.names.lookup x=some .local:=by first|exact .inl rfl|exact .inr rfl|assumption)
   (hs:∀ x,foldedSetIterable iter X.env x=pure x:=by intro _;rfl) :
   PS X (.Assign [.Name x pos'] (.ListComp elt [⟨tg,iter,ifs,0⟩] scope cpos) pos) (qg4 (qg3 wi g tt te js) (qd8 i)):=by
 intro pins s σ H D0 I h;rw[exec_Assign_Name_used _ _ _ _ hsw];refine wpAny_bind (wpAny_standAt (wpAny_bind ?_));show wpAny _ X.A (do let _ ← comprehension (.ListComp elt [⟨tg,iter,ifs,0⟩] scope cpos) scope X.env _ (newList []) false (eval iter X.env) (some (assign (.Name x pos') X.env))) _ _ s;refine wpAny_bind (wpAny_mono (wpAny_comprehension_free (use:=some (assign (.Name x pos') X.env)) (Q:=fun _ s'=>∃ σ' H',Inv X pins σ' H' s'∧D0.nx σ' H') rfl hs k.clos k.kind k.names ?_) (fun _ s' hq=>wpAny_pure (wpAny_pure hq)) fun _ _ e=>e);refine thn (hi pins s σ H _ I h) fun v s1 h1=>thn h1 fun itv s2 h2=>?_;obtain⟨it,fp,tn,J,H2,e,I2,T,st2,f2,hD⟩:=h2;subst e;refine wpAny_newObj_type (wpAny_newFunctionEnv k.cell (by intro y hy;simp at hy) (fun h₁ hns₁ hsb₁=>?_) k.kind);dsimp only at hns₁ hsb₁ ⊢;generalize hH2:s2.heap.push { cls:=.type "list",dict:=none,data:=.seq ([]:List Value).toArray }=P2 at hns₁ hsb₁ ⊢;have hC:P2.objs.size=s2.heap.objs.size+1:=by rw[← hH2,Heap.size_push]
 have hDC:s2.heap.objs.size≠P2.objs.size:=by rw[hC];exact Nat.ne_of_lt (Nat.lt_succ_self _)
 have hCle:s2.heap.objs.size≤P2.objs.size:=by rw[hC];exact Nat.le_succ _
 have old:∀ b o,s2.heap.get? b=some o->h₁.get? b=some o:=fun b o e=>hsb₁.extBut b o (Nat.ne_of_lt (Nat.lt_of_lt_of_le (Heap.lt_size e) hCle)) (Heap.get?_push_of_some _ (hH2▸Heap.get?_push_of_some _ e));have hacc:h₁.get? s2.heap.objs.size=some { cls:=.type "list",data:=.seq ([]:List Value).toArray }:=hsb₁.extBut _ _ hDC (Heap.get?_push_of_some _ (hH2▸Heap.get?_push_size _ rfl))
 have hfl:∀ b∈fp,b < s2.heap.objs.size:=fun b hb=>by
   obtain⟨o,e,_⟩:=T.obj _ _ st2 b hb;exact Heap.lt_size e
 have fD:H2 s2.heap.objs.size=none:=I2.hok.fresh (Nat.le_refl _);obtain⟨W,⟨m0,w0⟩,turn⟩:=hD _ fD
 have IX:Inv (qT X scope N cl P2.objs.size s2 H2 fp (X.pn++pins)) [] (st0 js σ) (upd H2 s2.heap.objs.size (.lst [])) { s2 with heap:=h₁,toks:=s2.toks+([]:List (Str×Value)).length } :=
   qcD k I2 f2 hfl (Nat.le_refl _) hCle hDC hns₁ hacc old
 have hg':=hg P2.objs.size s2 H2 fp (X.pn++pins);have ht':=ht P2.objs.size s2 H2 fp (X.pn++pins);have he':=he P2.objs.size s2 H2 fp (X.pn++pins)
 have stat:∀ {H':Hp},(∀ b∈fp,H' b=none)->∀ b∈fp,qc2 (qT X scope N cl P2.objs.size s2 H2 fp (X.pn++pins)) [] H' b:=fun hn b hb=>by
   obtain⟨g0,g1,g2,g3,g4,g5⟩:=f2 b hb;refine⟨hn b hb,Nat.ne_of_lt (Nat.lt_of_lt_of_le (hfl b hb) hCle),fun z=>?_,.inl hb,fun x c h=>g4 x c (k.sub _ _ h),fun p hp=>g5 p (by simpa[qT] using hp)⟩;rcases List.mem_cons.mp (I2.stkSub b z) with e|e
   · exact g1 e
   · exact g2 e
 have loop:∀ s₃:Shared,s₃={ s2 with heap:=h₁,toks:=s2.toks+([]:List (Str×Value)).length } ->
     codeAny (model X.prog X.w) X.A (.compLoop (.ListComp elt [⟨tg,iter,ifs,0⟩] scope cpos) 0 (.ref it) (.ref s2.heap.objs.size) (compEnvC scope cl P2.objs.size X.env))
       (compPost (model X.prog X.w) X.A X.xe (some (assign (.Name x pos') X.env)) (fun _ s'=>∃ σ' H',Inv X pins σ' H' s'∧D0.nx σ' H') (.ref s2.heap.objs.size) P2.objs.size) s₃:=by
   rintro s₃ rfl;refine JG (fun n s'=>∃ i σ' H',Inv (qT X scope N cl P2.objs.size s2 H2 fp (X.pn++pins)) [] σ' H' s'∧tn i s'.heap∧(∀ b∈fp,H' b=none)∧W i n σ' H') ?_ m0
     ⟨0,st0 js σ,_,IX,T.keep _ _ _ st2 (fun b hb o e=>old b o e),fun b hb=>by rw[qi (Nat.ne_of_lt (hfl b hb))];exact(f2 b hb).1,w0⟩
   rintro n s3 ⟨i,σ3,H3,I3,st3,fr3,w3⟩;rcases turn i n σ3 H3 w3 with ⟨stop,qn⟩|⟨go,N2,hN,step⟩
   · refine thn (T.done (qT X scope N cl P2.objs.size s2 H2 fp (X.pn++pins)) rfl rfl rfl hc i [] s3 σ3 H3 noE I3 (stat fr3) st3 stop) fun r s4 ⟨hr,I4⟩=>?_;subst hr;obtain⟨m4,hn4,_⟩:=id I4.loc;have u4:Un (frs X.stack) fp H2 H3 s2.heap s4.heap:=I4.base;have fC:H3 P2.objs.size=none:=I4.free
     have I6:Inv X pins σ H3 s4:=I2.call' (s':=s4) I4.os u4 I4.hok I4.bare fun b hb=>by
       obtain⟨g0,g1,g2,g3,g4,g5⟩:=f2 b hb;exact⟨g3,g1,g4,g5⟩
     have fpC:qc2 X pins H3 P2.objs.size:=I2.fpOk hCle fC;have hn4':s4.heap.Ns P2.objs.size m4:=hn4;obtain⟨oC,esC,epC,gC,rC⟩:=id hn4';have I7:=I6.pinned (fp:=[P2.objs.size]) (fun b hb=>by rw[show b=P2.objs.size by simpa using hb];exact fpC) (fun b hb=>⟨oC,by rw[show b=P2.objs.size by simpa using hb];exact gC,fun v z=>by rw[rC.1]at z;cases z⟩);show wpAny _ X.A (assign (.Name x pos') X.env (.ref s2.heap.objs.size)) _ _ s4;refine wpAny_assign_Name (jW I7 hN hi0 hx (v:=.ref s2.heap.objs.size) rfl (fun s5 I8=>?_) hf);have g5:=(I8.pin (P2.objs.size,oC) (List.mem_append_right _ (List.mem_append_right _ (zh (by simp) gC)))).1;refine⟨m4,hn4'.at' (fun o e=>by rw[gC]at e;cases e;exact g5),fun h' hsb=>⟨_,H3,?_,qn⟩⟩;exact I8.unpinned.turnL (t':=s5.toks) (ch:=[P2.objs.size]) (fun b o hb e=>hsb.extBut b o (fun z=>hb (by simp[z])) e) (fun b hb=>by rw[show b=P2.objs.size by simpa using hb];exact fpC)
   · refine thn (T.item (qT X scope N cl P2.objs.size s2 H2 fp (X.pn++pins)) rfl rfl rfl hc i [] s3 σ3 H3 noE I3 (stat fr3) st3 go) fun r s4 ⟨u,hr,h4⟩=>?_;subst hr;refine thn h4 fun _ s5 zz_=>?_;obtain⟨x,H5,I5,r5,y5,st5,fr5⟩:=zz_;have I5':=I5.pinned (stat fr5) (T.obj _ _ st5);refine thn (hg' _ s5 σ3 H5 x u _ I5' r5 (step x H5 y5)) fun _ s6 zz_=>?_;obtain⟨σ6,H6,I6,q6⟩:=zz_;refine thn (ht' _ s6 σ6 H6 _ I6 q6) fun ok s7 zz_=>?_;obtain⟨H7,I7,q7⟩:=zz_;have again:∀ {s8:Shared}{σ8:St}{H8:Hp},Inv (qT X scope N cl P2.objs.size s2 H2 fp (X.pn++pins)) ([]++qad fp s5.heap) σ8 H8 s8->N2 σ8 H8 ->
         ∃ m,m < n∧∃ i σ' H',Inv (qT X scope N cl P2.objs.size s2 H2 fp (X.pn++pins)) [] σ' H' s8∧tn i s8.heap∧(∀ b∈fp,H' b=none)∧W i m σ' H':=fun {s8 σ8 H8} I8 n8=>by
       obtain⟨m',hm,w8⟩:=hN σ8 H8 n8;refine⟨m',hm,i+1,σ8,H8,I8.unpinned,T.keep _ _ _ st5 fun b hb o e=>(I8.pin (b,o) (List.mem_append_right _ (List.mem_append_right _ (zh hb e)))).1,fun b hb=>?_,w8⟩;obtain⟨o,e,d⟩:=T.obj _ _ st5 b hb;exact(I8.pin (b,o) (List.mem_append_right _ (List.mem_append_right _ (zh hb e)))).2.1
     cases ok with
     | false=>exact again I7 (by simpa using q7)
     | true =>
       have q7':te σ6 H7 fun y H5=>∃ ys,H5 s2.heap.objs.size=some (.lst ys)∧ys.length < sizeLine∧N2 σ6 (upd H5 s2.heap.objs.size (.lst (ys++[y]))):=by simpa using q7
       refine thn (he' _ s7 σ6 H7 _ I7 q7') fun xv s8 zz_=>?_;obtain⟨y,H8,I8,r8,ys,hy,hlen,n8⟩:=zz_;refine thn (zq (X:=qT X scope N cl P2.objs.size s2 H2 fp (X.pn++pins)) _ s8 σ6 H8 (.ref s2.heap.objs.size) [y] (.ref s2.heap.objs.size) [xv] (fun _ H9=>N2 σ6 H9) I8 rfl (.cons r8 .nil) ⟨_,ys,y,rfl,rfl,hy,hlen,n8⟩) fun _ s9 ⟨_,H9,I9,_,n9⟩=>again I9 n9
 exact codeAny_compStart_list (loop _ rfl) (T.self _ 0 _ _ _ (T.keep _ _ _ st2 (fun b hb o e=>old b o e)) (loop _ rfl))
end
theorem qY {t u:TS}{D:qc5}{σ:St}{H:Hp} (Post:St->Hp->Prop) (h1:∀ N:St->Hp->Prop,(∀ σ' H',Post σ' H'->N σ' H')->t { D with nx:=N } σ H) (h2:∀ σ' H',Post σ' H'->u D σ' H'):qid t u D σ H:=h1 (u D) h2
inductive qhU {β:Type} (f:β->List V) (H:Hp) (ps:List β) (i:Nat) (z:V):Prop
 | mk (p:β) (t:Addr) (h1:ps[i]?=some p) (h2:z=.ref t) (h3:H t=some (.tup (f p))):qhU f H ps i z
inductive qhV {β:Type} (f:β->List V) (H:Hp) (zs:List V) (i:Nat) (p:β):Prop
 | mk (t:Addr) (h1:zs[i]?=some (.ref t)) (h2:H t=some (.tup (f p))):qhV f H zs i p
def TupL {β:Type} (f:β->List V) (H:Hp) (zs:List V) (ps:List β):Prop:=zs.length=ps.length∧∀ (i:Nat) z p,zs[i]?=some z->ps[i]?=some p->∃ t,z=.ref t∧H t=some (.tup (f p))
section
variable {β:Type}{f:β->List V}{H H':Hp}{zs:List V}{ps:List β}
theorem TupL.nil:TupL f H [] []:=⟨rfl,fun i z p e=>by simp at e⟩
theorem TupL.same (h:TupL f H zs ps) (s:Same H H'):TupL f H' zs ps:=⟨h.1,fun i z p e1 e2=>by
 obtain⟨t,e,q⟩:=h.2 i z p e1 e2
 exact⟨t,e,s _ _ q⟩⟩
theorem TupL.put {q:Addr}{xs ys:List V} (h:TupL f H zs ps) (hq:H q=some (.lst xs)):TupL f (upd H q (.lst ys)) zs ps:=⟨h.1,fun i z y e1 e2=>by
 obtain⟨t,e,r⟩:=h.2 i z y e1 e2
 exact⟨t,e,by rw[qi (qgx r hq (by intro z;cases z))];exact r⟩⟩
theorem TupL.snoc {t:Addr}{p:β} (h:TupL f H zs ps) (q:H t=some (.tup (f p))):TupL f H (zs++[.ref t]) (ps++[p]):=⟨by rw[List.length_append,List.length_append,h.1];rfl,fun i z y e1 e2=>by
 rcases qay e1 with e|⟨ei,e⟩
 · rcases qay e2 with e'|⟨ei',_⟩
   · exact h.2 i z y e e'
   · have:=(List.getElem?_eq_some_iff.mp e).1
     rw[ei',← h.1]at this;exact absurd this (Nat.lt_irrefl _)
 · rcases qay e2 with e'|⟨_,e'⟩
   · have:=(List.getElem?_eq_some_iff.mp e').1
     rw[ei,h.1]at this;exact absurd this (Nat.lt_irrefl _)
   · exact⟨t,e,e'▸q⟩⟩
theorem TupL.at_ (h:TupL f H zs ps) {i:Nat}{p:β} (e:ps[i]?=some p):qhV f H zs i p:=by
 have hi:i < zs.length:=by rw[h.1];exact(List.getElem?_eq_some_iff.mp e).1
 obtain⟨t,et,q⟩:=h.2 i _ p (List.getElem?_eq_getElem hi) e;exact⟨t,by rw[List.getElem?_eq_getElem hi,et],q⟩
theorem TupL.of (h:TupL f H zs ps) {i:Nat}{z:V} (e:zs[i]?=some z):qhU f H ps i z:=by
 have hi:i < ps.length:=by rw[← h.1];exact(List.getElem?_eq_some_iff.mp e).1
 obtain⟨t,et,q⟩:=h.2 i z _ e (List.getElem?_eq_getElem hi);exact⟨_,t,List.getElem?_eq_getElem hi,et,q⟩
end
end L2
namespace L2
open PySem PySem.Spec PyProof.Rows PySem.Builtin.Str PySem.NumText
theorem zi (x:Str):x.cps.toList.length=x.length:=Array.length_toList
end L2
namespace L2
open PySem PySem.Spec PyProof.Rows PySem.Builtin PySem.Builtin.Str PySem.NumText
section
variable {X:Cx}
def qhd:V->List V->Hp->VK->Prop:=fun x xs H Q=>∃ z i,x=.str z∧xs=[.int i]∧PadOk i=true∧Q (.str (Txt.zfill z i)) H
theorem qe1:MtR X "str.zfill" qhd:=by
 intro pins s σ H x xs v us Q I rx r h;obtain⟨z,i,rfl,rfl,hp,q⟩:=h;obtain⟨t,rfl⟩:=rx;obtain⟨u,rfl,ru⟩:=JI r;obtain⟨t',rfl⟩:=ru;exact SC.zfill hp fun t' k=>⟨.str _,H,I.tok k,⟨_,rfl⟩,q⟩
abbrev TJ:=L2.St->Hp->Str->(Str->Hp->Prop)->Prop
def qjo (t:TE):TE:=fun σ H Q=>t σ H fun v H1=>(∃ i,v=.int i∧i.natAbs.log2 < 1920∧Q (.str (Str.ofString (toString i))) H1)∨∃ x,v=.str x∧x.length≤sizeLine∧Q (.str x) H1
theorem qcl {e:Expr}{t:TE}{pos:Pos} (h:PE X e t):PE X (.FormattedValue e (-1) none pos) (qjo t):=by
 intro pins s σ H Q I hq;refine wpAny_FormattedValue_plain (thn (h pins s σ H _ I hq) fun v s1 zz_=>?_);obtain⟨x,H1,I1,r1,q1⟩:=zz_;rcases q1 with ⟨i,rfl,hi,q⟩|⟨y,rfl,hy,q⟩
 · obtain⟨t',rfl⟩:=r1;exact wpAny_formatField_int hi ⟨.str _,H1,I1.tok _,⟨_,rfl⟩,q⟩
 · obtain⟨t',rfl⟩:=r1;exact wpAny_formatField_str ⟨.str _,H1,I1,⟨_,rfl⟩,q⟩ ⟨.str _,H1,I1.tok _,⟨_,rfl⟩,q⟩ hy
def PJ (X:Cx) (es:List Expr) (t:TJ):Prop :=
 ∀ (pins:List (Addr×Obj)) (s:Shared) (σ:L2.St) (H:Hp) (acc:Str) (Q:Str->Hp->Prop),Inv X pins σ H s->t σ H acc Q ->
   Joins (model X.prog X.w) X.A X.xe (evalEach es X.env) acc (fun out s1=>∃ H1,Inv X pins σ H1 s1∧Q out H1) s
def qjz:TJ:=fun _ H acc Q=>Q acc H
def qiE (te:TE) (t:TJ):TJ:=fun σ H acc Q=>te σ H fun v H1=>∃ y,v=.str y∧acc.length+y.length≤sizeLine∧t σ H1 (acc++y) Q
theorem qfC:PJ X [] qjz:=fun _ s σ H acc Q I h=>⟨H,I,h⟩
theorem Zu {e:Expr}{es:List Expr}{te:TE}{t:TJ} (ha:PE X e te) (hr:PJ X es t):PJ X (e::es) (qiE te t):=by
 intro pins s σ H acc Q I h;show wpAny _ _ (eval e X.env) _ _ s;refine thn (ha pins s σ H _ I h) fun u s1 zz_=>?_;obtain⟨x,H1,I1,r1,y,e1,hl,q1⟩:=zz_;subst e1;obtain⟨t',rfl⟩:=r1;exact⟨y,t',rfl,by rw[Str.length_append];exact hl,hr pins s1 σ H1 _ Q I1 q1⟩
def qga (t:TJ):TE:=fun σ H Q=>t σ H Str.empty fun out H1=>out.length≤sizeLine∧Q (.str out) H1
theorem qbn {e e2:Expr}{es:List Expr}{t:TJ}{pos:Pos} (h:PJ X (e::e2::es) t):PE X (.JoinedStr (e::e2::es) pos) (qga t):=by
 intro pins s σ H Q I hq;refine wpAny_JoinedStr ?_
 have:=h pins s σ H Str.empty _ I hq
 revert this
 generalize evalEach (e::e2::es) X.env=ps;generalize Str.empty=acc;clear hq h;intro hj;clear I
 induction ps generalizing acc s with
 | nil =>
   obtain⟨H1,I1,hl,q⟩:=hj;exact⟨hl,.str _,H1,I1.tok _,⟨_,rfl⟩,q⟩
 | cons p ps ih =>
   refine thn hj fun v s1 h1=>?_;obtain⟨y,t',e1,hl,hr⟩:=h1;exact⟨y,t',e1,hl,ih _ _ hr⟩
end
end L2
namespace KC
open PySem L2 PySem.NumText PyProof.Rows
def qfN (i:Int):List Nat:=(Str.ofString (toString i)).cps.toList
theorem qe9 (m:Nat):qfN (Int.negSucc m)=45::(Nat.toDigits 10 (m+1)).map Char.toNat:=by
 unfold qfN;rw[signs_ofString];have e:toString (Int.negSucc m)="-"++Nat.repr (m+1):=rfl;rw[e,String.toList_append,List.map_append,Nat.toList_repr];rfl
theorem qcW {i:Int} (h0:-1000000000000000000000000000000 < i) (h1:i < 1000000000000000000000000000000):(qfN i).length≤31:=by
 cases i with
 | ofNat m =>
   have e:qfN (Int.ofNat m)=(Nat.toDigits 10 m).map Char.toNat:=PySem.W.KIN.signs_num m;rw[e,List.length_map]
   have:(Nat.toDigits 10 m).length≤30:=toDigits_len_pow (by decide) (by decide) (by
     have e:(10:Nat) ^ 30=1000000000000000000000000000000:=by decide
     rw[e];have h1:((m:Nat):Int) < 1000000000000000000000000000000:=h1
     omega)
   omega
 | negSucc m =>
   rw[qe9,List.length_cons,List.length_map]
   have:(Nat.toDigits 10 (m+1)).length≤30:=toDigits_len_pow (by decide) (by decide) (by
     have e:(10:Nat) ^ 30=1000000000000000000000000000000:=by decide
     rw[e]
     have h0:-1000000000000000000000000000000 < -((m:Nat)+1:Int):=by
       rw[Int.negSucc_eq]at h0;exact h0
     omega)
   omega
theorem qfY {xs:List V}{i:Int} (h0:0≤i) (h1:i < xs.length):∃ v,atI xs i=some v∧v∈xs:=by
 obtain⟨n,rfl⟩:=Int.eq_ofNat_of_zero_le h0;have hn:n < xs.length:=by omega
 exact⟨xs[n],Zy (List.getElem?_eq_getElem hn),List.getElem_mem hn⟩
def Sm (i:Int):Prop:=-1000000000000000000000000000000 < i∧i < 1000000000000000000000000000000
theorem Sm.log {i:Int} (h:Sm i):i.natAbs.log2 < 1920:=by
 have h1:i.natAbs < 2 ^ 140:=by
   obtain⟨h1,h2⟩:=h;have e:(2:Nat) ^ 140=1393796574908163946345982392040522594123776:=by decide
   omega
 by_cases h0:i.natAbs=0
 · rw[h0];decide
 · have:=(Nat.log2_lt h0).mpr h1
   omega
theorem Sm.len {i:Int} (h:Sm i):(Str.ofString (toString i)).length≤31:=by
 rw[← zi];exact qcW h.1 h.2
def qc3 (n:Nat):List Nat:=[48+n / 10,48+n % 10]
theorem qc7:∀ n:Nat,n < 60->(Txt.zfill (Str.ofString (toString (n:Int))) 2).cps.toList=qc3 n:=by decide +kernel
theorem qG (a b:Str):(a++b).cps.toList=a.cps.toList++b.cps.toList:=by rw[Str.cps_append,Array.toList_append]
theorem qx {a b:Str}{n m:Nat} (ha:a.length≤n) (hb:b.length≤m):(a++b).length≤n+m:=by rw[Str.length_append];omega
theorem Z4 {a b:Str}{n m:Nat} (ha:a.length≤n) (hb:b.length≤m) (h:n+m≤1000):a.length+b.length≤sizeLine:=Nat.le_trans (by omega) (qj h)
theorem qcC:Str.ofString "."=⟨#[46]⟩:=by decide +kernel
def clL (n:Int):List Nat:=qfN (n / 1440)++46::(qc3 (n % 1440 / 60).toNat++46::qc3 (n % 60).toNat)
end KC
namespace KC
open PySem L2 PySem.NumText PyProof.Rows PySem.Builtin PySem.Builtin.Str
theorem qg5 {ys:List Str}{m:Nat} (h:∀ y∈ys,y.length≤m):(ys.map (·.length)).sum≤ys.length * m:=by
 induction ys with
 | nil=>simp
 | cons y ys ih =>
   have h1:=h y List.mem_cons_self;have h2:=ih fun z hz=>h z (List.mem_cons_of_mem _ hz);rw[List.map_cons,List.sum_cons,List.length_cons,Nat.add_mul,Nat.one_mul];omega
end KC
namespace L2
open PySem PySem.Spec PyProof.Rows
open PySem.W (Frag InstAt hasDictIn findIn isFn Looks looks_clsIn typeIn looks_findIn keepIn specialIn takesIn mroIn callWith_K clsIn notCls looks_mroIn check_slot findObj looks_find findCls subIn isClsIn)
def ExO (ea C:Addr) (dx:Option Addr) (tb:Value):Heap->Prop:=fun h =>
 ∃ o vs,h.get? ea=some o∧o.cls=.ref C∧o.dict=dx∧o.data=.fields vs∧vs.size=6∧vs[1]?=some tb∧vs[2]?=some Value.none
def TbO (T:Addr):Heap->Prop:=fun h=>∃ o ts,h.get? T=some o∧o.data=.fields ts∧ts[3]?=some Value.none
def XAt (H:Hp) (ea C:Addr) (dx:Option Addr):Prop :=
 ∃ tb,H ea=some (.ext (ExO ea C dx tb))∧(tb=.none∨∃ T,tb=.ref T∧H T=some (.ext (TbO T))∧T≠ea)
theorem qcA {P:Program}{w:World}{H:Hp}{h:Heap}{ea C:Addr}{dx:Option Addr}{tb:Value} (x:ExO ea C dx tb h):ObjOk P w H h ea (.ext (ExO ea C dx tb)):=by
 obtain⟨o,vs,e,r⟩:=id x;exact⟨x,⟨o,e⟩,fun h1 h2 ⟨o',vs',e',r'⟩ k=>⟨o',vs',k _ e',r'⟩⟩
theorem qgV {P:Program}{w:World}{H:Hp}{h:Heap}{T:Addr} (x:TbO T h):ObjOk P w H h T (.ext (TbO T)):=by
 obtain⟨o,vs,e,r⟩:=id x;exact⟨x,⟨o,e⟩,fun h1 h2 ⟨o',vs',e',r'⟩ k=>⟨o',vs',k _ e',r'⟩⟩
section
variable {M:Model}{A:Around}{E:Value->Shared->Prop}{s:Shared}
structure qey (L:List Addr) (e:Addr) (oe:Obj) (h h':Heap) (T:Addr) (fl:Value):Prop where
 new:T=h.objs.size
 keep:∀ b o,b≠e->b∉L->h.get? b=some o->h'.get? b=some o
 slot:∀ b o,b≠e->h.get? b=some o->∃ sl,h'.get? b=some { o with slots:=sl }
 exc:h'.get? e=some (oe.mapFields (·.setIfInBounds 1 (.ref T)))
 tb:∃ oT ts,h'.get? T=some oT∧oT.data=.fields ts∧ts[3]?=some fl
theorem qas {base:Heap}{env:Env}{outer:List Env}{L e:Addr}{oe:Obj}{vs:Array Value}{head:Value}{hadNext:Bool}{Q:Unit->Shared->Prop}
   (hfr:A.frames=some (env::outer)) (hl:s.heap.FunFrames base (env::outer)) (hf:env.frame=some L)
   (he:s.heap.get? e=some oe) (hd:oe.data=.fields vs) (hsz:1 < vs.size)
   (h:∀ h' T,qey (frs (env::outer)) e oe s.heap h' T (rawInt L)->Q () { s with heap:=h' }) :
   wpAny M A (do
     let a ← frameOf env;let pl ← entryPlaceOf L hadNext;let b ← EntryCells.newEntry head a .none (rawInt L) .none pl
     setField (.ref e) 1 b) Q E s:=by
 have hene:e∉(env::outer).filterMap (·.frame):=fun hm=>by
   obtain⟨_,o,ho,hnf⟩:=hl.mem hm;rw[he]at ho;cases ho;exact hnf vs hd
 refine wpAny_bind (wpAny_frameOf_fun hfr hl hf fun g1 hs1=>?_);refine wpAny_bind (wpAny_entryPlaceOf fun pl hpl=>?_);unfold EntryCells.newEntry newFields;refine wpAny_bind (wpAny_newObj_type ?_ (hpl.sizeOk5 _ _ _ _ _));have he1:g1.get? e=some oe:=(hs1.2.1 e hene).trans he;generalize hob:({ cls:=.type "traceback",dict:=none,data:=.fields ([head,.ref L,.none,rawInt L,.none]++(if pl.isEmpty then List.replicate 6 Value.none else pl)).toArray }:Obj)=ob;have hobd:ob.data=.fields ([head,.ref L,.none,rawInt L,.none]++(if pl.isEmpty then List.replicate 6 Value.none else pl)).toArray:=by rw[← hob]
 have hof:ob.isFreed=false:=by rw[← hob];rfl
 have he2:=Heap.get?_push_of_some (h:=g1) ob he1;refine wpAny_setField he2 hd hsz (h _ g1.objs.size ?_);have hTe:g1.objs.size≠e:=Nat.ne_of_gt (Heap.lt_size he1);have hd3:=Obj.data_mapFields hd (·.setIfInBounds 1 (Value.ref g1.objs.size))
 have keep:∀ b o,b≠e->g1.get? b=some o->((g1.push ob).update e (Obj.mapFields (·.setIfInBounds 1 (Value.ref g1.objs.size)))).get? b=some o:=fun b o hbe hb=>by
   rw[Heap.get?_update_other _ _ (Ne.symm hbe)];exact Heap.get?_push_of_some _ hb
 refine⟨hs1.1,fun b o hbe hbL hb=>keep b o hbe ((hs1.2.1 b hbL).trans hb),fun b o hbe hb=>?_,Heap.get?_update_self _ he2 (Obj.isFreed_of_fields hd3),ob,_,?_,hobd,?_⟩
 · obtain⟨sl,q⟩:=hs1.2.2 b o hb;exact⟨sl,keep b _ hbe q⟩
 · rw[Heap.get?_update_other _ _ (Ne.symm hTe)];exact Heap.get?_push_size g1 hof
 · simp
theorem qdS {base:Heap}{env:Env}{outer:List Env}{L e:Addr}{oe:Obj}{vs:Array Value}{tb:Value}{Q:Unit->Shared->Prop}
   (hfr:A.frames=some (env::outer)) (hl:s.heap.FunFrames base (env::outer)) (hf:env.frame=some L)
   (he:s.heap.get? e=some oe) (hd:oe.data=.fields vs) (h1:vs[1]?=some tb) (ht:tb=.none∨∃ T,tb=.ref T∧TbO T s.heap)
   (h:∀ h' T,qey (frs (env::outer)) e oe s.heap h' T (rawInt L)->Q () { s with heap:=h' }):wpAny M A (noteFrame (.ref e) env) Q E s:=by
 unfold noteFrame;simp only[hf];refine wpAny_bind (wpAny_field he hd h1 ?_);have hsz:=(Array.getElem?_eq_some_iff.mp h1).1;rcases ht with rfl|⟨T,rfl,oT,ts,hT,hdT,h3⟩
 · rw[if_neg (by decide)];exact qas hfr hl hf he hd hsz h
 · rw[if_pos (show (Value.ref T != Value.none)=true from by simp)];refine wpAny_bind (wpAny_field hT hdT h3 ?_);rw[if_neg (show ¬ ((Value.none == rawInt L)=true) from by simp[rawInt])];refine wpAny_bind (wpAny_setField hT hdT (Array.getElem?_eq_some_iff.mp h3).1 ?_);rw[Heap.update_setField_same s.heap T oT ts 3 Value.none hT hdT h3];exact qas hfr hl hf he hd hsz h
theorem qdX {base:Heap}{env:Env}{outer:List Env}{L e:Addr}{oe:Obj}{vs:Array Value}{tb:Value}{Q:Unit->Shared->Prop}
   (hfr:A.frames=some (env::outer)) (hl:s.heap.FunFrames base (env::outer)) (hf:env.frame=some L)
   (he:s.heap.get? e=some oe) (hd:oe.data=.fields vs) (h1:vs[1]?=some tb) (ht:tb=.none∨∃ T,tb=.ref T∧TbO T s.heap)
   (h:∀ h' T,qey (frs (env::outer)) e oe s.heap h' T .none->Q () { s with heap:=h' }) :
   wpAny M A (noteFrame (.ref e) env) (fun _ s2=>wpAny M A (setFlight (.ref e) none) Q E s2) E s:=by
 refine qdS hfr hl hf he hd h1 ht fun h' T K=>?_;obtain⟨k1,k2,k3,k4,oT,ts,k5,k6,k7⟩:=K;have hsz:=(Array.getElem?_eq_some_iff.mp h1).1;have h3:3 < ts.size:=(Array.getElem?_eq_some_iff.mp k7).1;have hTe:e≠T:=by rw[k1];exact Nat.ne_of_lt (Heap.lt_size he)
 unfold setFlight;refine wpAny_bind (wpAny_field k4 (Obj.data_mapFields hd _) (x:=.ref T) (by simp[hsz]) ?_);rw[if_pos (show (Value.ref T != Value.none)=true from by simp)];refine wpAny_setField k5 k6 h3 (h _ T ⟨k1,fun b o hbe hbL hb=>?_,fun b o hbe hb=>?_,?_,_,_,Heap.get?_update_self _ k5 (Obj.isFreed_of_fields (Obj.data_mapFields k6 _)),Obj.data_mapFields k6 _,by simp[h3]⟩)
 · have:T≠b:=by rw[k1];exact Nat.ne_of_gt (Heap.lt_size hb)
   rw[Heap.get?_update_other _ _ this];exact k2 b o hbe hbL hb
 · have:T≠b:=by rw[k1];exact Nat.ne_of_gt (Heap.lt_size hb)
   rw[Heap.get?_update_other _ _ this];exact k3 b o hbe hb
 · rw[Heap.get?_update_other _ _ (Ne.symm hTe)];exact k4
end
section
variable {X:Cx}{pins:List (Addr×Obj)}{σ:St}{H:Hp}{s:Shared}{ea C:Addr}{dx:Option Addr}
def Qx (H:Hp) (ea C:Addr) (dx:Option Addr) (T:Addr):Hp:=upd (upd H ea (.ext (ExO ea C dx (.ref T)))) T (.ext (TbO T))
theorem Jv {T:Addr}{b:Addr}{o:HO} (hT:H T=none) (hb:b≠ea) (e:H b=some o):Qx H ea C dx T b=some o:=by
 unfold Qx;rw[qi (qk e hT),qi hb];exact e
theorem qdY {T:Addr} (hT:H T=none) (hne:T≠ea):XAt (Qx H ea C dx T) ea C dx:=by
 refine⟨.ref T,?_,.inr ⟨T,rfl,?_,hne⟩⟩
 · unfold Qx;rw[qi (Ne.symm hne),qe]
 · unfold Qx;rw[qe]
theorem qdW {M:Model}{A:Around}{E:Value->Shared->Prop}{Q:Unit->Shared->Prop} (I:Inv X pins σ H s) (hst:X.stack=X.env::X.outer) (hf:X.env.frame=some X.env.locals) (hfr:A.frames=some X.stack) (x:XAt H ea C dx)
   (h:∀ s' T,H T=none->T≠ea->Inv X pins σ (Qx H ea C dx T) s'->Q () s') :
   wpAny M A (noteFrame (.ref ea) X.env) (fun _ s2=>wpAny M A (setFlight (.ref ea) none) Q E s2) E s:=by
 obtain⟨tb,e1,e2⟩:=x;obtain⟨⟨oe,vs,he,hc,hdx,hd,hz,h1,hx2⟩,_,_⟩:=(show ObjOk X.prog X.w H s.heap ea (.ext (ExO ea C dx tb)) from I.hok ea _ e1)
 have ht:tb=.none∨∃ T,tb=.ref T∧TbO T s.heap:=by
   rcases e2 with e2|⟨T,e2,e3,_⟩
   · exact .inl e2
   · obtain⟨q,_,_⟩:=(show ObjOk X.prog X.w H s.heap T (.ext (TbO T)) from I.hok T _ e3)
     exact .inr ⟨T,e2,q⟩
 have hl:=I.stack;rw[hst]at hl hfr;have hea:ea∉frs X.stack:=fun z=>by have:=I.stkFree ea z;rw[e1]at this;cases this
 refine qdX hfr hl hf he hd h1 ht fun h' T K=>?_;obtain⟨k1,k2,k3,k4,oT,ts,k5,k6,k7⟩:=K;rw[← hst]at k2;have hT:H T=none:=I.hok.fresh (by rw[k1];exact Nat.le_refl _);have hTe:T≠ea:=by rw[k1];exact Nat.ne_of_gt (Heap.lt_size he)
 have nT:∀ b ob,s.heap.get? b=some ob->b≠T:=fun b ob e=>by rw[k1];exact Nat.ne_of_lt (Heap.lt_size e)
 have trk:∀ b u,H b=some u->b∉frs X.stack:=fun b u e z=>by have:=I.stkFree b z;rw[e]at this;cases this
 have nex:∀ b u,H b=some u->(∀ φ,u≠.ext φ)->b≠ea:=fun b u e n z=>by subst z;rw[e1]at e;cases e;exact n _ rfl
 have old:∀ b u,H b=some u->(∀ φ,u≠.ext φ)->Qx H ea C dx T b=some u:=fun b u e n=>Jv hT (nex b u e n) e
 have un:Un (frs X.stack) [] H (Qx H ea C dx T) s.heap h':=by
   refine⟨fun b o e n hb _=>k2 b o (fun z=>by subst z;rw[e1]at n;cases n) hb e,fun b o e n hb _=>k3 b o (fun z=>by subst z;rw[e1]at n;cases n) e,fun b o e n _=>?_,fun b o e _=>?_,
     fun b xs e=>old b _ e fun φ z=>(nomatch z),fun b o u e=>old b _ e fun φ z=>(nomatch z),fun b ps e=>⟨#[],by rw[old b _ e fun φ z=>(nomatch z)];simp⟩⟩
   · unfold Qx;rw[qi (nT b o e),qi fun z=>by subst z;rw[e1]at n;cases n];exact n
   · by_cases z:b=ea
     · subst z;exact⟨_,k4⟩
     · obtain⟨sl,q⟩:=k3 b o z e;exact⟨_,q⟩
 have hok:HOk X.prog X.w (Qx H ea C dx T) h':=fun b u e=>by
   by_cases z:b=T
   · subst z;unfold Qx at e;rw[qe]at e;cases e;exact qgV ⟨oT,ts,k5,k6,k7⟩
   · by_cases z2:b=ea
     · subst z2;unfold Qx at e;rw[qi z,qe]at e;cases e;refine qcA ⟨_,_,k4,(Obj.cls_mapFields _ _).trans hc,?_,Obj.data_mapFields hd _,by simp[hz],by simp[hz],by rw[Array.getElem?_setIfInBounds_ne (by decide)];exact hx2⟩;rw[← hdx];obtain⟨oc,od,odt,osl⟩:=oe;have hd':odt=.fields vs:=hd;subst hd';rfl
     · have e':H b=some u:=by
         unfold Qx at e;rw[qi z,qi z2]at e;exact e
       refine(I.hok b u e').stay (fun c v hc q=>?_) (fun c q=>old c _ q fun φ z=>(nomatch z)) fun c xs q=>old c _ q fun φ z=>(nomatch z)
       rcases hc with hc|hc
       · subst hc;exact k2 c v z2 (trk c u e') q
       · exact k2 c v (nex c _ hc fun φ z=>(nomatch z)) (trk c _ hc) q
 exact h _ T hT hTe (I.call' (s':={ s with heap:=h' }) rfl un hok I.bare fun b z=>absurd z (by simp))
def Sure (E:XK) (C ea:Addr) (dx:Option Addr) (H:Hp):Prop:=∀ H',(∀ b o,b≠ea->H b=some o->H' b=some o)->XAt H' ea C dx->E (.ref C) (some ea) H'
theorem Sure.look {E:XK}{T:Addr} (h:Sure E C ea dx H) (hT:H T=none):Sure E C ea dx (Qx H ea C dx T):=fun H' k x=>h H' (fun b o hb e=>k b o hb (Jv hT hb e)) x
inductive qhX (P:Program) (w:World) (outer:List Env) (H:Hp) (s:Shared) (E:XK) (e:Value) (s':Shared):Prop
 | mk (ea C dx H':_) (h1:e=.ref ea) (h2:s'.os=s.os) (h3:AllBare s'.gens) (h4:Un (frs outer) [] H H' s.heap s'.heap) (h5:HOk P w H' s'.heap) (h6:XAt H' ea C dx) (h7:Sure E C ea dx H'):qhX P w outer H s E e s'
def CX1 (P:Program) (w:World):CXT:=fun outer H s E e s'=>qhX P w outer H s E e s'
def qf1 (X:Cx) (E:XK):Prop:=∀ (pins:List (Addr×Obj)) (σ:St) (H:Hp) (s:Shared) (ea C:Addr) (dx:Option Addr),Inv X pins σ H s->XAt H ea C dx->Sure E C ea dx H->X.xe (.ref ea) s
theorem qdg {P:Program}{w:World}{K:Frag}{mg:Str->Option Value}{base:Heap}{N:List Str}{qual:Str}{scope:Scope}{f:Addr}{cd:Value}{A:Around}{outer:List Env}{s₀:Shared}{H₀:Hp}{E:XK} :
   qf1 (zc (CX1 P w) P w K mg base N qual scope f cd A outer s₀ H₀ E) E:=by
 intro pins σ H s ea C dx I x q;show wpAny _ _ (leaving _ _) _ _ _;unfold leaving;refine wpAny_bind (qdW I rfl rfl I.ok.frames x fun s' T hT hne J=>?_);exact⟨ea,C,dx,_,rfl,J.os,J.bare,J.base,J.hok,qdY hT hne,q.look hT⟩
end
def tyS:Value->String
 | .type a=>a
 | _=>""
theorem qgT {v:Value}{s:String} (h:tyS v=s) (n:s≠""):v=.type s:=by
 cases v with
 | type a=>exact congrArg _ h
 | _=>exact absurd h.symm n
theorem qf5 {l:List Value}:∀ {ss:List String},l.map tyS=ss->(∀ s∈ss,s≠"")->l=ss.map Value.type:=by
 induction l with
 | nil=>intro ss h _;rw[← h];rfl
 | cons v l ih =>
   intro ss h n
   cases ss with
   | nil=>cases h
   | cons s ss =>
     have h1:tyS v=s:=(List.cons.inj h).1;have h2:l.map tyS=ss:=(List.cons.inj h).2;rw[qgT h1 (n s List.mem_cons_self),ih h2 fun x m=>n x (List.mem_cons_of_mem _ m)];rfl
def jM:List Value->Bool
 | []=>false
 | x::r=>match x with
   | .ref _=>jM r
   | _=>(x::r).map tyS == ["ValueError","Exception","BaseException","object"]
theorem jY {l:List Value} (e:jM l=true):(∃ c r,l=.ref c::r∧jM r=true)∨l=[.type "ValueError",.type "Exception",.type "BaseException",.type "object"]:=by
 cases l with
 | nil=>cases e
 | cons x r =>
   unfold jM at e;split at e
   · exact .inl ⟨_,r,rfl,e⟩
   · exact .inr (qf5 (eq_of_beq e) (by decide))
theorem zy {T:String}{v:Bool} (h4:([.type "ValueError",.type "Exception",.type "BaseException",.type "object"]:List Value).contains (.type T)=v) {l:List Value}:jM l=true->l.contains (.type T)=v:=by
 induction l with
 | nil=>intro e;cases e
 | cons x r ih =>
   intro e;rcases jY e with ⟨c,r',h,e'⟩|h
   · cases h;rw[List.contains_cons,ih e',show (Value.type T == Value.ref c)=false from rfl,Bool.false_or]
   · rw[h];exact h4
inductive qf0 (K:Frag) (C:Addr):Prop
 | mk (nm qn:Str) (N:Addr) (bs bm:List Value) (sn:List Str) (sub:List Value) (ab:Bool) (col:Option Bool) (dd:Option Addr) (k0 k1 k2 k3 k5:Option Value) (h1:K.lookup C=some (excClassObj nm qn C N bs bm true sn sub ab col dd k0 k1 k2 k3 k5 "ValueError.__new__")) (h2:jM bm=true):qf0 K C
def qiN (K:Frag) (C:Addr):Prop:=qf0 K C
noncomputable def xIn (K:Frag) (C:Addr):Bool:=@decide (qiN K C) (Classical.propDecidable _)
theorem xIn_iff {K:Frag}{C:Addr}:xIn K C=true↔qiN K C:=@decide_eq_true_iff (qiN K C) (Classical.propDecidable _)
theorem qhZ {K:Frag}{h:Heap}{C:Addr} (X:K.In h) (q:xIn K C=true):∃ nm qn N bs bm sn sub ab col dd k0 k1 k2 k3 k5,
   h.get? C=some (excClassObj nm qn C N bs bm true sn sub ab col dd k0 k1 k2 k3 k5 "ValueError.__new__")∧jM bm=true:=by
 obtain⟨nm,qn,N,bs,bm,sn,sub,ab,col,dd,k0,k1,k2,k3,k5,ho,hx⟩:=xIn_iff.mp q;exact⟨nm,qn,N,bs,bm,sn,sub,ab,col,dd,k0,k1,k2,k3,k5,X _ _ ho,hx⟩
section
variable {M:Model}{A:Around}{E:Value->Shared->Prop}{h:Heap}{g:Array GenState}{d:Drawn}{t:Nat}{os:OsState}
variable {nm q:Str}{C N:Addr}{bs bm bmB:List Value}{sn:List Str}{sub:List Value}{ab:Bool}{col:Option Bool}{dd:Option Addr}{k0 k1 k2 k3 k5:Option Value}{B newId initId:String}
theorem qbM (F:ExcBaseFacts B newId initId bmB) {rest:List Value}{Q:Unit->Shared->Prop} (hC:h.get? C=some (excClassObj nm q C N bs bm true sn sub ab col dd k0 k1 k2 k3 k5 newId))
   (hcont:(Value.ref C::bm).contains (.type B)=true) (hq:Q () ⟨h,g,d,t,os⟩):wpAny M A (checkBuiltinCall newId ⟨.ref C::rest,[]⟩) Q E ⟨h,g,d,t,os⟩:=by
 have hstar:=F.noStar;simp only[checkBuiltinCall,F.newKind,F.newSplit,F.newRow]
 repeat (first
   | refine wpAny_loadPart_at hC ?_
   | (refine wpAny_isSubtype_exc hC ?_;rw[hcont])
   | refine wpAny_staticBase_exc hC ?_
   | refine wpAny_madeBy_exc hC ?_
   | simp only[bne_self_eq_false,Bool.false_eq_true,if_false]
   | wp_step)
 exact hq
end
section
variable {prog:Program}{w:World}{A:Around}{R:Result->Shared->Prop}{E:Value->Shared->Prop}{h:Heap}{g:Array GenState}{d:Drawn}{t:Nat}{os:OsState}
variable {nm q:Str}{C N:Addr}{bs bm bmB:List Value}{sn:List Str}{sub:List Value}{ab:Bool}{col:Option Bool}{dd:Option Addr}{k0 k1 k2 k3 k5:Option Value}{B newId initId:String}
abbrev Zr (C:Addr) (t:Addr):Obj:={ cls:=.ref C,data:=.fields #[.ref t,.none,.none,.none,.bool false,.none] }
theorem qh8 (F:ExcBaseFacts B newId initId bmB) {rest:List Value} (hC:h.get? C=some (excClassObj nm q C N bs bm true sn sub ab col dd k0 k1 k2 k3 k5 newId))
   (hcB:(Value.ref C::bm).contains (.type B)=true) (hcA:(Value.ref C::bm).contains (.type "AttributeError")=false) (hcN:(Value.ref C::bm).contains (.type "NameError")=false)
   (hq:R (.ok (.ret (.ref (h.objs.size+1)))) ⟨(h.push { cls:=.type "tuple",data:=.seq rest.toArray }).push (Zr C h.objs.size),g,d,t,os⟩) (hrest:rest.length≤sizeLine) :
   codeAny (model prog w) A (.builtin newId ⟨.ref C::rest,[]⟩) R ⟨h,g,d,t,os⟩:=by
 have hends:=F.ends;refine codeAny_builtinAt F.entry ?_;unfold Builtin.«BaseException.__new__»;refine PySem.wpAt_bind ?_;show PySem.wpAt _ _ _ (stack >>= _) _ _ _;refine PySem.wpAt_bind (PySem.wpAt_stack fun p below=>PySem.wpAt_of_wpAny ?_)
 wp_walk
 refine PySem.wpAt_of_wpAny ?_;rw[F.owner]
 repeat (first
   | with_reducible refine wpAny_madeHere_exc F.canon hC ?_
   | with_reducible refine wpAny_loadPart_at hC ?_
   | (with_reducible refine wpAny_isSubtype_exc hC ?_;first|rw[hcB]|rw[hcA]|rw[hcN])
   | wp_step)
 show R _ _;rw[Heap.size_push];exact hq
theorem qgQ {K:Frag}{rest:List Value}{fI:Addr}{Q:Value->Shared->Prop} (X:K.In h) (xi:xIn K C=true)
   (hi:findIn K (.ref C) "__init__"=some (some (.ref fI))) (hf:typeIn K (.ref fI)=some (.type "function"))
   (hq:wpAny (model prog w) (A.under (.builtin "type.__call__" ⟨.ref C::rest,[]⟩)) (call (.ref fI) (.ref (h.objs.size+1)::rest)) (fun r s'=>r=.none∧Q (.ref (h.objs.size+1)) s') E
     ⟨(h.push { cls:=.type "tuple",data:=.seq rest.toArray }).push (Zr C h.objs.size),g,d,t,os⟩) (hrest:rest.length≤sizeLine) :
   wpAny (model prog w) A (call (.ref C) rest) Q E ⟨h,g,d,t,os⟩:=by
 obtain⟨nm,qn,N,bs,bm,sn,sub,ab,col,dd,k0,k1,k2,k3,k5,hC,hx⟩:=qhZ X xi;have F:=PySem.F.excBase_ValueError;have f1:=tc_lookup;have f2:=tc_bind (.ref C);have hT:(⟨h,g,d,t,os⟩:Shared).TypeIs (.ref C) "type":=⟨_,hC,rfl⟩
 have hcB:(Value.ref C::bm).contains (.type "ValueError")=true:=by rw[List.contains_cons,zy (v:=true) (by decide +kernel) hx,Bool.or_true]
 have hcA:(Value.ref C::bm).contains (.type "AttributeError")=false:=by rw[List.contains_cons,zy (v:=false) (by decide +kernel) hx];rfl
 have hcN:(Value.ref C::bm).contains (.type "NameError")=false:=by rw[List.contains_cons,zy (v:=false) (by decide +kernel) hx];rfl
 refine wpAny_call (codeAny_of_tree ?_);show wpAny _ _ (callAny (.ref C) _) _ _ _
 repeat (any_goals (first
   | assumption
   | with_reducible refine wpAny_loadPart_at hC ?_
   | wp_step))
 refine⟨rfl,?_⟩;refine codeAny_call_builtin_at (Code.quiet_builtin _ (by decide +kernel)) entry_typeCall (wpAny_check_type_call_sub hC ?_)
 repeat (first
   | with_reducible refine wpAny_loadPart_at hC ?_
   | with_reducible refine wpAny_madeBy_exc hC ?_
   | wp_step)
 refine codeAny_call_builtin_code (Code.quiet_builtin _ F.quiet) (qbM F hC hcB ?_);refine qh8 F hC hcB hcA hcN ?_ hrest;show wpAny _ _ _ _ _ (⟨(h.push { cls:=.type "tuple",data:=.seq rest.toArray }).push (Zr C h.objs.size),g,d,t,os⟩:Shared);have kp:∀ b o,h.get? b=some o->((h.push { cls:=.type "tuple",data:=.seq rest.toArray }).push (Zr C h.objs.size)).get? b=some o:=fun b o e=>Heap.get?_push_of_some _ (Heap.get?_push_of_some _ e);have hC1:=kp _ _ hC;have X1:=X.keeps kp;have hget:((h.push { cls:=.type "tuple",data:=.seq rest.toArray }).push (Zr C h.objs.size)).get? (h.objs.size+1)=some (Zr C h.objs.size):=by heap_get
 have hcC:(Value.ref C::bm).contains (.ref C)=true:=by simp
 unfold isInstance
 repeat (first
   | with_reducible refine wpAny_loadPart_at hget ?_
   | (show wpAny _ _ (isSubtype (.ref C) _) _ _ _;with_reducible refine wpAny_isSubtype_exc hC1 ?_;rw[hcC])
   | wp_step)
 show wpAny _ _ (typeLookup (.ref C) _) _ _ _;refine(looks_findIn X1 hi).at ?_;refine wpAny_holding (wpAny_bind ((PySem.W.bind_fn X1 _ hf).at ?_));refine wpAny_bind (wpAny_mono hq (fun r s' hr=>?_) fun _ _ x=>x);obtain⟨rfl,hQ⟩:=hr
 wp_walk
 exact hQ
end
theorem xcd {K:Frag}{C:Addr} (q:xIn K C=true):∃ cd bm,clsIn K C=some cd∧cd.mro=.ref C::bm∧jM bm=true∧cd.hasDict=true:=by
 obtain⟨nm,qn,N,bs,bm,sn,sub,ab,col,dd,k0,k1,k2,k3,k5,ho,hx⟩:=xIn_iff.mp q
 have e:∃ cd,clsIn K C=some cd∧cd.mro=.ref C::bm∧cd.hasDict=true:=by
   unfold clsIn;rw[ho];exact⟨_,rfl,rfl,rfl⟩
 obtain⟨cd,h1,h2,h3⟩:=e;exact⟨cd,bm,h1,h2,hx,h3⟩
theorem qhY {K:Frag}{C:Addr}{T:String} (q:xIn K C=true) (h4:([.type "ValueError",.type "Exception",.type "BaseException",.type "object"]:List Value).contains (.type T)=true):mroIn K C (.type T)=some true:=by
 obtain⟨cd,bm,h1,h2,h3,_⟩:=xcd q;unfold mroIn;rw[h1,Option.bind_some,h2,if_neg (by simp),List.contains_cons,zy h4 h3,Bool.or_true]
section
variable {M:Model}{A:Around}{E:Value->Shared->Prop}{s:Shared}{env:Env}
theorem qf2 {x:Sem Value}{Q:Flow->Shared->Prop} (hh:A.handled=none)
   (h:wpAny M A x (fun v s1=>∃ (ea C:Addr) (o:Obj) (vs:Array Value) (K:Frag),v=.ref ea∧K.In s1.heap∧xIn K C=true∧s1.heap.get? ea=some o∧o.cls=.ref C∧o.data=.fields vs∧vs[1]?=some .none∧E (.ref ea) s1) E s) :
   wpAny M A (raiseStmt env (some x) none) Q E s:=by
 unfold raiseStmt;refine wpAny_bind (wpAny_mono h (fun v s1 h1=>?_) fun _ _ x=>x);obtain⟨ea,C,o,vs,K,rfl,X,xi,he,hc,hd,hv,hE⟩:=h1;obtain⟨nm,qn,N,bs,bm,sn,sub,ab,col,dd,k0,k1,k2,k3,k5,hC,hx⟩:=qhZ X xi;have hcB:(Value.ref C::bm).contains (.type "BaseException")=true:=by rw[List.contains_cons,zy (v:=true) (by decide +kernel) hx,Bool.or_true]
 obtain⟨oc,od,odt,osl⟩:=o;dsimp only at hc hd;subst hc hd;obtain⟨hp,g,d,tk,os⟩:=s1
 repeat (first
   | with_reducible refine wpAny_field he rfl hv ?_
   | with_reducible refine wpAny_loadPart_at he ?_
   | with_reducible refine wpAny_loadPart_at hC ?_
   | (with_reducible refine wpAny_isSubtype_exc hC ?_;rw[hcB])
   | wp_step)
 exact wpAny_raiseNew_none hh hE
end
section
variable {prog:Program}{w:World}{A:Around}{E:Value->Shared->Prop}{s:Shared}{K:Frag}{C x:Addr}{ox:Obj}{name:Str}{v:Value}
theorem qf4 {rest:List Value}{vs:Array Value}{Q:Value->Shared->Prop} (X:K.In s.heap) (xi:xIn K C=true) (hx:s.heap.get? x=some ox) (hc:ox.cls=.ref C) (hd:ox.data=.fields vs) (hz:vs.size=6) (hl:rest.length≤sizeLine)
   (h:∀ h' tp,(∀ b o,b≠x->s.heap.get? b=some o->h'.get? b=some o)->h'.get? x=some (ox.mapFields (·.setIfInBounds 0 tp))->Q .none { s with heap:=h' }) :
   wpAny (model prog w) A (call (.builtin "ValueError.__init__") (.ref x::rest)) Q E s:=by
 obtain⟨hp,g,d,tk,os⟩:=s;have F:=PySem.F.excBase_ValueError;obtain⟨nm,qn,N,bs,bm,sn,sub,ab,col,dd,k0,k1,k2,k3,k5,hC,hxt⟩:=qhZ X xi;have hcB:(Value.ref C::bm).contains (.type "ValueError")=true:=by rw[List.contains_cons,zy (v:=true) (by decide +kernel) hxt,Bool.or_true]
 have hshort:=F.noStar
 have chk:wpAny (model prog w) A.in1 (checkBuiltinCall "ValueError.__init__" ⟨.ref x::rest,[]⟩) (fun _ s'=>s'=⟨hp,g,d,tk,os⟩) (fun _ _=>False) ⟨hp,g,d,tk,os⟩:=by
   simp only[checkBuiltinCall,F.initKind,F.initSplit,F.initRow]
   repeat (first
     | (with_reducible refine wpAny_loadPart_at hx ?_;rw[hc])
     | with_reducible refine wpAny_loadPart_at hC ?_
     | (with_reducible refine wpAny_isSubtype_exc hC ?_;rw[hcB])
     | wp_step)
   refine wpAny_onRaise ?_
   rw[show ∀ (a b:String) (n:Nat),Bind.check ⟨.positional,"*","ValueError",.self,[⟨"args",.varPos,false⟩]⟩ a b n (List.map (fun x=>x.fst) ({ pos:=Value.ref x::rest }:Args).kw)=pure () from
     fun a b n=>check_star_args _ _ _ _ _ _]
   exact wpAny_pure rfl
 refine wpAny_call (codeAny_call_builtin F.init.plain F.initEntry (wpAny_mono chk (fun _ s1 e=>?_) fun _ _ z=>z.elim));subst e;unfold Builtin.«BaseException.__init__»
 repeat (first
   | with_reducible refine wpAny_loadPart_at hx ?_
   | wp_step)
 obtain⟨a0,h0⟩:∃ a0,vs[0]?=some a0:=⟨_,Array.getElem?_eq_getElem (by omega)⟩
 rw[hd];refine wpAny_pure ?_;rw[h0];refine wpAny_pure ?_;have hx1:(hp.push { cls:=.type "tuple",data:=.seq rest.toArray }).get? x=some ox:=Heap.get?_push_of_some _ hx;refine wpAny_bind (wpAny_setField hx1 hd (by omega) ?_)
 have fin:=h ((hp.push { cls:=.type "tuple",data:=.seq rest.toArray }).update x (Obj.mapFields (·.setIfInBounds 0 (.ref hp.objs.size)))) (.ref hp.objs.size) (fun b o hb e=>by
   rw[Heap.get?_update_other _ _ (Ne.symm hb)]
   exact Heap.get?_push_of_some _ e) (Heap.get?_update_self _ hx1 (Obj.isFreed_of_fields (Obj.data_mapFields hd _)))
 cases a0<;>(repeat wp_step)<;>exact fin
end
theorem qeB (self:Value) {l:List Value}:jM l=true->refuseLoop self "__setattr__" l=pure ():=by
 induction l with
 | nil=>intro e;cases e
 | cons x r ih =>
   intro e;rcases jY e with ⟨c,r',h,e'⟩|h
   · cases h;rw[refuseLoop_ref];exact ih e'
   · rw[h];exact PySem.F.store_ValueError.passes self
section
variable {prog:Program}{w:World}{A:Around}{E:Value->Shared->Prop}{s:Shared}{K:Frag}{C x:Addr}{ox:Obj}{name:Str}{v:Value}
theorem qh7 {vs:Array Value}{Q:Unit->Shared->Prop} (X:K.In s.heap) (xi:xIn K C=true) (hx:s.heap.get? x=some ox) (hc:ox.cls=.ref C) (hd:ox.data=.fields vs) (hdn:ox.dict=none)
   (hs:findIn K (.ref C) "__setattr__"=some (some (.builtin "object.__setattr__"))) (ha:findIn K (.ref C) name=some none)
   (h:∀ h' dx,s.heap.objs.size≤dx->h'.get? x=some { ox with dict:=some dx }->h'.Ns1 dx (fun y=>if y=name then some v else none)->(∀ b o,b≠x->s.heap.get? b=some o->h'.get? b=some o) ->
     Q () { s with heap:=h',toks:=s.toks+2 }) :
   wpAny (model prog w) A (setAttr (.ref x) name v) Q E s:=by
 have SF:=PySem.F.store_object;obtain⟨cd,bm,hcd,hmro,hxt,hdict⟩:=xcd xi;have I:InstAt s.heap x ox C none:=⟨hx,hc,by unfold notCls;rw[hd],by rw[hdn];exact True.intro⟩
 refine PySem.W.set_plain X I hs ?_;have sub:Looks (model prog w) s.heap (isInstance (.ref x) (.type "object")) true:=I.type.andThen (looks_mroIn X (qhY xi (by decide +kernel)));refine codeAny_call_builtin SF.slot.plain SF.entry (@check_slot (model prog w) _ _ { s with toks:=s.toks+1 } "object.__setattr__" "object" "__setattr__" (.ref x) [.str name s.toks,v] [] _ SF.kind SF.split sub (SF.args (.ref x) (.str name s.toks) v) ?_);have hm:Looks (model prog w) s.heap (mroOf (.ref C)) cd.mro:=(looks_clsIn X hcd).andThen .now;rw[PySem.W.osa_eq,refuse_eq];refine wpAny_bind (wpAny_bind (I.type.here (s:={ s with toks:=s.toks+1 }) (wpAny_bind (hm.here (s:={ s with toks:=s.toks+1 }) ?_))));rw[hmro,refuseLoop_ref,qeB _ hxt];refine wpAny_pure (wpAny_bind (I.type.here (s:={ s with toks:=s.toks+1 }) (wpAny_bind ((looks_findIn X ha).here (s:={ s with toks:=s.toks+1 }) (wpAny_bind (wpAny_pure ?_))))));dsimp only;unfold PySem.Builtin.ObjectAttr.storeInOwnDict;refine wpAny_bind (wpAny_pure ?_);rw[if_neg (by simp)];refine wpAny_bind (wpAny_bind (wpAny_loadPart hx ?_));rw[hc];dsimp only;refine wpAny_bind ((looks_clsIn X hcd).here (s:={ s with toks:=s.toks+1 }) ?_);rw[hdict,hdn,if_neg (by decide)];dsimp only;rw[if_neg (by simp[typeHasDict]),hd];dsimp only;have hx1:(s.heap.push { cls:=.type "dict",data:=.dict #[] }).get? x=some ox:=Heap.get?_push_of_some _ hx;have hxs:x≠s.heap.objs.size:=Nat.ne_of_lt (Heap.lt_size hx);refine wpAny_bind (wpAny_alloc' ?_);refine wpAny_bind (wpAny_update' hx1 ?_);refine wpAny_pure (a:=some s.heap.objs.size) ?_;generalize hg:((s.heap.push { cls:=.type "dict",data:=.dict #[] }).update x fun o=>{ cls:=o.cls,dict:=some s.heap.objs.size,data:=o.data,slots:=o.slots })=g1
 have hgd:g1.get? s.heap.objs.size=some { cls:=.type "dict",data:=.dict #[] }:=by
   rw[← hg];exact(Heap.get?_update_ne _ _ _ _ hxs.symm).trans (Heap.get?_push_at rfl rfl)
 have hnd:g1.Ns s.heap.objs.size (fun _=>none):=⟨_,#[],_,hgd,rfl,fun e he=>absurd he (by simp),fun _=>rfl⟩
 have hgx:g1.get? x=some { ox with dict:=some s.heap.objs.size }:=by
   rw[← hg];refine Heap.get?_update_self _ hx1 ?_;have hfr:=(Heap.get?_some_iff.mp hx).2;obtain⟨oc,od,odt,osl⟩:=ox;cases odt<;>first|rfl|exact hfr
 have hgo:∀ b o,b≠x->s.heap.get? b=some o->g1.get? b=some o:=fun b o hb e=>by
   rw[← hg];exact(Heap.get?_update_ne _ _ _ _ hb).trans (Heap.get?_push_of_some _ e)
 show wpAny _ _ (PySem.Builtin.ObjectAttr.storeInDict s.heap.objs.size (.str name s.toks) name v) _ _ _;unfold PySem.Builtin.ObjectAttr.storeInDict PySem.Builtin.ObjectAttr.newKeyGuard;refine wpAny_bind (wpAny_pure (wpAny_bind (wpAny_nsSet1 (Heap.Ns1.of_empty hnd) fun h' hn' hs'=>?_)));obtain⟨oD,esD,epD,hoD,hdD,hcD⟩:=hn'.count (Within.cons name v Within.nil);refine wpAny_bind (wpAny_lookBehind hoD (by rw[hdD];exact pastItsLine_dict (Nat.le_trans hcD (by rw[List.length_cons,List.length_nil,sizeLine_eq];omega))) ?_);refine wpAny_pure (h h' s.heap.objs.size (Nat.le_refl _) ((hs'.2 x hxs).trans hgx) hn' fun b o hb e=>(hs'.2 b (Nat.ne_of_lt (Heap.lt_size e))).trans (hgo b o hb e))
end
section
variable {prog:Program}{w:World}{A:Around}{E:Value->Shared->Prop}{s:Shared}{K:Frag}{C x:Addr}{ox:Obj}{od:Option Obj}{name:Str}{v:Value}
theorem qc9 {tk:Tok}{fill expr:Bool}{Q:Value->Shared->Prop} (X:K.In s.heap) (I:InstAt s.heap x ox C od) (xi:xIn K C=true)
   (hga:findIn K (.ref C) "__getattribute__"=some (some (.builtin "BaseException.__getattribute__"))) (hna:findIn K (.ref C) "__getattr__"=some none)
   (h:wpAny (model prog w) A.in1 (Builtin.«object.__getattribute__» ⟨[.ref x,.str name tk],[]⟩) (fun fin s'=>match fin with|.done (.ret v)=>wpAny (model prog w) A (handedOut v) Q E s'|_=>False) (fun _ _=>False) s) :
   wpAny (model prog w) A (getAttrBy (.ref x) (.str name tk) fill expr) Q E s:=by
 have hx2:(Value.builtin "BaseException.__getattribute__" == Value.builtin "object.__getattribute__")=false:=by decide +kernel
 unfold getAttrBy;refine wpAny_holding (wpAny_bind (I.type.here (wpAny_bind ((looks_findIn X hga).here ?_))));dsimp only;rw[hx2,Bool.and_false,if_neg (by decide)];unfold getAttrByItsOwn;refine wpAny_bind ((PySem.W.looks_hook X (r:=none) (by rw[if_pos (by rfl)];exact hna)).here (wpAny_bind (wpAny_attempt (wpAny_holding ?_))));unfold callGetattribute;rw[show (expr && onTheHeap (Value.builtin "BaseException.__getattribute__"))=false from by cases expr<;>rfl,if_neg (by decide)];unfold boundAndCalled;rw[PySem.F.excAttr_ValueError.ga.bind];refine wpAny_bind (wpAny_pure ?_);show wpAny _ _ (call (.builtin "BaseException.__getattribute__") [.ref x,.str name tk]) _ _ _;refine wpAny_call (codeAny_call_builtin PySem.F.excAttr_ValueError.ga.plain PySem.F.entry_bexc_ga ?_);refine @check_slot (model prog w) _ _ s "BaseException.__getattribute__" "BaseException" "__getattribute__" (.ref x) [.str name tk] [] _ (by decide +kernel) (by decide +kernel) (I.type.andThen (looks_mroIn X (qhY xi (by decide +kernel)))) (PySem.F.args_bexc_ga (.ref x) (.str name tk)) ?_;refine wpAny_mono h (fun fin s' z=>?_) fun _ _ z=>z.elim;rcases fin with (_|_|_|_)|_<;>first|exact z|exact z.elim
theorem qh9 {expr:Bool}{Q:Value->Shared->Prop} (X:K.In s.heap) (I:InstAt s.heap x ox C od) (xi:xIn K C=true)
   (hga:findIn K (.ref C) "__getattribute__"=some (some (.builtin "BaseException.__getattribute__"))) (hna:findIn K (.ref C) "__getattr__"=some none)
   (hf:findObj K C od name=some (.value v)) (hh:PySem.W.handedIn v=true) (h:Q v { s with toks:=s.toks+1 }):wpAny (model prog w) A (getAttr (.ref x) name expr) Q E s:=by
 unfold getAttr;refine wpAny_bind (wpAny_mkText (qc9 (s:={ s with toks:=s.toks+1 }) X I xi hga hna ?_));have L1:=looks_find (M:=model prog w) X I hf;unfold Builtin.«object.__getattribute__»;refine wpAny_bind (wpAny_pure (wpAny_bind (wpAny_pure (wpAny_bind (I.type.here (s:={ s with toks:=s.toks+1 }) (wpAny_bind (L1.here (s:={ s with toks:=s.toks+1 }) ?_)))))));refine wpAny_pure ?_;show wpAny _ _ (handedOut v) _ _ _;rw[PySem.W.handedOut_of hh];exact wpAny_pure h
end
structure XC (K:Frag) (C:Addr):Prop where
 xi:xIn K C=true
 ga:findIn K (.ref C) "__getattribute__"=some (some (.builtin "BaseException.__getattribute__"))
 na:findIn K (.ref C) "__getattr__"=some none
 sa:findIn K (.ref C) "__setattr__"=some (some (.builtin "object.__setattr__"))
 cl:findIn K (.ref C) "__class__"=some (some (.builtin "object.__class__"))
 gt:specialIn K (.builtin "object.__class__") "__get__"=some (some (.builtin "getset_descriptor.__get__"))
 tk:takesIn K (.builtin "object.__class__")=some true
section
variable {prog:Program}{w:World}{A:Around}{E:Value->Shared->Prop}{s:Shared}{K:Frag}{C x:Addr}{ox:Obj}{od:Option Obj}
theorem qf3 {Q:Option Value->Shared->Prop} (X:K.In s.heap) (I:InstAt s.heap x ox C od) (c:XC K C) (hn:specialIn K (.builtin "object.__class__") "__get__"=some (some (.builtin "getset_descriptor.__get__")))
   (htk:takesIn K (.builtin "object.__class__")=some true) (h:Q (some (.ref C)) { s with toks:=s.toks+1 }):wpAny (model prog w) A (getAttr? (.ref x) "__class__") Q E s:=by
 obtain⟨cd,bm,hcd,hmro,hxt,hdict⟩:=xcd c.xi
 have hf:findObj K C od "__class__"=some (.bind (.builtin "getset_descriptor.__get__") (.builtin "object.__class__")):=by
   unfold findObj;rw[hcd,Option.bind_some,c.cl,Option.bind_some];simp[hn,htk]
 have L1:=looks_find (M:=model prog w) X I hf;unfold getAttr? getAttrBy?;refine wpAny_bind (wpAny_mkText (wpAny_bind (wpAny_attempt (qc9 (s:={ s with toks:=s.toks+1 }) X I c.xi c.ga c.na ?_))));unfold Builtin.«object.__getattribute__»;refine wpAny_bind (wpAny_pure (wpAny_bind (wpAny_pure (wpAny_bind (I.type.here (s:={ s with toks:=s.toks+1 }) (wpAny_bind (L1.here (s:={ s with toks:=s.toks+1 }) ?_)))))));show wpAny _ _ (holding [.builtin "object.__class__"] (call (.builtin "getset_descriptor.__get__") [.builtin "object.__class__",.ref x,.ref C]) >>= ret) _ _ _;refine wpAny_bind (wpAny_holding (wpAny_call (PySem.W.class_get (s:={ s with toks:=s.toks+1 }) (ox:=ox) (od:=od) X I (qhY c.xi (by decide +kernel)) ?_)));refine wpAny_pure ?_;exact PySem.W.handed_on rfl (wpAny_pure h)
theorem qeC {cc:Value}{dep:Int}{tk:Tok}{b:Bool}{Q:Fin->Shared->Prop} (X:K.In s.heap) (I:InstAt s.heap x ox C od) (c:XC K C) (hn:specialIn K (.builtin "object.__class__") "__get__"=some (some (.builtin "getset_descriptor.__get__")))
   (htk:takesIn K (.builtin "object.__class__")=some true)
   (hty:Looks (model prog w) s.heap (typeOf cc) (.type "type")) (his:Looks (model prog w) s.heap (isType cc) true)
   (hne:(Value.ref C == cc)=true->b=true) (hsub:Looks (model prog w) s.heap (isSubtype (.ref C) cc) b) (h:∀ t,Q (.done (.ret (.bool b))) { s with toks:=t }) :
   wpAny (model prog w) A (Builtin.«isinstance.nested» ⟨[.ref x,cc,.int dep tk],[]⟩) Q E s:=by
 obtain⟨cd,bm,hcd,hmro,hxt,hdict⟩:=xcd c.xi
 have hisD:Looks (model prog w) s.heap (isType (.ref C)) true:=by
   unfold clsIn at hcd;split at hcd
   · rename_i c' d' cd' sl' ho
     intro A' Q' E' s' k q;unfold isType loadHead;exact wpAny_bind (wpAny_loadPart (k _ _ (X _ _ ho)) (wpAny_pure q))
   · cases hcd
 obtain⟨h0,g,d,tt,os⟩:=s;have L0:=I.type (M:=model prog w);have LI:Looks (model prog w) h0 (isInstance (.ref x) cc) b:=L0.andThen hsub;unfold Builtin.«isinstance.nested»;refine wpAny_bind (L0.at ?_);by_cases hq:(Value.ref C == cc)=true
 · rw[if_pos hq];have hb:=hne hq;subst hb;exact wpAny_pure (M:=model prog w) (E:=E) (h tt)
 rw[if_neg hq];refine wpAny_bind (hty.at ?_);rw[if_pos (by decide)]
 k_delta "plainIsInstance"
 refine wpAny_bind (wpAny_bind (his.at ?_));simp only[Bool.not_true,Bool.false_eq_true,if_false];refine wpAny_bind (LI.at ?_)
 cases b with
 | true =>
   simp only[if_true]
   first
     | exact wpAny_pure (h tt)
     | exact wpAny_pure (wpAny_pure (h tt))
     | exact wpAny_bind (wpAny_pure (wpAny_pure (h tt)))
 | false =>
   simp only[Bool.false_eq_true,if_false];refine wpAny_bind (qf3 X I c hn htk ?_);refine wpAny_bind (hisD.at ?_);simp only[Bool.not_true,Bool.false_eq_true,if_false];refine wpAny_bind (wpAny_rule ?_);refine hsub.at ?_
   first
     | exact wpAny_pure (h _)
     | exact wpAny_pure (wpAny_pure (h _))
     | exact wpAny_bind (wpAny_pure (wpAny_pure (h _)))
theorem qgR {cc:Value}{b:Bool}{Q:Value->Shared->Prop} (X:K.In s.heap) (I:InstAt s.heap x ox C od) (c:XC K C) (hn:specialIn K (.builtin "object.__class__") "__get__"=some (some (.builtin "getset_descriptor.__get__")))
   (htk:takesIn K (.builtin "object.__class__")=some true)
   (hty:∀ (M:Model) h',K.In h'->Looks M h' (typeOf cc) (.type "type")) (his:∀ (M:Model) h',K.In h'->Looks M h' (isType cc) true)
   (hne:(Value.ref C == cc)=true->b=true) (hsub:∀ (M:Model) h',K.In h'->Looks M h' (isSubtype (.ref C) cc) b) (h:∀ t,Q (.bool b) { s with toks:=t }) :
   wpAny (model prog w) A (call (.builtin "isinstance") [.ref x,cc]) Q E s :=
 call_isinstance (S:=fun _ R s=>(K.In s.heap∧InstAt s.heap x ox C od)∧∀ t,R (.ok (.ret (.bool b))) { s with toks:=t })
   (fun _ _ _ _ _ hs=>isinstance_outer (qeC hs.1.1 hs.1.2 c hn htk (hty _ _ hs.1.1) (his _ _ hs.1.1) hne (hsub _ _ hs.1.1) hs.2) (by intro q;cases q)) ⟨⟨X,I⟩,h⟩
end
section
variable {X:Cx}{pins:List (Addr×Obj)}{σ:St}{H:Hp}{s:Shared}{h':Heap}
theorem Inv.two {x a:Addr}{o1 o2:HO}{t':Nat} (I:Inv X pins σ H s) (mu:Mut (H x)) (hp:s.heap.objs.size≤a) (k:∀ b u,b≠x->s.heap.get? b=some u->h'.get? b=some u) (hx:∃ u,h'.get? x=some u)
   (n1:ObjOk X.prog X.w (upd (upd H x o1) a o2) h' x o1) (n2:ObjOk X.prog X.w (upd (upd H x o1) a o2) h' a o2):Inv X pins σ (upd (upd H x o1) a o2) { s with heap:=h',toks:=t' }:=by
 have ha:H a=none:=I.hok.fresh hp;have ne:∀ b,H b=none->b≠x:=fun b n z=>by subst z;rw[n]at mu;exact mu
 have nm:∀ b u,H b=some u->¬ Mut (some u)->b≠x:=fun b u q n z=>by subst z;rw[q]at mu;exact n mu
 have old:∀ b u,H b=some u->¬ Mut (some u)->upd (upd H x o1) a o2 b=some u:=fun b u q n=>by rw[qi (qk q ha),qi (nm b u q n)];exact q
 refine I.un ⟨fun b u e n _ _=>k b u (ne b n) e,fun b u e n _ _=>⟨u.slots,k b u (ne b n) e⟩,fun b u e n _=>?_,fun b u e _=>?_,fun b xs e=>old b _ e fun z=>z,fun b o u e=>old b _ e fun z=>z,fun b ps e=>⟨#[],by rw[old b _ e fun z=>z];simp⟩⟩ fun b u e=>?_
 · rw[qi (Nat.ne_of_lt (Nat.lt_of_lt_of_le (Heap.lt_size e) hp)),qi (ne b n)];exact n
 · by_cases z:b=x
   · subst z;exact hx
   · exact⟨u,k b u z e⟩
 · by_cases z:b=a
   · subst z;rw[qe]at e;cases e;exact n2
   · rw[qi z]at e;by_cases z2:b=x
     · subst z2;rw[qe]at e;cases e;exact n1
     · rw[qi z2]at e;refine(I.hok b u e).stay (fun c v hc q=>?_) (fun c q=>old c _ q fun z=>z) fun c xs q=>old c _ q fun z=>z;rcases hc with hc|hc
       · subst hc;exact k c v z2 q
       · exact k c v (nm c _ hc fun z=>z) q
end
section
variable {X:Cx}{o e value:Expr}{es:List Expr}{f x:Str}{p apos pos pos' tpos:Pos}{ta tv:TE}{t:TA}{C fa:Addr}
structure XMk (K:Frag) (C f:Addr):Prop where
 c:XC K C
 init:findIn K (.ref C) "__init__"=some (some (.ref f))
 fn:isFn K (.ref f)=true
 kp:keepIn K (.ref C)=true
def qgW (C:Addr) (sp:Sp) (t:TA):TE:=fun σ H Q=>t σ H fun vs H1=>vs.length≤10∧∀ ea,H1 ea=none ->
 sp (.ref ea::vs) (upd H1 ea (.ext (ExO ea C none .none))) (fun v H2=>v=.non∧Q (.ref ea) H2) E0
theorem qdv {k:Nat}{fd:FuncData}{ps:List Str}{sp:Sp}{pins:List (Addr×Obj)}{σ:St}{H:Hp}{s:Shared}{Q:VK}{us:List Value}{vs:List V} (M:XMk X.K C fa) (F:qB X.prog X.w X.K X.mg X.base CX0 k fa fd ps sp)
   (hr:Room (k+1) X.A) (hb:Binds X.K fd ps []) (I:Inv X pins σ H s) (r:Vals vs us) (hl10:vs.length≤10)
   (h:∀ ea,H ea=none->sp (.ref ea::vs) (upd H ea (.ext (ExO ea C none .none))) (fun v H2=>v=.non∧Q (.ref ea) H2) E0) :
   wpAny (model X.prog X.w) X.A (call (.ref C) us) (EP X pins σ Q) X.xe s:=by
 have hq:=h (s.heap.objs.size+1) (I.hok.fresh (Nat.le_succ _));have hul:us.length≤sizeLine:=by rw[← r.length,sizeLine_eq];omega
 have kp:∀ b o,s.heap.get? b=some o->((s.heap.push { cls:=.type "tuple",data:=.seq us.toArray }).push (Zr C s.heap.objs.size)).get? b=some o:=fun b o e=>Heap.get?_push_of_some _ (Heap.get?_push_of_some _ e);have hget:((s.heap.push { cls:=.type "tuple",data:=.seq us.toArray }).push (Zr C s.heap.objs.size)).get? (s.heap.objs.size+1)=some (Zr C s.heap.objs.size):=by heap_get
 have I2:Inv X pins σ (upd H (s.heap.objs.size+1) (.ext (ExO (s.heap.objs.size+1) C none .none))) { s with heap:=(s.heap.push { cls:=.type "tuple",data:=.seq us.toArray }).push (Zr C s.heap.objs.size) } :=
   I.laid (t':=s.toks) kp (Nat.le_succ _) (qcA ⟨_,_,hget,rfl,rfl,rfl,rfl,rfl,rfl⟩)
 have r2:Vals (V.ref (s.heap.objs.size+1)::vs) (Value.ref (s.heap.objs.size+1)::us):=.cons rfl r
 have hl:(Value.ref (s.heap.objs.size+1)::us++[]).length=ps.length:=by
   have e:=r2.length;rw[F.len _ _ _ _ hq]at e;rw[List.append_nil];exact e.symm
 obtain⟨hp,g,d,tk,os⟩:=s
 refine qgQ I.kIn M.c.xi M.init (beq_iff_eq.mp M.fn) (wpAny_call (codeAny_mono (F.run _ X.stack _ _ ⟨Value.ref (hp.objs.size+1)::us,[]⟩ (Value.ref (hp.objs.size+1)::us) _ _ E0 (hr.make C us [])
   (I2.env0.make C us []) (by have:=hb _ (Value.ref (hp.objs.size+1)::us) I2.kIn hl;rw[List.append_nil]at this;exact this) r2 hq) fun r s' hq'=>?_)) hul
 cases r with
 | error e=>exact False.elim hq'
 | ok fl =>
   cases fl with
   | ret u =>
     obtain⟨v,H',I3,rv,ev,q3⟩:=I2.after hq';subst ev;exact⟨rv,⟨V.ref (hp.objs.size+1),H',I3,rfl,q3⟩⟩
   | next=>exact False.elim hq'
   | brk=>exact False.elim hq'
   | cont=>exact False.elim hq'
theorem qeU {k:Nat}{fd:FuncData}{ps:List Str}{sp:Sp} (M:XMk X.K C fa) (F:qB X.prog X.w X.K X.mg X.base CX0 k fa fd ps sp) (hr:Room (k+1) X.A) (hg:Gl X x) (hm:X.mg x=some (.ref C)) (hb:Binds X.K fd ps [])
   (ha:PA X (e::es) t) (hdb:(x == ("__debug__":Str))=false:=by decide) (he:starEach (e::es) X.env=(false,eval e X.env)::starEach es X.env:=by rfl) (hpl:(backTo pos (starEach es X.env)).any (·.1)=false:=by rfl) :
   PE X (.Call (.Name x p) (e::es) [] pos) (qgW C sp t):=by
 intro pins s σ H Q I h;refine wpAny_Call_Name_kw (QU I hg hm ?_ hdb);refine callWith_K (h₀:=X.base) I.ok.mod.kin M.kp (thn (ha pos pins s σ H _ I h) fun us s1 ⟨vs,H1,I1,r,q⟩=>⟨I1.kIn,?_⟩) he hpl;exact qdv M F hr hb I1 r q.1 q.2
inductive qb7 (K:Frag) (E:XK) (x:V) (H1:Hp):Prop
 | mk (ea C dx:_) (h1:x=.ref ea) (h2:xIn K C=true) (h3:H1 ea=some (.ext (ExO ea C dx .none))) (h4:Sure E C ea dx H1):qb7 K E x H1
def qgZ (K:Frag) (E:XK) (te:TE):TS:=fun _ σ H=>te σ H fun x H1=>qb7 K E x H1
theorem qeQ {E:XK}{te:TE} (th:qf1 X E) (hc:X.calm=true) (he:PE X e te):PS X (.Raise (some e) none pos) (qgZ X.K E te):=by
 intro pins s σ H D I h;rw[arm_exec_Raise];refine wpAny_bind (wpAny_standAt ?_);simp only[evalOpt,Option.map];refine qf2 (I.ok.hd hc) (wpAny_bind (thn (he pins s σ H _ I h) fun u s1 ⟨x,H1,I1,rx,ea,C,dx,ex,xi,e1,sr⟩=>wpAny_bind (wpAny_standAt (wpAny_pure ?_))));subst ex;obtain rfl:u=Value.ref ea:=rx;obtain⟨⟨oe,vs,hx,hcl,hdx,hd,hz,h1,hx2⟩,_,_⟩:=(show ObjOk X.prog X.w H1 s1.heap ea (.ext (ExO ea C dx .none)) from I1.hok ea _ e1)
 exact⟨ea,C,oe,vs,X.K,rfl,I1.kIn,xi,hx,hcl,hd,h1,th pins σ H1 s1 ea C dx I1 ⟨.none,e1,.inl rfl⟩ sr⟩
inductive qb6 (K:Frag) (Q:VK) (vs:List V) (H1:Hp):Prop
 | mk (ea C dx tb rest:_) (h1:vs=.ref ea::rest) (h2:rest.length≤10) (h3:H1 ea=some (.ext (ExO ea C dx tb))) (h4:xIn K C=true) (h5:Q .non H1):qb6 K Q vs H1
def qgX (K:Frag) (t:TA):TE:=fun σ H Q=>t σ H fun vs H1=>qb6 K Q vs H1
theorem qeF {H:Hp}{a:Addr}{o:HO} (h:H a=some o):upd H a o=H:=by
 funext b;unfold upd;split
 · rename_i e;rw[e,h]
 · rfl
theorem qda:findCls [] (.type "ValueError") (.type "type") "__init__"=some (.val (.builtin "ValueError.__init__")):=by kernel_rfl
theorem qeV {pl:Sem Bool} (hg:Gl X x) (hm:X.mg x=none) (hv:bootBuiltins x=some (.type "ValueError")) (ha:PA X (e::es) t) (hn:x≠"__name__":=by decide) (hdb:(x == ("__debug__":Str))=false:=by decide)
   (hst:starEach (e::es) X.env=(false,eval e X.env)::starEach es X.env:=by rfl) (hpl:(backTo pos (starEach es X.env)).any (·.1)=false:=by rfl)
   (ht:eval (.Call (.Attribute (.Name x p) "__init__" apos) (e::es) [] pos) X.env=(do
     let ov ← eval (.Name x p) X.env
     standAt apos.atName
     let (f,first) ← holding [ov] (getMethod ov "__init__" pl)
     callWith pos f first (backTo pos (starEach (e::es) X.env)) (backToKw pos (keywordEach [] X.env))):=by rfl) :
   PE X (.Call (.Attribute (.Name x p) "__init__" apos) (e::es) [] pos) (qgX X.K t):=by
 intro pins s σ H Q I h;refine PySem.W.methodCall_KW (pl:=pl) (qal I hg hm hv ?_ hn hdb) ht;obtain⟨m,F⟩:=I.fr;refine PySem.W.method_type (v:=.builtin "ValueError.__init__") F I.mod.kin (by kernel_rfl) (by decide +kernel) qda rfl ?_;have I0:=I.tok (s.toks+1);refine PyProof.Rows.callWith_builtin1 (thn (ha pos pins _ σ H _ I0 h) fun us s1 zz_=>?_) hst hpl;obtain⟨vs,H1,I1,r,ea,C,dx,tb,rest,ev,hl,e1,xi,q⟩:=zz_;subst ev
 obtain⟨u0,us0,rfl,r0,r1⟩:∃ u0 us0,us=u0::us0∧RelV (.ref ea) u0∧Vals rest us0:=by
   cases r with
   | cons a b=>exact⟨_,_,rfl,a,b⟩
 obtain rfl:u0=Value.ref ea:=r0;obtain⟨⟨oe,vs,hx,hcl,hdx,hd,hz,h1,hx2⟩,_,_⟩:=(show ObjOk X.prog X.w H1 s1.heap ea (.ext (ExO ea C dx tb)) from I1.hok ea _ e1)
 refine qf4 I1.kIn xi hx hcl hd hz (by rw[← r1.length,sizeLine_eq];omega) fun h' tp k1 k2=>⟨.non,H1,?_,rfl,q⟩
 have J:Inv X pins σ (upd H1 ea (.ext (ExO ea C dx tb))) { s1 with heap:=h',toks:=s1.toks }:=by
   refine I1.write (x:=ea) (e:=ea) (by rw[e1];exact True.intro) (.inl rfl) k1 ⟨_,k2⟩ (qcA ⟨_,_,k2,(Obj.cls_mapFields _ _).trans hcl,?_,Obj.data_mapFields hd _,by simp[hz],?_,?_⟩)
   · rw[← hdx];obtain⟨oc,od,odt,osl⟩:=oe;have hd':odt=.fields vs:=hd;subst hd';rfl
   · rw[Array.getElem?_setIfInBounds_ne (by decide)];exact h1
   · rw[Array.getElem?_setIfInBounds_ne (by decide)];exact hx2
 rw[qeF e1]at J;exact J
structure qez (K:Frag) (C f:Addr):Prop where
 sp:specialIn K (.ref C) "__getattribute__"=some (some (.builtin "type.__getattribute__"))
 rd:PySem.W.readsIn K C (.type "type")=true
 at_:findCls K (.ref C) (.type "type") "__init__"=some (.val (.ref f))
 kp:keepIn K (.ref f)=true
theorem Qj {k:Nat}{fd:FuncData}{ps:List Str}{sp:Sp}{pl:Sem Bool} (c:qez X.K C fa) (F:qB X.prog X.w X.K X.mg X.base CX0 k fa fd ps sp) (hr:Room k X.A) (hb:Binds X.K fd ps []) (hg:Gl X x) (hm:X.mg x=some (.ref C))
   (ha:PA X (e::es) t) (hdb:(x == ("__debug__":Str))=false:=by decide)
   (hst:starEach (e::es) X.env=(false,eval e X.env)::starEach es X.env:=by rfl) (hpl:(backTo pos (starEach es X.env)).any (·.1)=false:=by rfl)
   (ht:eval (.Call (.Attribute (.Name x p) "__init__" apos) (e::es) [] pos) X.env=(do
     let ov ← eval (.Name x p) X.env
     standAt apos.atName
     let (f,first) ← holding [ov] (getMethod ov "__init__" pl)
     callWith pos f first (backTo pos (starEach (e::es) X.env)) (backToKw pos (keywordEach [] X.env))):=by rfl) :
   PE X (.Call (.Attribute (.Name x p) "__init__" apos) (e::es) [] pos) (qgb sp [] E0 t):=by
 intro pins s σ H Q I h;refine PySem.W.methodCall_KW (pl:=pl) (QU I hg hm ?_ hdb) ht;refine PySem.W.method_cls I.kIn c.sp (PySem.W.cls_value I.kIn c.rd c.at_ rfl ?_);have I0:=I.tok (s.toks+1);refine callWith_K (h₀:=X.base) I.ok.mod.kin c.kp (thn (ha pos pins _ σ H _ I0 h) fun us s1 ⟨vs,H1,I1,r,q⟩=>⟨I1.kIn,?_⟩) hst hpl;exact qbl F hr hb .nil qv I1 r q
def qin (K:Frag) (ta tv:TE) (f:Str):TS:=fun D σ H=>tv σ H fun y H1=>ta σ H1 fun x H2=>∃ ea C tb,x=.ref ea∧H2 ea=some (.ext (ExO ea C none tb))∧XC K C∧NoAttr K C f ∧
 ∀ dx,H2 dx=none->dx≠ea->D.nx σ (upd (upd H2 ea (.ext (ExO ea C (some dx) tb))) dx (.xd [(f,y)]))
theorem qgn (ha:PE X o ta) (hv:PE X value tv) (hs:swapsWith value (some (.Attribute o f pos')) pos.line X.env=pure false):PS X (.Assign [.Attribute o f pos'] value pos) (qin X.K ta tv f):=by
 intro pins s σ H D I h;refine plainObj_wpAny_Assign_Attribute (thn (hv pins s σ H _ I h) fun u s1 ⟨y,H1,I1,ry,q⟩=>thn (ha pins s1 σ H1 _ I1 q) fun ov s2 zz_=>?_) hs;obtain⟨x,H2,I2,rx,ea,C,tb,ex,e1,c,n,q2⟩:=zz_;subst ex;obtain rfl:ov=Value.ref ea:=rx;obtain⟨⟨oe,vs,hx,hcl,hdx,hd,hz,h1,hx2⟩,_,_⟩:=(show ObjOk X.prog X.w H2 s2.heap ea (.ext (ExO ea C none tb)) from I2.hok ea _ e1)
 refine qh7 I2.kIn c.xi hx hcl hd hdx c.sa n fun h' dx hp k1 k2 k3=>⟨σ,_,?_,q2 dx (I2.hok.fresh hp) (Nat.ne_of_gt (Nat.lt_of_lt_of_le (Heap.lt_size hx) hp))⟩
 refine I2.two (by rw[e1];exact True.intro) hp k3 ⟨_,k1⟩ (qcA ⟨_,_,k1,hcl,rfl,hd,hz,h1,hx2⟩) ⟨_,k2,fun g=>?_⟩;by_cases z:g=f
 · subst z;simp[List.lookup];exact ry
 · have:(g == f)=false:=by simp[z]
   simp[List.lookup,this,z];exact True.intro
inductive qdi (K:Frag) (f:Str) (Q:VK) (x:V) (H1:Hp):Prop
 | mk (ea C dx fs v:_) (h1:x=.ref ea) (h2:XAt H1 ea C (some dx)) (h3:H1 dx=some (.xd fs)) (h4:XC K C) (h5:NoAttr K C f) (h6:fs.lookup f=some v) (h7:Q v H1):qdi K f Q x H1
def qf8 (K:Frag) (ta:TE) (f:Str):TE:=fun σ H Q=>ta σ H fun x H1=>qdi K f Q x H1
theorem qfo {pins:List (Addr×Obj)}{σ:St}{H:Hp}{s:Shared}{ea C dx:Addr}{fs:List (Str×V)} (I:Inv X pins σ H s) (x:XAt H ea C (some dx)) (hd:H dx=some (.xd fs)) :
   ∃ (ox od:Obj) (mA:Str->Option Value),InstAt s.heap ea ox C (some od)∧(∀ name,PySem.W.lookIn name od=some (mA name))∧∀ f,RelO (fs.lookup f) (mA f):=by
 obtain⟨tb,e1,_⟩:=x;obtain⟨⟨oe,vs,hx,hcl,hdx,hdt,hz,h1,hx2⟩,_,_⟩:=(show ObjOk X.prog X.w H s.heap ea (.ext (ExO ea C (some dx) tb)) from I.hok ea _ e1)
 obtain⟨mA,n,r⟩:=(show ObjOk X.prog X.w H s.heap dx (.xd fs) from I.hok dx _ hd)
 obtain⟨od,ho,hl⟩:=qbs n;exact⟨oe,od,mA,⟨hx,hcl,by unfold notCls;rw[hdt],by rw[hdx];exact ho⟩,hl,r⟩
theorem qdF (he:PE X e ta) (hb:attributeBase e f X.env (eval e X.env)=eval e X.env):PE X (.Attribute e f pos) (qf8 X.K ta f):=by
 intro pins s σ H Q I h;refine qev hb (thn (he pins s σ H _ I h) fun u s1 zz_=>?_);obtain⟨x,H1,I1,rx,ea,C,dx,fs,v,ex,xa,hd,c,n,l,q⟩:=zz_;subst ex;obtain rfl:u=Value.ref ea:=rx;obtain⟨ox,od,mA,J,hl,r⟩:=qfo I1 xa hd;obtain⟨uv,hu,ru⟩:=RelO.some_of (v:=v) (o:=mA f) (by rw[← l];exact r f)
 have hh:hasDictIn X.K C=true:=by
   obtain⟨cd,bm,hcd,_,_,hdict⟩:=xcd c.xi;unfold hasDictIn;rw[hcd];exact hdict
 exact qh9 I1.kIn J c.xi c.ga c.na (PySem.W.findObj_own hh n rfl (by rw[hl,hu])) (qbu ru) ⟨v,H1,I1.tok _,ru,q⟩
def qeE (K:Frag) (C:Addr):V->Option Bool
 | .ref D=>if (clsIn K D).isSome && typeIn K (.ref D) == some (.type "type") then subIn K (.ref C) (.ref D) else none
 | .ty T=>if T == "ValueError" then some true else none
 | _=>none
inductive qfy (K:Frag) (xs:List V) (H:Hp) (Q:VK):Prop
 | mk (ea C dx fs c b:_) (h1:xs=[.ref ea,c]) (h2:XAt H ea C (some dx)) (h3:H dx=some (.xd fs)) (h4:XC K C) (h5:qeE K C c=some b) (h6:Q (.bl b) H):qfy K xs H Q
def qi4 (K:Frag):List V->Hp->VK->Prop:=fun xs H Q=>qfy K xs H Q
theorem qfl:Z3 X (.builtin "isinstance") (qi4 X.K):=by
 intro pins s σ H xs us Q I r h;obtain⟨ea,C,dx,fs,c,b,rfl,xa,hd,xc,hi,q⟩:=h;obtain⟨u,w',rfl,ru,rw'⟩:=qdb r;cases (show u=Value.ref ea from ru);obtain⟨ox,od,mA,J,hl,_⟩:=qfo I xa hd
 cases c with
 | ref D =>
   cases (show w'=Value.ref D from rw');simp only[qeE]at hi;split at hi
   · rename_i hq
     simp only[Bool.and_eq_true,beq_iff_eq]at hq;obtain⟨q1,q2⟩:=hq;refine qgR I.kIn J xc xc.gt xc.tk (b:=b) (fun _ h' X'=>PySem.W.looks_typeIn X' q2) (fun _ h' X'=>?_) (fun z=>?_) (fun _ h' X'=>PySem.W.looks_subIn X' hi) fun t=>⟨.bl b,H,I.tok t,rfl,q⟩
     · unfold clsIn at q1;split at q1
       · rename_i c' d' cd' sl' ho
         intro A' Q' E' s' k q;unfold isType loadHead;exact wpAny_bind (wpAny_loadPart (k _ _ (X' _ _ ho)) (wpAny_pure q))
       · cases q1
     · have z':C=D:=Value.ref.inj (beq_iff_eq.mp z);subst z';obtain⟨cd,bm,hcd,hmro,_,_⟩:=xcd xc.xi
       have e2:mroIn X.K C (.ref C)=some true:=by
         unfold mroIn;rw[hcd,Option.bind_some,hmro,if_neg (by simp)];simp
       have e3:subIn X.K (.ref C) (.ref C)=some true:=e2;rw[e3]at hi;exact(Option.some.inj hi).symm
   · cases hi
 | ty T =>
   cases (show w'=Value.type T from rw');simp only[qeE]at hi;split at hi
   · rename_i hq
     rw[beq_iff_eq]at hq;subst hq;cases hi;refine qgR I.kIn J xc xc.gt xc.tk (b:=true) (fun _ h' X'=>Looks.of_pure (by kernel_rfl)) (fun _ h' X'=>Looks.of_pure rfl) (fun _=>rfl) (fun _ h' X'=>looks_mroIn X' (qhY xc.xi (by decide +kernel))) fun t=>⟨.bl true,H,I.tok t,rfl,q⟩
   · cases hi
 | non=>cases hi
 | bl _=>cases hi
 | int _=>cases hi
 | str _=>cases hi
 | byt _=>cases hi
 | flt _=>cases hi
end
abbrev qgK (X:Cx):Cx:={ X with xe:=fun _ _=>False }
abbrev qe3 (X:Cx) (ea:Addr):Cx:={ X with A:=X.A.mark (some (.ref ea)),calm:=false,xe:=fun _ _=>False }
section
variable {X:Cx}{pins:List (Addr×Obj)}{σ:St}{H:Hp}{s:Shared}
theorem Inv.dead (I:Inv X pins σ H s):Inv (qgK X) pins σ H s:=by
 obtain⟨⟨a1,a2,a3,a4,a5,a6,a7,a8,a9,a10,a11,a12,a13,a14,a15,a16,a17,a18⟩,b1,b2,b3,b4,b5,b6,b7,b8,b9,b10⟩:=I;exact⟨⟨a1,a2,a3,a4,a5,a6,a7,a8,a9,a10,a11,a12,a13,a14,a15,a16,a17,a18⟩,b1,b2,b3,b4,b5,b6,b7,b8,b9,b10⟩
theorem Inv.live (I:Inv (qgK X) pins σ H s):Inv X pins σ H s:=by
 obtain⟨⟨a1,a2,a3,a4,a5,a6,a7,a8,a9,a10,a11,a12,a13,a14,a15,a16,a17,a18⟩,b1,b2,b3,b4,b5,b6,b7,b8,b9,b10⟩:=I;exact⟨⟨a1,a2,a3,a4,a5,a6,a7,a8,a9,a10,a11,a12,a13,a14,a15,a16,a17,a18⟩,b1,b2,b3,b4,b5,b6,b7,b8,b9,b10⟩
theorem Inv.mark (I:Inv X pins σ H s) (ea:Addr):Inv (qe3 X ea) pins σ H s:=by
 obtain⟨⟨a1,a2,a3,a4,a5,a6,a7,a8,a9,a10,a11,a12,a13,a14,a15,a16,a17,a18⟩,b1,b2,b3,b4,b5,b6,b7,b8,b9,b10⟩:=I;exact⟨⟨a1,a2,a3,a4,a5,a6,a7,a8,fun z=>(nomatch z),a10,a11,a12,a13,a14,a15,a16,a17,a18⟩,b1,b2,b3,b4,b5,b6,b7,b8,b9,b10⟩
theorem Inv.unmark {ea:Addr}{A0:Prop} (k:X.Ok) (I:Inv (qe3 X ea) pins σ H s):Inv X pins σ H s:=by
 obtain⟨_,b1,b2,b3,b4,b5,b6,b7,b8,b9,b10⟩:=I;exact⟨k,b1,b2,b3,b4,b5,b6,b7,b8,b9,b10⟩
theorem Inv.lose {h':Heap}{m':Str->Option Value}{t':Nat} (I:Inv X pins σ H s) (hn:h'.Ns X.env.locals m') (hs:Heap.SameBut X.env.locals s.heap h'):Inv X pins (List.replicate X.N.length none) H { s with heap:=h',toks:=t' }:=by
 have neL:∀ b o,X.s₀.heap.get? b=some o->b≠X.env.locals:=fun b o e=>Nat.ne_of_lt (Nat.lt_of_lt_of_le (Heap.lt_size e) I.ok.above);have up:∀ b o,b≠X.env.locals->s.heap.get? b=some o->h'.get? b=some o:=fun b o hb e=>(hs.2 b hb).trans e
 refine⟨I.ok,I.os,I.bare,⟨fun b o e n hb hx=>up b o (neL b o e) (I.base.keep b o e n hb hx),fun b o e n hb hx=>?_,I.base.free,fun b o e hx=>?_,I.base.tups,I.base.frzs,I.base.tbls⟩,
   ⟨m',hn,fun i x v _ e2 _=>?_⟩,fun x c e=>?_,I.free,I.freeC,fun p hp=>?_,fun b u e=>?_,by simp⟩
 · obtain⟨sl,q⟩:=I.base.slot b o e n hb hx;exact⟨sl,up b _ (neL b o e) q⟩
 · obtain⟨o',q⟩:=I.base.there b o e hx;exact⟨o',up b _ (neL b o e) q⟩
 · rw[List.getElem?_replicate]at e2;split at e2<;>cases e2
 · obtain⟨v,o,ho,hd⟩:=I.cell x c e;exact⟨v,o,up c o (I.cne x c e) ho,hd⟩
 · obtain⟨e,n,ne,nf,d⟩:=I.pin p hp;exact⟨up p.1 p.2 ne e,n,ne,nf,d⟩
 · refine(I.hok b u e).stay (fun c v hc q=>up c v (fun z=>?_) q) (fun _ q=>q) fun _ _ q=>q;rcases hc with hc|hc
   · rw[← hc,z,I.free]at e;cases e
   · rw[z,I.free]at hc;cases hc
end
section
variable {M:Model}{A:Around}{E:Value->Shared->Prop}{s:Shared}
theorem qc8 {K:Frag}{C L x:Addr}{ox:Obj}{Q:Bool->Shared->Prop} (X:K.In s.heap) (xc:xIn K C=true) (xl:xIn K L=true) (hm:mroIn K C (.ref L)=some true) (hx:s.heap.get? x=some ox) (hc:ox.cls=.ref C)
   (h:Q true s):wpAny M A (excMatches (.ref x) (.ref L)) Q E s:=by
 obtain⟨hp,g,d,tk,os⟩:=s;obtain⟨nm,qn,N,bs,bm,sn,sub,ab,col,dd,k0,k1,k2,k3,k5,hC,hxt⟩:=qhZ X xl;have hcB:(Value.ref L::bm).contains (.type "BaseException")=true:=by rw[List.contains_cons,zy (v:=true) (by decide +kernel) hxt,Bool.or_true]
 have f:=tc_notTuple;have LL:=looks_mroIn (M:=M) X hm;unfold excMatches
 repeat (first
   | (with_reducible refine wpAny_loadPart_at hx ?_;rw[hc])
   | with_reducible refine wpAny_loadPart_at hC ?_
   | (with_reducible refine wpAny_isSubtype_exc hC ?_;rw[hcB])
   | (with_reducible refine LL.at ?_)
   | wp_step)
 exact h
end
abbrev XTE:=St->Hp->VK->XK->Prop
abbrev XTS:=qc5->XK->St->Hp->Prop
def qiO (X:Cx) (pins:List (Addr×Obj)) (σ:St) (E:XK) (Ex:Value->Shared->Prop):Prop :=
 ∀ (ea C:Addr) (dx:Option Addr) (H':Hp) (s':Shared),Inv X pins σ H' s'->XAt H' ea C dx->Sure E C ea dx H'->Ex (.ref ea) s'
def PEX (X:Cx) (e:Expr) (t:XTE):Prop :=
 ∀ (pins:List (Addr×Obj)) (s:Shared) (σ:St) (H:Hp) (Q:VK) (E:XK) (Ex:Value->Shared->Prop),Inv X pins σ H s->t σ H Q E->qiO X pins σ E Ex->wpAny (model X.prog X.w) X.A (eval e X.env) (EP X pins σ Q) Ex s
def PX (X:Cx) (st:List Stmt) (t:XTS):Prop :=
 ∀ (pins:List (Addr×Obj)) (s:Shared) (σ:St) (H:Hp) (D:qc5) (E:XK) (Ex:Value->Shared->Prop),Inv X pins σ H s->t D E σ H->qiO X pins σ E Ex->wpAny (model X.prog X.w) X.A (execs st X.env) (SP X pins D) Ex s
section
variable {X:Cx}{e o c:Expr}{es:List Expr}{a b:List Stmt}{x m:Str}{p pos apos:Pos}{ta:TE}{t:TA}{tc:TT}{f C:Addr}{fd:FuncData}{ps:List Str}{sp:Sp}{k:Nat}
theorem qb1 {α:Type}{u:Sem α}{Q:α->Shared->Prop}{M:Model}{A:Around}{Ex:Value->Shared->Prop}{s:Shared} (h:wpAny M A u Q (fun _ _=>False) s):wpAny M A u Q Ex s:=wpAny_mono h (fun _ _ z=>z) fun _ _ z=>z.elim
theorem qgj {pins:List (Addr×Obj)}{σ:St}{H:Hp}{s:Shared}{Q:VK}{E:XK}{Ex:Value->Shared->Prop}{us:List Value}{vs:List V} (F:qB X.prog X.w X.K X.mg X.base (CX1 X.prog X.w) k f fd ps sp) (hr:Room k X.A) (hb:Binds X.K fd ps [])
   (I:Inv X pins σ H s) (r:Vals vs us) (h:sp vs H Q E) (w:qiO X pins σ E Ex):wpAny (model X.prog X.w) X.A (call (.ref f) us) (EP X pins σ Q) Ex s:=by
 have hl:(us++[]).length=ps.length:=by rw[List.append_nil,← r.length];exact F.len _ _ _ _ h
 have hbb:=hb s us I.kIn hl;rw[List.append_nil]at hbb;refine wpAny_call (codeAny_mono (F.run X.A X.stack s H ⟨us,[]⟩ us vs Q E hr I.env0 hbb r h) fun r s' hq=>?_)
 cases r with
 | error e =>
   obtain⟨ea,C,dx,H',e1,os,bare,un,hok,x,q⟩:=hq;subst e1;exact w ea C dx H' s' (I.call' os un hok bare fun b z=>absurd z (by simp)) x q
 | ok fl =>
   cases fl with
   | ret u=>exact I.after hq
   | next=>exact False.elim hq
   | brk=>exact False.elim hq
   | cont=>exact False.elim hq
def qib (sp:Sp) (t:TA):XTE:=fun σ H Q E=>t σ H fun vs H1=>sp vs H1 Q E
theorem qeS (F:qB X.prog X.w X.K X.mg X.base (CX1 X.prog X.w) k f fd ps sp) (hr:Room k X.A) (hg:Gl X x) (hm:X.mg x=some (.ref f)) (hk:keepIn X.K (.ref f)=true) (hb:Binds X.K fd ps [])
   (ha:PA (qgK X) (e::es) t) (hdb:(x == ("__debug__":Str))=false:=by decide) (he:starEach (e::es) X.env=(false,eval e X.env)::starEach es X.env:=by rfl) (hpl:(backTo pos (starEach es X.env)).any (·.1)=false:=by rfl) :
   PEX X (.Call (.Name x p) (e::es) [] pos) (qib sp t):=by
 intro pins s σ H Q E Ex I h w;refine wpAny_Call_Name_kw (QU I hg hm ?_ hdb);refine callWith_K (h₀:=X.base) I.ok.mod.kin hk (thn (qb1 (ha pos pins s σ H _ I.dead h)) fun us s1 ⟨vs,H1,I1,r,q⟩=>⟨I1.kIn,?_⟩) he hpl;exact qgj F hr hb I1.live r q w
def qia (te:XTE):XTS:=fun D E σ H=>te σ H (fun _ H1=>D.nx σ H1) E
theorem qgl {te:XTE} (he:PEX X e te) (hs:swapsWith e none pos.line X.env=pure false:=by rfl):PX X [.Expr e pos] (qia te):=by
 intro pins s σ H D E Ex I h w;refine wpAny_execs_cons (wpAny_Expr_any (thn (he pins s σ H _ E Ex I h w) fun v s1 zz_=>?_) I.quiet hs);obtain⟨x,H1,I1,r1,q1⟩:=zz_;exact wpAny_execs_nil (show SP X pins D .next s1 from ⟨σ,H1,I1,q1⟩)
def qjk (K:Frag) (LC:Addr) (i:Nat) (tb:XTS) (th:TS):TS:=fun D σ H=>tb D (fun Cv eo H'=>∃ C ea,Cv=.ref C∧eo=some ea∧xIn K C=true∧mroIn K C (.ref LC)=some true ∧
 th { nx:=fun _ _=>False,rt:=D.rt } (σ.set i (some (.ref ea))) H') σ H
theorem qhj {body suite:List Stmt}{b₀:Stmt}{lx n:Str}{np hpos:Pos}{i:Nat}{LC:Addr}{tb:XTS}{th:TS} (hst:X.stack=X.env::X.outer) (hfr:X.env.frame=some X.env.locals)
   (hb:PX X body tb) (hg:Gl X lx) (hm:X.mg lx=some (.ref LC)) (xl:xIn X.K LC=true) (hN:X.N.Nodup) (hi:X.N[i]?=some n) (hx:Loc X.env.scope n) (hloc:X.env.kindOf n=some .local)
   (hh:∀ ea,PSs (qe3 X ea) (b₀::suite) th) (hdb:(lx == ("__debug__":Str))=false:=by decide) (hf:X.fn n=true∨X.env.scope.names.lookup n=some .local:=by first|exact .inl rfl|exact .inr rfl) :
   PS X (.Try body [.ExceptHandler (some (.Name lx np)) (some n) (b₀::suite) hpos] [] [] pos) (qjk X.K LC i tb th):=by
 intro pins s σ H D I h;refine wpAny_Try_except ?_;refine wpAny_mono (hb pins s σ H D _ (fun e s₁=>wpAny (model X.prog X.w) X.A (noteFrame e X.env) (fun _ s₂=>wpAny (model X.prog X.w) X.A (setFlight e none) (fun _ s₃=>wpAny (model X.prog X.w) X.A (handleBy e X.env [.ExceptHandler (some (.Name lx np)) (some n) (b₀::suite) hpos]) (SP X pins D) X.xe s₃) X.xe s₂) X.xe s₁) I h ?_)
   (fun f s1 q=>?_) fun e s1 q=>q
 · intro ea C dx H' s' J xa sr;refine qdW J hst hfr J.ok.frames xa fun s2 T hT hne J2=>?_;obtain⟨C1,ea1,e1,e2,xc,hmr,q⟩:=sr _ (fun b o hb e=>Jv hT hb e) (qdY hT hne);cases e1;cases e2;have tb1:Qx H' ea C dx T ea=some (.ext (ExO ea C dx (.ref T))):=by unfold Qx;rw[qi (Ne.symm hne),qe]
   have tb2:Qx H' ea C dx T T=some (.ext (TbO T)):=by unfold Qx;rw[qe]
   obtain⟨⟨oe,vs,hx1,hcl,hdx,hd,hz,h1,hx2⟩,_,_⟩:=(show ObjOk X.prog X.w _ s2.heap ea (.ext (ExO ea C dx (.ref T))) from J2.hok ea _ tb1)
   obtain⟨⟨oT,ts,hT1,hTd,hT3⟩,_,_⟩:=(show ObjOk X.prog X.w _ s2.heap T (.ext (TbO T)) from J2.hok T _ tb2)
   have JM:=J2.mark ea;refine wpAny_handleBy_cons (codeAny_handlers_test (QU (X:=qe3 X ea) JM hg hm ?_ hdb)) (by intro z;cases z);refine qc8 J2.kIn xc xl hmr hx1 hcl ?_;refine codeAny_handlers_suite_as ?_;unfold setFlight;refine wpAny_bind (wpAny_field hx1 hd h1 ?_);rw[if_pos (show (Value.ref T != Value.none)=true from by simp)];refine wpAny_setField hT1 hTd (Array.getElem?_eq_some_iff.mp hT3).1 ?_;rw[show s2.heap.update T (Obj.mapFields (·.setIfInBounds 3 ((none:Option Addr).elim Value.none fun f=>rawInt f)))=s2.heap from Heap.update_setField_same s2.heap T oT ts 3 Value.none hT1 hTd hT3];refine jW (v:=.ref ea) J2 hN hi hx rfl (fun s3 J3=>?_) hf;refine wpAny_mono (hh ea pins s3 _ _ _ (J3.mark ea) q) (fun fl s4 q4=>?_) fun _ _ z=>z.elim
   cases fl with
   | next=>obtain⟨_,_,_,z⟩:=q4;exact z.elim
   | brk=>obtain⟨_,_,_,z⟩:=q4;exact z.elim
   | cont=>obtain⟨_,_,_,z⟩:=q4;exact z.elim
   | ret u =>
     obtain⟨v,σ',H4,J4,rv,z⟩:=q4;have J5:=Inv.unmark (A0:=True) J2.ok J4;obtain⟨m,hn,_⟩:=J5.loc;refine wpAny_nameGoes hloc hn (by rw[J2.ok.kind];rfl) fun h' m' hn' hs'=>?_;exact⟨v,_,H4,J5.lose hn' hs',rv,z⟩
 · cases f with
   | next=>exact wpAny_execs_nil q
   | ret v=>exact q
   | brk=>exact q
   | cont=>exact q
end
def qgD (v:Value):Bool:=match v with
 | .type s=>s == "type"
 | _=>false
def qgE (v:Option Value):Bool:=match v with
 | some (.builtin s)=>s == "ValueError.__new__"
 | _=>false
def qix (C:Addr) (l:List Value):Bool:=match l with
 | .ref C1::bm=>C1 == C && jM bm
 | _=>false
def xOb (C:Addr) (o:Obj):Bool:=match o.data with
 | .cls cd=>qgD o.cls && qix C cd.mro && !cd.hasDel && cd.hasDict && o.slots.size == 6 && qgE (o.slots.getD 4 none)
 | _=>false
theorem qe7 {v:Value} (h:qgD v=true):v=.type "type":=by
 cases v with
 | type s=>rw[eq_of_beq (show (s == "type")=true from h)]
 | _=>cases h
theorem qe8 {v:Option Value} (h:qgE v=true):v=some (.builtin "ValueError.__new__"):=by
 cases v with
 | none=>cases h
 | some v =>
   cases v with
   | builtin s=>rw[eq_of_beq (show (s == "ValueError.__new__")=true from h)]
   | _=>cases h
theorem qgz {C:Addr}{l:List Value} (h:qix C l=true):∃ bm,l=.ref C::bm∧jM bm=true:=by
 cases l with
 | nil=>cases h
 | cons v bm =>
   cases v with
   | ref C1 =>
     have h':(C1 == C && jM bm)=true:=h;rw[Bool.and_eq_true]at h';exact⟨bm,by rw[eq_of_beq h'.1],h'.2⟩
   | _=>cases h
theorem six {α:Type}{l:List α} (h:l.length=6):∃ a b c d e f,l=[a,b,c,d,e,f]:=by
 obtain⟨a,l,rfl⟩:=List.exists_cons_of_length_eq_add_one h;obtain⟨b,l,rfl⟩:=List.exists_cons_of_length_eq_add_one (Nat.succ.inj h);obtain⟨c,l,rfl⟩:=List.exists_cons_of_length_eq_add_one (Nat.succ.inj (Nat.succ.inj h));obtain⟨d,l,rfl⟩:=List.exists_cons_of_length_eq_add_one (Nat.succ.inj (Nat.succ.inj (Nat.succ.inj h)));obtain⟨e,l,rfl⟩:=List.exists_cons_of_length_eq_add_one (Nat.succ.inj (Nat.succ.inj (Nat.succ.inj (Nat.succ.inj h))));obtain⟨f,l,rfl⟩:=List.exists_cons_of_length_eq_add_one (Nat.succ.inj (Nat.succ.inj (Nat.succ.inj (Nat.succ.inj (Nat.succ.inj h)))))
 have:l=[]:=List.eq_nil_of_length_eq_zero (Nat.succ.inj (Nat.succ.inj (Nat.succ.inj (Nat.succ.inj (Nat.succ.inj (Nat.succ.inj h))))))
 subst this;exact⟨a,b,c,d,e,f,rfl⟩
theorem xIn_of {K:Frag}{C:Addr}{o:Obj} (h:K.lookup C=some o) (q:xOb C o=true):xIn K C=true:=by
 obtain⟨oc,dd,od,⟨sl⟩⟩:=o
 cases od with
 | cls cd =>
   have q':(qgD oc && qix C cd.mro && !cd.hasDel && cd.hasDict && sl.length == 6 && qgE ((Array.mk sl).getD 4 none))=true:=q;simp only[Bool.and_eq_true,beq_iff_eq,Bool.not_eq_true']at q';obtain⟨⟨⟨⟨⟨q0,q1⟩,q2⟩,q3⟩,q4⟩,q5⟩:=q';obtain⟨bm,hm,hx⟩:=qgz q1;obtain⟨k0,k1,k2,k3,k4,k5,rfl⟩:=six q4;have e4:k4=some (.builtin "ValueError.__new__"):=qe8 q5;have e0:=qe7 q0;obtain⟨nm,bs,mro,ns,qn,hdc,sn,sub,ab,col,del⟩:=cd;dsimp only at hm q2 q3;subst hm q2 q3 e4 e0;exact xIn_iff.mpr ⟨nm,qn,ns,bs,bm,sn,sub,ab,col,dd,k0,k1,k2,k3,k5,h,hx⟩
 | _=>cases q
theorem xIsa_of {K:Frag}{C D:Addr}{b:Bool} (h1:isClsIn K D=true) (h2:typeIn K (.ref D)=some (.type "type")) (h3:subIn K (.ref C) (.ref D)=some b):qeE K C (.ref D)=some b:=by
 unfold qeE;have h1':(clsIn K D).isSome=true:=h1;simp only[h1',h2,Bool.true_and,beq_self_eq_true,if_true];exact h3
theorem qiL {P:Program}{w:World}{X:Cx}:Z2 (CX1 P w) X E0:=fun _ _ _ _ _ _ _ ⟨_,_,_,H',_,_,_,_,_,x,q⟩=>(q H' (fun _ _ _ e=>e) x).elim
def Rz (C:Addr) (f:Str) (v:V) (H:Hp) (E:XK):Prop:=∀ (ea dx:Addr) (H':Hp),Same H H'->H ea=none->H dx=none->H' dx=some (.xd [(f,v)])->XAt H' ea C (some dx)->E (.ref C) (some ea) H'
theorem Rz.same {C:Addr}{f:Str}{v:V}{H G:Hp}{E:XK} (h:Rz C f v H E) (s:Same H G):Rz C f v G E:=fun ea dx H' s' n1 n2 e x=>h ea dx H' (s.trans s') (s.none n1) (s.none n2) e x
theorem Rz.sure {C:Addr}{f:Str}{v:V}{H:Hp}{E:XK} (h:Rz C f v H E) {ea dx:Addr}{tb:Value} (n1:H ea=none) (n2:H dx=none) (ne:dx≠ea) :
   Sure E C ea (some dx) (upd (upd (upd H ea (.ext (ExO ea C none .none))) ea (.ext (ExO ea C (some dx) tb))) dx (.xd [(f,v)])):=by
 intro H' k x;refine h ea dx H' (fun b o e=>k b o (qk e n1) ?_) n1 n2 (k dx _ ne qe) x;rw[qi (qk e n2),qi (qk e n1),qi (qk e n1)];exact e
section
variable {P:Program}{w:World}{K:Frag}{mg:Str->Option Value}{base:Heap}
theorem Fun.okX {x qual:Str}{st:Stmt}{f:Addr}{fd:FuncData}{N ps:List Str}{k:Nat}{sp:Sp} (F:Fun K x qual st f fd) (S:qr N ps (qh st)) (len:∀ vs H Q E,sp vs H Q E->vs.length=ps.length)
   (hbody:∀ (cdv:Value) (A:Around) (outer:List Env) (s:Shared) (H:Hp) (vs:List V) (Q:VK) (E:XK),Room k (A.deeper (envOfC qual (qh st) s.heap.objs.size f cdv))->sp vs H Q E ->
     ∃ t,PSs (zc (CX1 P w) P w K mg base N qual (qh st) f cdv A outer s H E) (zj st) t∧t { nx:=fun _ H'=>Q .non H',rt:=Q } (JJ N vs) H):qB P w K mg base (CX1 P w) (k+1) f fd ps sp:=by
 obtain⟨oc,od,kV,doc,pm,an,cdv,ct,osl,rfl,lk,hcd⟩:=F.ex;exact qgH lk hcd S len fun A outer s H vs Q E hr hsp=>hbody cdv A outer s H vs Q E hr hsp
end
theorem CompOk.defX {CX:CXT}{P:Program}{w:World}{K:Frag}{mg:Str->Option Value}{base:Heap}{N0:List Str}{qual:Str}{sc0:Scope}{f:Addr}{cd:Value}{A:Around}{outer:List Env}{s:Shared}{H:Hp}{E:XK}{scope:Scope}
   (N:List Str) (js:List (Option Nat)) (hk0:sc0.kind=.function:=by rfl) (hk:scope.kind=.function:=by rfl) (hcell:∀ y∈scope.names,y.2≠.cell:=by decide +kernel) (hnames:∀ y∈scope.names,y.2=.local->scope.names.lookup y.1=some .local:=by decide +kernel)
   (hfr0:∀ y∈scope.names,y.2=.free->sc0.names.lookup y.1=some .cell:=by decide +kernel) (len:js.length=N.length:=by rfl) (hfr:qgG scope N0 N js=true:=by decide +kernel) :
   CompOk (zc CX P w K mg base N0 qual sc0 f cd A outer s H E) scope N (zM (zc CX P w K mg base N0 qual sc0 f cd A outer s H E).env.cells scope.names []) js :=
 CompOk.of hk hcell hnames hk0 (fun y hy z=>⟨hfr0 y hy z,Option.isSome_iff_exists.mp (PySem.W.cellsFrom_some _ _ _ (.inl (hfr0 y hy z)))⟩) len (qcy hfr)
section
variable {prog:Program}{w:World}{A:Around}{E:Value->Shared->Prop}
theorem qcB {j u:Addr}{xs:Array Value} (ne:u≠j):∀ (n k:Nat) (s:Shared) (Q:List Value->Shared->Prop),s.heap.IsListIter j u k->s.heap.IsList u xs->k+n≤xs.size ->
   (∀ h',h'.IsListIter j u (k+n)->Heap.SameBut j s.heap h'->Q ((xs.toList.drop k).take n) { s with heap:=h' })->wpAny (model prog w) A (draw (.ref j) n) Q E s
 | 0,k,s,Q,a,_,_,q=>by
   show wpAny _ _ (pure []) Q E s;exact wpAny_pure (by simpa using q s.heap a (Heap.SameBut.refl ..))
 | n+1,k,s,Q,a,b,le,q=>by
   have lt:k < xs.size:=by omega
   show wpAny _ _ (pyNext (.ref j) >>= _) Q E s;refine wpAny_bind (wpAny_pyNext_list_item a b (x:=xs[k]) (by simp[lt]) fun g1 a1 n1=>wpAny_bind (wpAny_holding ?_));refine qcB ne n (k+1) _ _ a1 (b.extBut n1.extBut ne) (by omega) fun g2 a2 n2=>wpAny_pure ?_;have e:xs.toList.drop k=xs[k]::xs.toList.drop (k+1):=by simp[List.drop_eq_getElem_cons,lt]
   have z:=q g2 (by rw[show k+(n+1)=k+1+n by omega];exact a2) (n1.trans n2);rw[e,List.take_succ_cons]at z;exact z
theorem qcE {s:Shared}{u:Addr}{xs:Array Value}{Q:List Value->Shared->Prop} (hd:A.handled=none) (b:s.heap.IsList u xs)
   (q:∀ h',Heap.ExtBut s.heap.objs.size s.heap h'->Q xs.toList { s with heap:=h' }):wpAny (model prog w) A (unpackItems (.ref u) xs.size none) Q E s:=by
 have ne:u≠s.heap.objs.size:=by obtain⟨o,g,_⟩:=b;exact Nat.ne_of_lt (Heap.lt_size g)
 unfold unpackItems;refine wpAny_bind ?_
 · unfold notIterableAtAll;refine wpAny_bind (wpAny_specialOf b.typeIs slot_list_iter.lookup (wpAny_pure ?_));simp only[Bool.false_eq_true,if_false];refine wpAny_bind (wpAny_holding (wpAny_pyIter_list b (wpAny_bind (wpAny_holding ?_))));refine qcB ne xs.size 0 _ _ ⟨_,Heap.get?_push_size _ rfl,rfl,rfl⟩ (b.push _) (by omega) fun g1 a1 n1=>?_;rw[show List.take xs.size (List.drop 0 xs.toList)=xs.toList by rw[List.drop_zero];exact List.take_of_length_le (by simp),if_neg (by simp)];have b1:g1.IsList u xs:=(b.push _).extBut n1.extBut ne;refine wpAny_bind (wpAny_holding (wpAny_pyNext_list_end hd (by simpa using a1) b1 (by simp) fun g2 n2=>?_));simp only[Option.isSome_none,Bool.false_eq_true,if_false];exact wpAny_pure (q g2 fun c o hc e=>n2 c o hc (n1.extBut c o hc (Heap.get?_push_of_some _ e)))
end
inductive qfQ (K:Frag) (n:Nat) (t:TGs) (v:V) (σ:St) (H:Hp) (Q:(St->Hp->Prop)):Prop
 | mk (a xs:_) (h1:v=.ref a) (h2:SqL K H a xs) (h3:xs.length=n) (h4:t xs σ H Q):qfQ K n t v σ H Q
def qjE (K:Frag) (n:Nat) (t:TGs):TG:=fun v σ H Q=>qfQ K n t v σ H Q
theorem qhl {X:Cx}{pos:Pos}{es:List Expr}{k:Nat}{t:TGs}{n:Nat} (hc:X.calm=true) (h:PGs X es t)
   (hn:(assignEach es X.env).length=n:=by rfl) (hst:(assignEach es X.env).findIdx? (·.1)=none:=by rfl):PG X (.Tuple es k pos) (qjE X.K n t):=by
 intro pins s σ H v u Q I r hw;obtain⟨a,xs,rfl,hq,hl,hw⟩:=hw;cases r;obtain⟨its,rv,pl,hz⟩:=I.list hq;have hsz:(assignEach es X.env).length=its.toArray.size:=by simp[hn,← hl,rv.length]
 rw[assign_Tuple];refine wpAny_bind (wpAny_standAt ?_);unfold unpack;rw[hsz,hst];refine wpAny_bind (wpAny_holding (qcE (I.ok.hd hc) pl.isList fun h' hx=>?_));have I1:Inv X pins σ H { s with heap:=h' }:=I.kept (t':=s.toks) fun b o e=>hx b o (Nat.ne_of_lt (Heap.lt_size e)) e;exact h pins _ σ H xs _ Q I1 (by simpa using rv) hw
theorem qh6 {K:Frag}{C:Addr} (q:xIn K C=true):mroIn K C (.ref C)=some true:=by
 obtain⟨cd,bm,h1,h2,_,_⟩:=xcd q;unfold mroIn;rw[h1,Option.bind_some,h2,if_neg (by simp)];simp
def qiR (i j:Int):Prop:=0 < j∧j < 340282366920938463463374607431768211456
theorem qeX {X:Cx}:OpR X (binaryOp .FloorDiv) (rI qiR fun i j=>.int (i / j)):=opI fun i j _ _ _ _ _ hc q=>by
 have h1:(0:Int) < j:=hc.1;have h2:j < 340282366920938463463374607431768211456:=hc.2;have h3:j.natAbs < 2 ^ 128:=by omega
 have h4:j.natAbs.log2 < 128:=(Nat.log2_lt (by omega)).mpr h3;exact floordiv_int (by omega) (by rw[Int.fdiv_eq_ediv_of_nonneg i (by omega)];exact q) (.inl (PyProof.noPylong_of_log2 (by omega)))
def qio:Value->Option Addr
 | .ref a=>some a
 | _=>none
theorem qdx (D:Addr):∀ l:List Value,l.contains (.ref D)=(l.map qio).contains (some D)
 | []=>rfl
 | v::l=>by
   rw[List.map_cons,List.contains_cons,List.contains_cons,qdx D l];congr 1
   cases v with
   | ref c =>
     show (Value.ref D == Value.ref c)=(some D == some c);by_cases e:D=c
     · subst e;simp
     · rw[beq_eq_false_iff_ne.mpr (fun z=>e (Value.ref.inj z)),beq_eq_false_iff_ne.mpr (fun z=>e (Option.some.inj z))]
   | _=>rfl
def XMro (K:Frag) (C:Addr) (l:List (Option Addr)):Prop:=∃ cd,clsIn K C=some cd∧cd.mro.map qio=l
def qhy (l:List (Option Addr)) (o:Obj):Bool:=match o.data with
 | .cls cd=>cd.mro.map qio == l
 | _=>false
theorem XMro.of {K:Frag}{C:Addr}{o:Obj}{l:List (Option Addr)} (h:K.lookup C=some o) (q:qhy l o=true):XMro K C l:=by
 obtain⟨oc,od,odt,osl⟩:=o;unfold qhy at q
 cases odt with
 | cls cd =>
   refine⟨cd,?_,eq_of_beq q⟩;unfold clsIn;rw[h]
 | _=>cases q
def qfn (K:Frag) (D:Addr):Prop:=isClsIn K D=true∧typeIn K (.ref D)=some (.type "type")
theorem qeD {K:Frag}{C D:Addr}{l:List (Option Addr)} (m:XMro K C l) (hl:l≠[]) (d:qfn K D):qeE K C (.ref D)=some (l.contains (some D)):=by
 obtain⟨cd,h1,h2⟩:=m;refine xIsa_of d.1 d.2 ?_;show mroIn K C (.ref D)=_;unfold mroIn;rw[h1,Option.bind_some,if_neg,qdx,h2];intro z;rw[List.isEmpty_iff]at z;rw[z]at h2;exact hl h2.symm
end L2
namespace Srt
open PySem PySem.W PyProof.Rows
def RunP {α:Type} (lt:Nat->Nat->Bool) (n:Nat):KasT α->(α->Prop)->Prop
 | .ret a,P=>P a
 | .ask i j k,P=>i < n∧j < n∧RunP lt n (k (lt i j)) P
section
variable {lt:Nat->Nat->Bool}{n:Nat}
theorem RunP.bind {α β:Type}{f:α->KasT β}{P:β->Prop}:∀ {t:KasT α},RunP lt n t (fun a=>RunP lt n (f a) P)->RunP lt n (t.bind f) P
 | .ret _,h=>h
 | .ask i j k,h=>⟨h.1,h.2.1,RunP.bind (t:=k (lt i j)) h.2.2⟩
theorem RunP.mono {α:Type}{P P':α->Prop} (hp:∀ a,P a->P' a):∀ {t:KasT α},RunP lt n t P->RunP lt n t P'
 | .ret _,h=>hp _ h
 | .ask i j k,h=>⟨h.1,h.2.1,RunP.mono hp (t:=k (lt i j)) h.2.2⟩
theorem RunP.wp {α:Type}{cmp:Nat->Nat->(Bool->Shared->Prop)->Shared->Prop}{Q:α->Shared->Prop}{P:α->Prop}{s:Shared} (hc:∀ i j (C:Bool->Shared->Prop),i < n->j < n->C (lt i j) s->cmp i j C s) (hq:∀ a,P a->Q a s):∀ {t:KasT α},RunP lt n t P->t.kasWp cmp Q s
 | .ret _,h=>hq _ h
 | .ask i j k,h=>hc i j _ h.1 h.2.1 (RunP.wp hc hq (t:=k (lt i j)) h.2.2)
theorem RunP.ite {α:Type}{c:Prop} [Decidable c] {t u:KasT α}{P:α->Prop} (h1:c->RunP lt n t P) (h2:¬ c->RunP lt n u P):RunP lt n (if c then t else u) P:=by
 by_cases h:c
 · rw[if_pos h];exact h1 h
 · rw[if_neg h];exact h2 h
def Bd (n:Nat) (p:Array Nat):Prop:=∀ x,p.getD x 0 < n
theorem JB {p q:Array Nat}{x y:Nat} (h:p[x]?=q[y]?):p.getD x 0=q.getD y 0:=by
 simp only[Array.getD_eq_getD_getElem?,h]
theorem qab {p:Array Nat}{i j:Nat} (hj:j≤p.size) (x:Nat):(kas_rev p i j).getD x 0=if i≤x∧x < j then p.getD (i+j - 1 - x) 0 else p.getD x 0:=by
 have h:=getElem?_mirror_all (xs:=p) (i:=i) hj x;by_cases c:i≤x∧x < j
 · rw[if_pos c]at h ⊢;exact JB h
 · rw[if_neg c]at h ⊢;exact JB h
theorem Bd.rev {p:Array Nat}{i j:Nat} (h:Bd n p) (hj:j≤p.size):Bd n (kas_rev p i j):=fun x=>by
 rw[qab hj];split<;>exact h _
theorem qep {p:Array Nat}{k d:Nat} (hk:k < p.size) (hd:d≤k) (x:Nat):(bubble p k d).getD x 0=if x=k - d then p.getD k 0 else if k - d < x∧x≤k then p.getD (x - 1) 0 else p.getD x 0:=by
 have h:=getElem?_bubble (xs:=p) hk d hd x;by_cases c:x=k - d
 · rw[if_pos c]at h ⊢;exact JB h
 · rw[if_neg c]at h ⊢;by_cases c2:k - d < x∧x≤k
   · rw[if_pos c2]at h ⊢;exact JB h
   · rw[if_neg c2]at h ⊢;exact JB h
theorem Bd.bub {p:Array Nat}{k d:Nat} (h:Bd n p) (hk:k < p.size) (hd:d≤k):Bd n (bubble p k d):=fun x=>by
 rw[qep hk hd];by_cases c:x=k - d
 · rw[if_pos c];exact h _
 · rw[if_neg c];by_cases c2:k - d < x∧x≤k
   · rw[if_pos c2];exact h _
   · rw[if_neg c2];exact h _
structure Ord (lt:Nat->Nat->Bool):Prop where
 tr:∀ a b c,lt b a=false->lt c b=false->lt c a=false
 asy:∀ a b,lt a b=true->lt b a=false
theorem Ord.irr (O:Ord lt) (a:Nat):lt a a=false:=by
 cases h:lt a a with
 | false=>rfl
 | true=>rw[← h];exact O.asy _ _ h
def Up (lt:Nat->Nat->Bool) (p:Array Nat) (k:Nat):Prop:=∀ x,x+1 < k->lt (p.getD (x+1) 0) (p.getD x 0)=false
def Dn (lt:Nat->Nat->Bool) (p:Array Nat) (k:Nat):Prop:=∀ x,x+1 < k->lt (p.getD x 0) (p.getD (x+1) 0)=false
def Eqv (lt:Nat->Nat->Bool) (a b:Nat):Prop:=lt a b=false∧lt b a=false
theorem Eqv.not (O:Ord lt) {a a' b b':Nat} (h1:Eqv lt a a') (h2:Eqv lt b b') (h:lt a b=false):lt a' b'=false:=O.tr _ _ _ (O.tr _ _ _ h2.1 h) h1.2
theorem Up.le (O:Ord lt) {p:Array Nat}{k:Nat} (h:Up lt p k) {x:Nat}:∀ d,x+d < k->lt (p.getD (x+d) 0) (p.getD x 0)=false
 | 0,_=>O.irr _
 | d+1,hd=>O.tr _ _ _ (Up.le O h d (by omega)) (h (x+d) (by omega))
theorem qew (p:Array Nat) (hb:Bd n p):∀ (f m:Nat),1≤m->Up lt p m->RunP lt n (kas_asc p f m) fun r=>m≤r∧r≤m+f∧Up lt p r∧(r < m+f->lt (p.getD r 0) (p.getD (r - 1) 0)=true)
 | 0,m,_,hu=>⟨Nat.le_refl _,Nat.le_refl _,hu,fun h=>absurd h (by omega)⟩
 | f+1,m,h1,hu=>by
   refine⟨hb _,hb _,RunP.ite (fun c=>?_) (fun c=>?_)⟩
   · exact⟨Nat.le_refl _,by omega,hu,fun _=>c⟩
   · have c:lt (p.getD m 0) (p.getD (m - 1) 0)=false:=by simpa using c
     refine RunP.mono (fun r h=>?_) (qew p hb f (m+1) (by omega) (fun x hx=>?_))
     · exact⟨by omega,by omega,h.2.2.1,fun z=>h.2.2.2 (by omega)⟩
     · by_cases e:x+1=m
       · have e1:x=m - 1:=by omega
         rw[e1,show m - 1+1=m by omega];exact c
       · exact hu x (by omega)
def Blk (lt:Nat->Nat->Bool) (p:Array Nat) (m q:Nat):Prop:=q+1≤m∧∀ x,m - (q+1)≤x->x < m->Eqv lt (p.getD x 0) (p.getD (m - 1) 0)
theorem Blk.rev (O:Ord lt) {p:Array Nat}{m q:Nat} (hm:m≤p.size) (h:Blk lt p m q) (x:Nat) (hx:x < m):Eqv lt (p.getD x 0) ((kas_rev p (m - (q+1)) m).getD x 0):=by
 rw[qab hm];by_cases c:m - (q+1)≤x∧x < m
 · rw[if_pos c];have h1:=h.2 x c.1 c.2;have hq:=h.1;have h2:=h.2 (m - (q+1)+m - 1 - x) (by omega) (by omega);exact⟨O.tr _ _ _ h2.2 h1.1,O.tr _ _ _ h1.2 h2.1⟩
 · rw[if_neg c];exact⟨O.irr _,O.irr _⟩
theorem Dn.eqv (O:Ord lt) {p p':Array Nat}{m:Nat} (h:Dn lt p m) (e:∀ x,x < m->Eqv lt (p.getD x 0) (p'.getD x 0)):Dn lt p' m:=fun x hx=>(e x (by omega)).not O (e (x+1) hx) (h x hx)
theorem qaX (O:Ord lt):∀ (f:Nat) (p:Array Nat) (m q:Nat),Bd n p->1≤m->m+f≤p.size->Dn lt p m->Blk lt p m q->RunP lt n (kas_desc f p m q) fun r =>
   Bd n r.1∧r.1.Perm p∧r.1.size=p.size∧m≤r.2.1∧r.2.1≤m+f∧Dn lt r.1 r.2.1∧Blk lt r.1 r.2.1 r.2.2
 | 0,p,m,q,hb,h1,hs,hd,bl=>⟨hb,Array.Perm.refl _,rfl,Nat.le_refl _,Nat.le_refl _,hd,bl⟩
 | f+1,p,m,q,hb,h1,hs,hd,bl=>by
   have one:∀ p':Array Nat,p'.getD m 0=p'.getD (m+1 - 1) 0:=fun p'=>rfl;refine⟨hb _,hb _,RunP.ite (fun c=>RunP.ite (fun hq=>?_) (fun hq=>?_)) (fun c=>⟨hb _,hb _,RunP.ite (fun d=>?_) (fun d=>?_)⟩)⟩
   · have hm:m≤p.size:=by omega
     have ev:=bl.rev O hm;have sz:(kas_rev p (m - (q+1)) m).size=p.size:=kas_rev_size _ _;have out:(kas_rev p (m - (q+1)) m).getD m 0=p.getD m 0:=by rw[qab hm,if_neg (by omega)]
     refine RunP.mono (fun r h=>?_) (qaX O f (kas_rev p (m - (q+1)) m) (m+1) 0 (hb.rev hm) (by omega) (by omega) (fun x hx=>?_) ⟨by omega,fun x h0 h2=>?_⟩)
     · exact⟨h.1,h.2.1.trans (mirror_perm _ _ _ _),by rw[h.2.2.1,sz],by omega,by omega,h.2.2.2.2.2.1,h.2.2.2.2.2.2⟩
     · by_cases e:x+1=m
       · have e1:x=m - 1:=by omega
         subst e1;rw[show m - 1+1=m by omega,out];exact(ev (m - 1) (by omega)).not O ⟨O.irr _,O.irr _⟩ (O.asy _ _ c)
       · exact hd.eqv O ev x (by omega)
     · have e:x=m:=by omega
       subst e;exact⟨O.irr _,O.irr _⟩
   · refine RunP.mono (fun r h=>?_) (qaX O f p (m+1) 0 hb (by omega) (by omega) (fun x hx=>?_) ⟨by omega,fun x h0 h2=>?_⟩)
     · exact⟨h.1,h.2.1,h.2.2.1,by omega,by omega,h.2.2.2.2.2.1,h.2.2.2.2.2.2⟩
     · by_cases e:x+1=m
       · have e1:x=m - 1:=by omega
         subst e1;rw[show m - 1+1=m by omega];exact O.asy _ _ c
       · exact hd x (by omega)
     · have e:x=m:=by omega
       subst e;exact⟨O.irr _,O.irr _⟩
   · exact⟨hb,Array.Perm.refl _,rfl,Nat.le_refl _,(by show m≤m+(f+1);omega),hd,bl⟩
   · have c:lt (p.getD m 0) (p.getD (m - 1) 0)=false:=by simpa using c
     have d:lt (p.getD (m - 1) 0) (p.getD m 0)=false:=by simpa using d
     refine RunP.mono (fun r h=>?_) (qaX O f p (m+1) (q+1) hb (by omega) (by omega) (fun x hx=>?_) ⟨by have:=bl.1;omega,fun x h0 h2=>?_⟩)
     · exact⟨h.1,h.2.1,h.2.2.1,by omega,by omega,h.2.2.2.2.2.1,h.2.2.2.2.2.2⟩
     · by_cases e:x+1=m
       · have e1:x=m - 1:=by omega
         subst e1;rw[show m - 1+1=m by omega];exact d
       · exact hd x (by omega)
     · show Eqv lt (p.getD x 0) (p.getD m 0);by_cases e:x=m
       · rw[e];exact⟨O.irr _,O.irr _⟩
       · have:=bl.2 x (by omega) (by omega)
         exact⟨O.tr _ _ _ d this.1,O.tr _ _ _ this.2 c⟩
theorem Dn.rev {p:Array Nat}{m:Nat} (h:Dn lt p m) (hm:m≤p.size):Up lt (kas_rev p 0 m) m:=fun x hx=>by
 rw[qab hm,qab hm,if_pos ⟨Nat.zero_le _,by omega⟩,if_pos ⟨Nat.zero_le _,by omega⟩]
 have:=h (m - 2 - x) (by omega)
 rw[show m - 2 - x+1=0+m - 1 - x by omega]at this;rw[show 0+m - 1 - (x+1)=m - 2 - x by omega];exact this
def Cnt (lt:Nat->Nat->Bool) (n N:Nat) (p:Array Nat) (r:Nat×Array Nat):Prop:=Bd n r.2∧r.2.Perm p∧r.2.size=p.size∧1≤r.1∧r.1≤N∧Up lt r.2 r.1
theorem qb5 {N m:Nat}{p:Array Nat} (hb:Bd n p) (h1:1≤m) (hm:m≤N) (hs:N≤p.size) (hd:Dn lt p m):RunP lt n (kas_tail3 m N p) (Cnt lt n N p):=by
 unfold kas_tail3;refine RunP.bind (RunP.mono (fun r h=>?_) (qew (kas_rev p 0 m) (hb.rev (by omega)) (N - m) m h1 (hd.rev (by omega))));exact⟨hb.rev (by omega),mirror_perm _ _ _ _,kas_rev_size _ _,by omega,by omega,h.2.2.1⟩
theorem JE (O:Ord lt) {N m:Nat}{p:Array Nat} (hb:Bd n p) (h1:1≤m) (hm:m < N) (hs:N≤p.size) (hd:Dn lt p (m+1)):RunP lt n (kas_descPart m N p) (Cnt lt n N p):=by
 unfold kas_descPart
 refine RunP.bind (RunP.mono (fun r h=>?_) (qaX O (N - (m+1)) p (m+1) 0 hb (by omega) (by omega) hd ⟨by omega,fun x h0 h2=>by
   have e:x=m:=by omega
   subst e
   exact⟨O.irr _,O.irr _⟩⟩))
 obtain⟨g1,g2,g3,g4,g5,g6,g7⟩:=h;refine RunP.ite (fun hq=>?_) (fun hq=>?_)
 · have hm2:r.2.1≤r.1.size:=by omega
   refine RunP.mono (fun z hz=>?_) (qb5 (g1.rev hm2) (by omega) (by omega) (by rw[kas_rev_size];omega) (g6.eqv O (g7.rev O hm2)));exact⟨hz.1,(hz.2.1.trans (mirror_perm _ _ _ _)).trans g2,by rw[hz.2.2.1,kas_rev_size,g3],hz.2.2.2⟩
 · refine RunP.mono (fun z hz=>?_) (qb5 g1 (by omega) (by omega) (by omega) g6);exact⟨hz.1,hz.2.1.trans g2,by rw[hz.2.2.1,g3],hz.2.2.2⟩
theorem qfi (O:Ord lt) {N:Nat}{p:Array Nat} (hb:Bd n p) (h2:1≤N) (hs:N≤p.size):RunP lt n (kas_count N p) (Cnt lt n N p):=by
 unfold kas_count;refine RunP.bind (RunP.mono (fun m h=>?_) (qew p hb (N - 1) 1 (Nat.le_refl _) (fun x hx=>by omega)));obtain⟨m1,mN,up,stop⟩:=h;refine RunP.ite (fun c=>?_) (fun c=>?_)
 · exact⟨hb,Array.Perm.refl _,rfl,m1,by omega,up⟩
 · have c:m≠N:=by simpa using c
   have st:=stop (by omega);refine RunP.ite (fun g=>⟨hb _,hb _,RunP.ite (fun e=>?_) (fun e=>?_)⟩) (fun g=>?_)
   · exact⟨hb,Array.Perm.refl _,rfl,m1,by omega,up⟩
   · have e:lt (p.getD 0 0) (p.getD (m - 1) 0)=false:=by simpa using e
     -- all of the first m are alike
     have alike:∀ x,x < m->Eqv lt (p.getD x 0) (p.getD (m - 1) 0):=fun x hx=>by
       have a1:=up.le O (x:=x) (m - 1 - x) (by omega);rw[show x+(m - 1 - x)=m - 1 by omega]at a1;have a2:=up.le O (x:=0) x (by omega);rw[Nat.zero_add]at a2;exact⟨O.tr _ _ _ e a2,a1⟩
     have hmp:m≤p.size:=by omega
     have blk:Blk lt p m (m - 1):=⟨by omega,fun x _ hx=>alike x hx⟩
     have ev:=blk.rev O hmp;rw[show m - (m - 1+1)=0 by omega]at ev;have dn0:Dn lt p m:=fun x hx=>O.tr _ _ _ (alike (x+1) hx).2 (alike x (by omega)).1
     have dn:Dn lt (kas_rev p 0 m) (m+1):=fun x hx=>by
       by_cases e1:x+1=m
       · have e2:x=m - 1:=by omega
         subst e2;have out:(kas_rev p 0 m).getD (m - 1+1) 0=p.getD m 0:=by rw[qab hmp,if_neg (by omega),show m - 1+1=m by omega]
         rw[out];exact(ev (m - 1) (by omega)).not O ⟨O.irr _,O.irr _⟩ (O.asy _ _ st)
       · exact dn0.eqv O ev x (by omega)
     refine RunP.mono (fun z hz=>?_) (JE O (hb.rev hmp) m1 (by omega) (by rw[kas_rev_size];exact hs) dn);exact⟨hz.1,hz.2.1.trans (mirror_perm _ _ _ _),by rw[hz.2.2.1,kas_rev_size],hz.2.2.2⟩
   · have e1:m=1:=by omega
     subst e1
     exact JE O hb (Nat.le_refl _) (by omega) hs (fun x hx=>by
       have:x=0:=by omega
       subst this
       exact O.asy _ _ st)
theorem qaH (O:Ord lt) {p:Array Nat}{k:Nat} (hb:Bd n p) (up:Up lt p k):∀ (f l r:Nat),l≤r->r≤k->r - l≤f->(∀ x,x < l->lt (p.getD k 0) (p.getD x 0)=false)->(∀ x,r≤x->x < k->lt (p.getD k 0) (p.getD x 0)=true) ->
   RunP lt n (kas_place p k f l r) fun m=>m≤k∧(∀ x,x < m->lt (p.getD k 0) (p.getD x 0)=false)∧∀ x,m≤x->x < k->lt (p.getD k 0) (p.getD x 0)=true
 | 0,l,r,h1,h2,h3,a,b=>⟨by omega,a,fun x hx=>b x (by omega)⟩
 | f+1,l,r,h1,h2,h3,a,b=>by
   refine RunP.ite (fun c=>?_) (fun c=>⟨hb _,hb _,RunP.ite (fun d=>?_) (fun d=>?_)⟩)
   · exact⟨by omega,a,fun x hx=>b x (by omega)⟩
   · refine qaH O hb up f l ((l+r) / 2) (by omega) (by omega) (by omega) a fun x hx hk=>?_
     cases hz:lt (p.getD k 0) (p.getD x 0) with
     | true=>rfl
     | false =>
       have q:=up.le O (x:=(l+r) / 2) (x - (l+r) / 2) (by omega);rw[show (l+r) / 2+(x - (l+r) / 2)=x by omega]at q
       have:=O.tr _ _ _ q hz
       rw[d]at this;cases this
   · have d:lt (p.getD k 0) (p.getD ((l+r) / 2) 0)=false:=by simpa using d
     refine qaH O hb up f ((l+r) / 2+1) r (by omega) h2 (by omega) (fun x hx=>?_) b;have q:=up.le O (x:=x) ((l+r) / 2 - x) (by omega);rw[show x+((l+r) / 2 - x)=(l+r) / 2 by omega]at q;exact O.tr _ _ _ q d
theorem qfX (O:Ord lt):∀ (f:Nat) (p:Array Nat) (k:Nat),Bd n p->k+f≤p.size->Up lt p k->RunP lt n (kas_bin f p k) fun r=>r.Perm p∧Up lt r (k+f)
 | 0,p,k,hb,hs,up=>⟨Array.Perm.refl _,up⟩
 | f+1,p,k,hb,hs,up=>by
   refine RunP.bind (RunP.mono (fun l h=>?_) (qaH O hb up k 0 k (Nat.zero_le _) (Nat.le_refl _) (by omega) (fun x hx=>absurd hx (by omega)) (fun x h1 h2=>absurd h1 (by omega))));obtain⟨lk,lo,hi⟩:=h;have hk:k < p.size:=by omega
   refine RunP.mono (fun r h=>⟨h.1.trans (bubble_perm _ _ _),by rw[show k+(f+1)=k+1+f by omega];exact h.2⟩) (qfX O f (bubble p k (k - l)) (k+1) (hb.bub hk (by omega)) (by rw[bubble_size];omega) (fun x hx=>?_));have e:k - (k - l)=l:=by omega
   rw[qep hk (by omega),qep hk (by omega),e];by_cases c1:x+1=l
   · rw[if_pos c1,if_neg (by omega),if_neg (by omega)];exact lo x (by omega)
   · rw[if_neg c1];by_cases c2:x=l
     · rw[if_pos c2,if_pos ⟨by omega,by omega⟩,show x+1 - 1=x by omega];exact O.asy _ _ (hi x (by omega) (by omega))
     · rw[if_neg c2];by_cases c3:l < x
       · rw[if_pos ⟨by omega,by omega⟩,if_pos ⟨c3,by omega⟩]
         have:=up (x - 1) (by omega)
         rw[show x - 1+1=x by omega]at this;rw[show x+1 - 1=x by omega];exact this
       · rw[if_neg (by omega),if_neg (by omega)];exact up x (by omega)
theorem sort_ok (O:Ord lt) (h:1≤n):RunP lt n (kas_sort n) fun r=>r.Perm (List.toArray (List.range n))∧Up lt r n:=by
 have hb:Bd n (List.toArray (List.range n)):=fun x=>by
   simp only[Array.getD_eq_getD_getElem?,List.getElem?_toArray];by_cases hx:x < n
   · rw[List.getElem?_range hx];exact hx
   · rw[List.getElem?_eq_none (by simp;omega)];exact h
 have sz:(List.toArray (List.range n)).size=n:=by simp
 unfold kas_sort;refine RunP.bind (RunP.mono (fun r hr=>?_) (qfi O hb h (by omega)));obtain⟨g1,g2,g3,g4,g5,g6⟩:=hr;refine RunP.ite (fun c=>?_) (fun c=>?_)
 · have e:max r.1 1=r.1:=by omega
   rw[e];refine RunP.mono (fun z hz=>⟨hz.1.trans g2,?_⟩) (qfX O (n - r.1) r.2 r.1 g1 (by omega) g6)
   have:=hz.2
   rw[show r.1+(n - r.1)=n by omega]at this;exact this
 · have e:r.1=n:=by omega
   rw[e]at g6;exact⟨g2,g6⟩
end
end Srt
namespace L2
open PySem PySem.Spec PyProof.Rows
open PySem.W (Frag kitOne)
theorem ObjOk.lies {P:Program}{w:World}{H:Hp}{h:Heap}{a:Addr}{o:HO} (x:ObjOk P w H h a o):∃ ob,h.get? a=some ob:=by
 cases o with
 | lst xs=>obtain⟨_,_,_,_,e⟩:=x;exact⟨_,e⟩
 | tup xs=>obtain⟨_,_,_,o,e,_⟩:=x;exact⟨_,e⟩
 | dK kvs=>obtain⟨_,_,_,_,o,_,_,e,_⟩:=x;exact⟨_,e⟩
 | dT kvs=>obtain⟨_,_,_,_,o,_,_,e,_⟩:=x;exact⟨_,e⟩
 | set S n=>obtain⟨o,_,_,_,e,_⟩:=x;exact⟨_,e⟩
 | ins C dx fs=>obtain⟨_,_,_,e,_⟩:=x;exact⟨_,e⟩
 | own y=>obtain⟨_,e⟩:=x;exact⟨_,e⟩
 | xd fs=>obtain⟨_,⟨_,_,_,e,_⟩,_⟩:=x;exact⟨_,e⟩
 | rng lo hi=>obtain⟨_,_,_,e⟩:=x;exact⟨_,e⟩
 | frz ob u=>obtain⟨e,_⟩:=x;exact⟨_,e⟩
 | tbl ps=>exact⟨_,(show h.get? a=some _ from x)⟩
 | met f y=>exact⟨_,(show h.get? a=some _ from x)⟩
 | ext φ=>obtain⟨_,⟨_,e⟩,_⟩:=x;exact⟨_,e⟩
section
variable {X:Cx}{pins:List (Addr×Obj)}{σ:List (Option V)}{H:Hp}{s:Shared}{h':Heap}
theorem Inv.unlaid {a:Addr} (I:Inv X pins σ H s) (e:s.heap.get? a=none):H a=none:=by
 cases q:H a with
 | none=>rfl
 | some o =>
   obtain⟨ob,z⟩:=(I.hok a o q).lies;rw[e]at z;cases z
theorem Inv.laidL {a:Addr}{o:HO}{t':Nat} (I:Inv X pins σ H s) (k:∀ b u,b≠X.env.locals->s.heap.get? b=some u->h'.get? b=some u) (ns:∀ m,s.heap.Ns X.env.locals m->h'.Ns X.env.locals m)
   (hp:s.heap.get? a=none) (new:ObjOk X.prog X.w (upd H a o) h' a o):Inv X pins σ (upd H a o) { s with heap:=h',toks:=t' }:=by
 have hn:H a=none:=I.unlaid hp;have nL:∀ b u,H b=some u->b≠X.env.locals:=fun b u e z=>by rw[z,I.free]at e;cases e
 have na:∀ b u,s.heap.get? b=some u->b≠a:=fun b u q z=>by rw[z,hp]at q;cases q
 refine I.step (g':=s.gens) (d':=s.drawn) (ch:=[]) (fun _ z=>nomatch z) (fun b o hb _ _ e _=>k b o hb e) (fun b o hb _ _ e _=>⟨o.slots,k b o hb e⟩) (fun b o _ e n=>by rw[qi (na b o e)];exact n) (fun b o _ e=>?_)
   (fun b xs q=>by rw[qi (qk q hn)];exact q) (fun b u xs q=>by rw[qi (qk q hn)];exact q) (fun b ps q=>⟨#[],by rw[qi (qk q hn),q];simp⟩) ns (fun b u e=>?_) I.bare
 · by_cases z:b=X.env.locals
   · obtain⟨m,hm,_⟩:=I.loc;obtain⟨o',_,_,ho',_⟩:=ns m hm;exact⟨o',by rw[z];exact ho'⟩
   · exact⟨o,k b o z e⟩
 · by_cases z:b=a
   · subst z;rw[qe]at e;cases e;exact new
   · rw[qi z]at e;refine(I.hok b u e).stay (fun c v hc q=>k c v ?_ q) (fun c q=>by rw[qi (qk q hn)];exact q) fun c xs q=>by rw[qi (qk q hn)];exact q
     rcases hc with z|z
     · rw[z];exact nL b u e
     · exact nL c _ z
end
def qbJ (base h:Heap) (L:Addr):List (Addr×Obj):=(List.range h.objs.size).filterMap fun a=>if a=L then none else if (base.get? a).isSome then none else (h.get? a).map fun o=>(a,o)
theorem qav (base h:Heap) (L:Addr):News base L h (qbJ base h L):=by
 intro p hp;unfold qbJ at hp;obtain⟨a,_,e⟩:=List.mem_filterMap.mp hp;by_cases c1:a=L
 · rw[if_pos c1]at e;cases e
 · rw[if_neg c1]at e;by_cases c2:(base.get? a).isSome=true
   · rw[if_pos c2]at e;cases e
   · rw[if_neg c2]at e
     cases q:h.get? a with
     | none=>rw[q]at e;cases e
     | some o =>
       rw[q]at e;cases e;refine⟨q,c1,?_⟩
       cases z:base.get? a with
       | none=>rfl
       | some _=>rw[z]at c2;exact absurd rfl c2
theorem Z1 {base h:Heap}{L b:Addr}{o:Obj} (e:h.get? b=some o) (ne:b≠L) (n:base.get? b=none):(b,o)∈qbJ base h L:=by
 unfold qbJ;refine List.mem_filterMap.mpr ⟨b,List.mem_range.mpr (Heap.lt_size e),?_⟩;rw[if_neg ne,n,e];rfl
theorem qfH {h:Heap}{a:Addr}{m m':Str->Option Value} (x:h.Ns a m) (y:h.Ns a m'):m=m':=by
 obtain⟨o,es,ep,ho,hd,_,f⟩:=x;obtain⟨o',es',ep',ho',hd',_,f'⟩:=y;rw[ho]at ho';cases ho';rw[hd]at hd';cases hd';exact funext fun n=>(f n).symm.trans (f' n)
section
variable {X:Cx}{pins:List (Addr×Obj)}{σ:List (Option V)}{H:Hp}{s:Shared}{h':Heap}
theorem Inv.laidN {D:Addr}{m:Str->Option Value}{vs:List Value}{c:Nat}{ys:List V} (I:Inv X pins σ H s) (F:Fr X.base X.env.locals s.heap m) (F':Fr X.base X.env.locals h' m)
   (N':News X.base X.env.locals h' ((D,PySem.W.listOf vs.toArray c)::qbJ X.base s.heap X.env.locals)) (hD:∀ q∈qbJ X.base s.heap X.env.locals,q.1 < D) (r:Vals ys vs) (hz:ys.length≤sizeLine) :
   H D=none∧Inv X pins σ (upd H D (.lst ys)) { s with heap:=h' }:=by
 obtain⟨e1,e2,e3⟩:=N' _ (.head _)
 have free:s.heap.get? D=none:=by
   cases q:s.heap.get? D with
   | none=>rfl
   | some o=>exact absurd (hD _ (Z1 q e2 e3)) (Nat.lt_irrefl _)
 have kp:∀ b u,b≠X.env.locals->s.heap.get? b=some u->h'.get? b=some u:=fun b u ne q=>by
   cases z:X.base.get? b with
   | some o =>
     have:=I.bk b o z
     rw[q]at this;cases this;exact F'.keep b _ z
   | none=>exact(N' _ (List.mem_cons_of_mem _ (Z1 q ne z))).1
 refine⟨I.unlaid free,I.laidL (t':=s.toks) kp (fun m' hm=>?_) free ⟨hz,vs,c,r,?_⟩⟩
 · rw[qfH hm F.ns];exact F'.ns
 · exact e1
theorem qcv:∀ {ns:List Int}{vs:List Value},Vals (ns.map V.int) vs->IntsAre vs ns
 | [],_,.nil=>.nil
 | n::ns,_,.cons r t=>by
   obtain⟨tk,rfl⟩:=(show ∃ t,_=Value.int n t from r)
   exact .cons n tk (qcv t)
end
def QT:List Int->List Int->Bool
 | a::as,b::bs=>if a=b then QT as bs else decide (a < b)
 | _,_=>false
theorem qbr:∀ as bs,QT as bs=true->QT bs as=false
 | [],_,h=>by simp[QT]at h
 | _::_,[],h=>by simp[QT]at h
 | a::as,b::bs,h=>by
   unfold QT at h ⊢;by_cases e:a=b
   · rw[if_pos e]at h;rw[if_pos e.symm];exact qbr as bs h
   · rw[if_neg e]at h;rw[if_neg fun z=>e z.symm]
     have:=of_decide_eq_true h
     exact decide_eq_false (by omega)
theorem qct:∀ {as bs cs:List Int},as.length=bs.length->bs.length=cs.length->QT as bs=false->QT bs cs=false->QT as cs=false
 | [],_,_,_,_,_,_=>rfl
 | _::_,[],_,h,_,_,_=>by simp at h
 | _::_,_::_,[],_,h,_,_=>by simp at h
 | a::as,b::bs,c::cs,h1,h2,x,y=>by
   unfold QT at x y ⊢;by_cases e1:a=b
   · subst e1;rw[if_pos rfl]at x;by_cases e2:a=c
     · subst e2;rw[if_pos rfl]at y ⊢;exact qct (by simpa using h1) (by simpa using h2) x y
     · rw[if_neg e2]at y ⊢;exact y
   · rw[if_neg e1]at x;have x':=of_decide_eq_false x;by_cases e2:b=c
     · subst e2;rw[if_neg e1];exact x
     · rw[if_neg e2]at y;have y':=of_decide_eq_false y;rw[if_neg (by omega)];exact decide_eq_false (by omega)
section
variable {prog:Program}{w:World}{A:Around}{s:Shared}
theorem qfK {b:Bool}{Q:Bool->Shared->Prop}:∀ {as bs:List Int}{us vs:List Value}{i:Nat},Vals (as.map V.int) us->Vals (bs.map V.int) vs->as.length=bs.length->Q (QT as bs) s->PySem.W.KatLex prog w A b false Q (us.zip vs) i s
 | [],[],_,_,_,.nil,.nil,_,h=>PySem.W.kat_nil h
 | [],_::_,_,_,_,_,_,e,_=>by simp at e
 | _::_,[],_,_,_,_,_,e,_=>by simp at e
 | a::as,c::cs,_,_,i,.cons r1 t1,.cons r2 t2,e,h=>by
   obtain⟨x,rfl⟩:=(show ∃ t,_=Value.int a t from r1)
   obtain⟨y,rfl⟩:=(show ∃ t,_=Value.int c t from r2)
   refine PySem.W.kat_cons (wpAny_eqBool_int ?_);unfold QT at h;by_cases z:a=c
   · rw[if_pos z]at h;rw[show (a == c)=true by rw[z];exact beq_self_eq_true c];exact PySem.W.kat_yes (qfK t1 t2 (by simpa using e) h)
   · rw[if_neg z]at h;rw[show (a == c)=false by exact beq_eq_false_iff_ne.mpr z];refine PySem.W.kat_no ?_
     cases (b && i == 0) with
     | true=>exact oneLt_int h
     | false=>exact PySem.W.kat_one _ _ (wpAny_lt_int h)
end
structure TupI (H:Hp) (zs:List V) (rs:List (List Int)):Prop where
 len:zs.length=rs.length
 at_:∀ (i:Nat) (z:V) (r:List Int),zs[i]?=some z->rs[i]?=some r->∃ t,z=.ref t∧H t=some (.tup (r.map V.int))
def ltI (k:Nat) (rs:List (List Int)) (i j:Nat):Bool:=QT (rs.getD i (List.replicate k 0)) (rs.getD j (List.replicate k 0))
theorem Q5 {k:Nat}{rs:List (List Int)} (h:∀ r∈rs,r.length=k) (i:Nat):(rs.getD i (List.replicate k 0)).length=k:=by
 rw[List.getD_eq_getElem?_getD]
 cases e:rs[i]? with
 | none=>exact List.length_replicate
 | some r=>exact h r (List.mem_of_getElem? e)
theorem qdV {k:Nat}{rs:List (List Int)} (h:∀ r∈rs,r.length=k):Srt.Ord (ltI k rs) :=
 ⟨fun a b c x y=>qct ((Q5 h c).trans (Q5 h b).symm) ((Q5 h b).trans (Q5 h a).symm) y x,fun a b=>qbr _ _⟩
section
variable {X:Cx}{pins:List (Addr×Obj)}{σ:List (Option V)}{H:Hp}{s:Shared}
theorem Inv.tupI {t:Addr}{r:List Int} (I:Inv X pins σ H s) (h:H t=some (.tup (r.map V.int))):∃ (o:Obj) (us:List Value) (n:Nat),Vals (r.map V.int) us∧s.heap.get? t=some o∧o.cls=.type "tuple"∧o.data=.seq us.toArray n:=by
 obtain⟨_,its,rv,o,e,c,n,d⟩:=I.hok t _ h;exact⟨o,its,n,rv,e,c,d⟩
theorem Inv.kpN {h':Heap}{m:Str->Option Value}{x:Addr×Obj} (I:Inv X pins σ H s) (F':Fr X.base X.env.locals h' m) (N':News X.base X.env.locals h' (x::qbJ X.base s.heap X.env.locals)) :
   ∀ b u,b≠X.env.locals->s.heap.get? b=some u->h'.get? b=some u:=fun b u ne q=>by
 cases z:X.base.get? b with
 | some o =>
   have:=I.bk b o z
   rw[q]at this;cases this;exact F'.keep b _ z
 | none=>exact(N' _ (List.mem_cons_of_mem _ (Z1 q ne z))).1
end
theorem TupI.tail {H:Hp}{z:V}{zs:List V}{r:List Int}{rs:List (List Int)} (h:TupI H (z::zs) (r::rs)):TupI H zs rs :=
 ⟨by have:=h.len;simpa using this,fun i z' r' e1 e2=>h.at_ (i+1) z' r' (by simpa using e1) (by simpa using e2)⟩
inductive qex (h:Heap) (v:Value) (r:List Int):Prop
 | mk (t:Addr) (o:Obj) (us:List Value) (n:Nat) (h1:v=.ref t) (h2:Vals (r.map V.int) us) (h3:h.get? t=some o) (h4:o.cls=.type "tuple") (h5:o.data=.seq us.toArray n):qex h v r
def qhW (h:Heap) (v:Value) (r:List Int):Prop:=qex h v r
theorem qb4 {h:Heap}:∀ {vs:List Value}{rs:List (List Int)},Paired (qhW h) vs rs->(∀ r∈rs,0 < r.length)->∃ fs,PySem.W.KatTups h vs fs∧fs.length=vs.length∧∀ v∈fs,∃ i t,v=Value.int i t
 | _,_,.nil,_=>⟨[],.nil,rfl,fun _ z=>nomatch z⟩
 | _,r::rs,.cons ⟨t,o,us,n,e,rv,ho,hc,hd⟩ q,k=>by
   obtain⟨fs,k1,k2,k3⟩:=qb4 q fun r hr=>k r (List.mem_cons_of_mem _ hr);subst e;have pos:=k r List.mem_cons_self
   match r,us,rv,pos with
   | a::r,_,.cons ra rt,_ =>
     obtain⟨tk,rfl⟩:=(show ∃ t,_=Value.int a t from ra)
     refine⟨_::fs,.cons ho hc hd (by simp;rfl) k1,by simp[k2],fun v hv=>?_⟩;rcases List.mem_cons.mp hv with rfl|hv
     · exact⟨_,_,rfl⟩
     · exact k3 v hv
theorem Q3 {α β:Type}{F:α->β->Prop}:∀ {xs:List α}{ys:List β}{i:Nat}{d:α}{e:β},Paired F xs ys->i < xs.length->F (xs.getD i d) (ys.getD i e)
 | _,_,_,_,_,.nil,h=>by simp at h
 | _,_,0,_,_,.cons r _,_=>by simpa using r
 | _,_,i+1,_,_,.cons _ t,h=>by
   simp only[List.getD_cons_succ];exact Q3 t (by simpa using h)
theorem qaf {α β:Type}{F:α->β->Prop}{xs:List α}{ys:List β}{d:α}{e:β} (r:Paired F xs ys):∀ {is:List Nat},(∀ i∈is,i < xs.length)->Paired F (is.map fun i=>xs.getD i d) (is.map fun i=>ys.getD i e)
 | [],_=>.nil
 | i::is,h=>.cons (Q3 r (h i List.mem_cons_self)) (qaf r fun j hj=>h j (List.mem_cons_of_mem _ hj))
theorem JQ {α:Type} (l:List α) (d:α):(List.range l.length).map (fun i=>l.getD i d)=l:=by
 apply List.ext_getElem
 · simp
 · intro i h1 h2;simp[h2]
section
variable {prog:Program}{w:World}{A:Around}{E:Value->Shared->Prop}{s:Shared}
theorem qeK {a:Addr}{vs:List Value}{n:Nat}{P:PySem.Fin->Shared->Prop} (ho:s.heap.get? a=some (seqObj "list" vs.toArray n)) (h2:vs.length < 2)
   (h:∀ c h',(∀ b o,b≠a->s.heap.get? b=some o->h'.get? b=some o)->h'.get? a=some (seqObj "list" vs.toArray c)->P (.done (.ret .none)) { s with heap:=h' }) :
   wpAny (model prog w) A (Builtin.«list.sort» ⟨[.ref a],[]⟩) P E s:=by
 obtain⟨e1,ho1⟩:∃ e1,(s.heap.update a (Obj.mapSeq fun _=>(#[]:Array Value))).get? a=some (seqObj "list" #[] e1):=⟨_,get?_update_seq ho fun _=>#[]⟩
 have s1:=Heap.SameBut.update s.heap a (Obj.mapSeq fun _=>(#[]:Array Value));rw[list_sort_plain];refine wpAny_bind (listItems_at ho rfl ?_);refine wpAny_bind (listUpdate_at ho rfl ?_ (by rw[List.size_toArray,sizeLine_eq];omega) (Nat.zero_le _));refine wpAny_bind (seqEpoch_at ho1 rfl ?_);refine wpAny_bind (wpAny_newTuple ?_ (by show vs.length≤_;rw[sizeLine_eq];omega));refine wpAny_bind (wpAny_newList ?_ (Nat.zero_le _));refine wpAny_holding ?_;dsimp only;have hn2:vs.toArray.size < 2:=by rw[List.size_toArray];omega
 rw[if_pos hn2];refine wpAny_bind (wpAny_pure ?_);rw[if_pos hn2];refine wpAny_bind (wpAny_pure ?_);have ho2:(((s.heap.update a (Obj.mapSeq fun _=>(#[]:Array Value))).push (seqObj "tuple" vs.toArray 0)).push (seqObj "list" #[] 0)).get? a=some (seqObj "list" #[] e1):=Heap.get?_push_of_some _ (Heap.get?_push_of_some _ ho1)
 have hsnd:Array.map (fun x:Keyed=>x.snd) (arrOf (SortSt.mk' general' (vs.toArray.zip vs.toArray) #[] 7 none))=vs.toArray:=by
   show Array.map (fun x:Value×Value=>x.snd) (vs.toArray.zip vs.toArray)=vs.toArray;apply Array.toList_inj.mp;simp only[Array.toList_map,Array.toList_zip];exact List.map_snd_zip (Nat.le_refl _)
 refine wpAny_bind (seqEpoch_at ho2 rfl ?_);dsimp only;rw[hsnd];refine wpAny_bind (listUpdate_at ho2 rfl ?_ (Nat.zero_le _) (by rw[List.size_toArray,sizeLine_eq];omega));show wpAny (model prog w) A (if (e1 != e1)=true then _ else ret Value.none) P E _;rw[if_neg (by simp)];refine wpAny_pure (h _ _ (fun b o hb q=>?_) (get?_update_seq ho2 fun _=>vs.toArray));rw[(Heap.SameBut.update _ a _).2 b hb];exact Heap.get?_push_of_some _ (Heap.get?_push_of_some _ ((s1.2 b hb).trans q))
theorem qcG {l:Addr}{vs:List Value}{Q:Value->Shared->Prop} (hl:s.heap.IsList l vs.toArray) (h2:vs.length < 2)
   (h:∀ D c h',s.heap.get? D=none->(∀ b o,s.heap.get? b=some o->h'.get? b=some o)->h'.get? D=some (seqObj "list" vs.toArray c)->Q (.ref D) { s with heap:=h' }) :
   wpAny (model prog w) A (call (.builtin "sorted") [.ref l]) Q E s:=by
 refine Calls.call_function_entry kind_sorted plain_sorted entry_sorted (args_sorted1 _) ?_;unfold Builtin.«sorted»;refine wpAny_bind (m:=checkCount "sorted" 1 1 _) (wpAny_pure ?_);refine wpAny_bind (collect_list hl ?_ (by rw[sizeLine_eq];omega));refine wpAny_bind (wpAny_newList ?_ (by rw[sizeLine_eq];omega))
 have hsz:((s.heap.push (seqObj "list" #[] 0)).update s.heap.objs.size (Obj.mapSeq (·++vs.toArray))).objs.size=s.heap.objs.size+1:=by
   rw[Heap.size_update,size_push']
 have hoL:(((s.heap.push (seqObj "list" #[] 0)).update s.heap.objs.size (Obj.mapSeq (·++vs.toArray))).push (seqObj "list" vs.toArray 0)).get? (s.heap.objs.size+1)=some (seqObj "list" vs.toArray 0):=by
   rw[← hsz];exact Heap.get?_push_size _ rfl
 have keep:∀ b o,s.heap.get? b=some o->(((s.heap.push (seqObj "list" #[] 0)).update s.heap.objs.size (Obj.mapSeq (·++vs.toArray))).push (seqObj "list" vs.toArray 0)).get? b=some o:=fun b o q=>by
   have hlt:b < s.heap.objs.size:=Heap.lt_size q;rw[Heap.get?_push_ne _ _ _ (by rw[hsz];exact Nat.ne_of_lt (Nat.lt_succ_of_lt hlt)),Heap.get?_update_ne _ _ _ _ (Nat.ne_of_lt hlt),Heap.get?_push_ne _ _ _ (Nat.ne_of_lt hlt)];exact q
 show wpAny _ _ _ _ _ { s with heap:=((s.heap.push (seqObj "list" #[] 0)).update s.heap.objs.size (Obj.mapSeq (·++vs.toArray))).push (seqObj "list" vs.toArray 0) };rw[hsz];refine wpAny_bind (wpAny_holding (wpAny_call_entry slot_list_sort ⟨_,hoL,rfl⟩ entry_list_sort ?body (args_list_sort _)))
 case body =>
   refine qeK (s:={ s with heap:=((s.heap.push (seqObj "list" #[] 0)).update s.heap.objs.size (Obj.mapSeq (·++vs.toArray))).push (seqObj "list" vs.toArray 0) }) hoL h2 fun c h' k e=>?_;exact⟨_,rfl,wpAny_pure ⟨_,rfl,h (s.heap.objs.size+1) c h' (Heap.get?_none_of_le (Nat.le_succ _)) (fun b o q=>k b o (Nat.ne_of_lt (Nat.lt_succ_of_lt (Heap.lt_size q))) (keep b o q)) e⟩⟩
end
inductive qcj (K:Frag) (xs:List V) (H:Hp) (Q:VK):Prop
 | mk (l:Addr) (zs:List V) (rs:List (List Int)) (k:Nat) (h1:xs=[.ref l]) (h2:SqL K H l zs) (h3:TupI H zs rs) (h4:(∀ r∈rs,r.length=k)) (h5:0 < k) (h6:zs.length < 64) (h7:∀ (p:Addr) (zs':List V) (rs':List (List Int)),H p=none->rs'.Perm rs->TupI H zs' rs'->rs'.Pairwise (fun a b=>QT b a=false)->Q (.ref p) (upd H p (.lst zs'))):qcj K xs H Q
def qhf (K:Frag):List V->Hp->VK->Prop:=fun xs H Q=>qcj K xs H Q
theorem qdf {X:Cx}{pins:List (Addr×Obj)}{σ:List (Option V)}{H:Hp}{s:Shared}{h':Heap} (I:Inv X pins σ H s) (kp:∀ b u,b≠X.env.locals->s.heap.get? b=some u->h'.get? b=some u) :
   ∀ {zs:List V}{rs:List (List Int)}{vs:List Value},TupI H zs rs->Vals zs vs->Paired (qhW h') vs rs
 | [],rs,_,h,.nil=>by
   have:rs=[]:=List.eq_nil_of_length_eq_zero h.len.symm
   subst this;exact .nil
 | z::zs,[],_,h,_=>by have:=h.len;simp at this
 | z::zs,r::rs,_,h,.cons r1 t1=>by
   refine .cons ?_ (qdf I kp h.tail t1);obtain⟨t,rfl,ht⟩:=h.at_ 0 z r rfl rfl;obtain⟨o,us,n,rv,e,c,d⟩:=I.tupI ht;exact⟨t,o,us,n,r1,rv,kp t o (fun q=>by rw[q,I.free]at ht;cases ht) e,c,d⟩
theorem qde {H:Hp}{zs:List V}{rs:List (List Int)}{d:V}{e:List Int} (h:TupI H zs rs) {is:List Nat} (hi:∀ i∈is,i < zs.length):TupI H (is.map fun i=>zs.getD i d) (is.map fun i=>rs.getD i e):=by
 refine⟨by rw[List.length_map,List.length_map],fun j z r e1 e2=>?_⟩;rw[List.getElem?_map]at e1 e2
 cases q:is[j]? with
 | none=>rw[q]at e1;cases e1
 | some i =>
   rw[q]at e1 e2;have lt:=hi i (List.mem_of_getElem? q);have lt2:i < rs.length:=by rw[← h.len];exact lt
   have z1:zs.getD i d=z:=Option.some.inj e1;have r1:rs.getD i e=r:=Option.some.inj e2;rw[List.getD_eq_getElem?_getD,List.getElem?_eq_getElem lt]at z1;rw[List.getD_eq_getElem?_getD,List.getElem?_eq_getElem lt2]at r1;exact h.at_ i z r (by rw[List.getElem?_eq_getElem lt];exact congrArg some z1) (by rw[List.getElem?_eq_getElem lt2];exact congrArg some r1)
section
variable {X:Cx}
theorem qc0:Z3 X (.builtin "sorted") (qhf X.K):=by
 intro pins s σ H xs us Q I r h;obtain⟨l,zs,rs,k,rfl,hq,tp,hk,k0,h64,q⟩:=h;obtain⟨u,rfl,ru⟩:=JI r;cases (show u=Value.ref l from ru);obtain⟨its,rv,p,hz⟩:=I.list hq;have hlen:=rv.length;by_cases h2:its.length < 2
 · refine qcG p.isList h2 fun D c h' free kp e=>?_;have I':Inv X pins σ (upd H D (.lst zs)) { s with heap:=h' }:=I.laidL (t':=s.toks) (fun b u _ z=>kp b u z) (fun m ⟨o,es,ep,ho,r⟩=>⟨o,es,ep,kp _ _ ho,r⟩) free ⟨hz,its,c,rv,e⟩;refine⟨.ref D,_,I',rfl,q D zs rs (I.unlaid free) (List.Perm.refl _) tp ?_⟩;have l2:rs.length < 2:=by rw[← tp.len,hlen];exact h2
   match rs,l2 with
   | [],_=>exact .nil
   | [r],_=>exact List.pairwise_singleton _ _
   | _::_::_,l2=>simp at l2;omega
 · obtain⟨m,F⟩:=I.fr;refine PySem.W.kat_sorted F (qav X.base s.heap X.env.locals) p.isList (by omega) (by omega) fun D e1 h' F' N' hD=>?_;have kp:=I.kpN F' N';have pa:=qdf I kp tp rv;obtain⟨fs,t1,t2,t3⟩:=qb4 pa fun r hr=>by rw[hk r hr];exact k0
   refine PySem.W.kat_kind (T:=.type "int") t1 (by omega) (fun v hv=>?_) rfl ?_
   · obtain⟨i,t,rfl⟩:=t3 v hv;exact PySem.W.Looks.of_pure rfl
   refine Srt.RunP.wp (fun i j C hi hj hC=>?_) (fun a ha=>?_) (Srt.sort_ok (n:=its.length) (qdV hk) (by omega))
   · obtain⟨x,ox,ux,nx,ex,rx,hx,cx,dx⟩:=Q3 (d:=Value.none) (e:=List.replicate k 0) pa hi;obtain⟨y,oy,uy,ny,ey,ry,hy,cy,dy⟩:=Q3 (d:=Value.none) (e:=List.replicate k 0) pa hj;unfold PySem.W.kas_ask;rw[ex,ey];refine PySem.W.kat_lt hx dx hy dy ?_;have lx:=Q5 hk i;have ly:=Q5 hk j;have e1':=rx.length;have e2':=ry.length;rw[List.length_map]at e1' e2';rw[show decide (ux.toArray.size < uy.toArray.size)=false from decide_eq_false (by rw[List.size_toArray,List.size_toArray];omega)];exact qfK rx ry (by omega) hC
   · obtain⟨hp,up⟩:=ha
     have pl:a.toList.Perm (List.range its.length):=by
       have:=Array.perm_iff_toList_perm.mp hp
       simpa using this
     have inR:∀ i∈a.toList,i < zs.length:=fun i hi=>by rw[hlen];exact List.mem_range.mp (pl.mem_iff.mp hi)
     refine PySem.W.KasFin.intro F' N' (.head fun q hq=>Nat.ne_of_lt (hD q hq)) fun h2 c F2 N2=>?_;have rv2:Vals (a.toList.map fun i=>zs.getD i .non) (a.toList.map fun i=>its.getD i Value.none):=qaf rv inR;obtain⟨hn,I'⟩:=I.laidN F F2 N2 hD rv2 (by rw[List.length_map,pl.length_eq,List.length_range,← hlen];exact hz);refine⟨.ref D,_,I',rfl,q D _ (a.toList.map fun i=>rs.getD i (List.replicate k 0)) hn ?_ (qde tp inR) ?_⟩
     · have:=pl.map fun i=>rs.getD i (List.replicate k 0)
       rw[← hlen,tp.len,JQ]at this;exact this
     · have sz:a.size=its.length:=by
         have:=pl.length_eq
         rw[Array.length_toList,List.length_range]at this;exact this
       refine List.pairwise_iff_getElem.mpr fun i j hi hj lt=>?_;have hj':j < a.size:=by simpa using hj
       have hi':i < a.size:=by omega
       have:=Srt.Up.le (qdV hk) up (x:=i) (j - i) (by omega)
       rw[show i+(j - i)=j by omega]at this;simp only[List.getElem_map,Array.getElem_toList];simp only[ltI,Array.getD_eq_getD_getElem?,Array.getElem?_eq_getElem hj',Array.getElem?_eq_getElem hi',Option.getD_some]at this;exact this
def qa1 (K:Frag):List V->Hp->VK->Prop:=fun xs H Q=>∃ x C t b,xs=[x,V.ref C]∧qa0 K H x t∧kitOne K t (.ref C)=some b∧Q (.bl b) H
theorem qS:Z3 X (.builtin "isinstance") (qa1 X.K):=by
 intro pins s σ H xs us Q I r h;obtain⟨x,C,t,b,rfl,ht,hk,q⟩:=h;obtain⟨u,w',rfl,ru,rw'⟩:=qdb r;cases (show w'=Value.ref C from rw');exact qbt I ru ht hk fun tk=>⟨.bl _,H,I.tok tk,rfl,q⟩
theorem qz {K:Frag}{C D:Addr}{l:List (Option Addr)} (m:XMro K C l) (hl:l.head?=some (some C)) (d:qfn K D):kitOne K (.ref C) (.ref D)=some (l.contains (some D)):=by
 have e:=qeD m (by intro z;rw[z]at hl;cases hl) d;unfold kitOne;split
 · rename_i z
   have z':C=D:=Value.ref.inj (eq_of_beq z);subst z';congr 1
   cases l with
   | nil=>cases hl
   | cons x r=>rw[List.head?_cons]at hl;cases hl;simp
 · obtain⟨cd,h1,h2⟩:=m;unfold PySem.W.kitCls;have d1:(PySem.W.clsIn K D).isSome=true:=d.1;simp only[d.2,d1];simp only[qeE,d.2,d1]at e;simpa using e
theorem PE.or {e:Expr}{t u:TE} (h:PE X e t) (h':PE X e u):PE X e (fun σ H Q=>t σ H Q∨u σ H Q):=fun pins s σ H Q I q=>q.elim (h pins s σ H Q I) (h' pins s σ H Q I)
end
section
variable {X:Cx}{tg:Expr}
structure InsF (K:Frag) (C:Addr):Prop where
 cl:Cls K C
 ha:PySem.W.findIn K (.ref C) "__class__"=some (some (.builtin "object.__class__"))
 hn:PySem.W.specialIn K (.builtin "object.__class__") "__get__"=some (some (.builtin "getset_descriptor.__get__"))
 htk:PySem.W.takesIn K (.builtin "object.__class__")=some true
 hm:PySem.W.mroIn K C (.type "object")=some true
theorem InsF.ty {K:Frag}{H:Hp}{a C dx:Addr}{fs:List (Str×V)} (i:InsF K C) (e:H a=some (.ins C dx fs)):qa0 K H (.ref a) (.ref C):=.ins e i.cl i.ha i.hn i.htk i.hm
end
end L2
namespace L2
open PySem PySem.Spec PyProof.Rows
open PySem.W (Frag tabObj kla_obj)
def qc6 (mg:Str->Option Value) (base:Heap):Prop:=∃ bm o,mg "__builtins__"=some (.ref bm)∧bm≠builtinsNs∧base.get? bm=some o∧o.cls=.type "module"∧o.dict=some builtinsNs∧o.data=.plain
def qgO (ts:List Addr) (H:Hp):Prop:=∀ b,H b=none∨(∃ o xs,H b=some (.frz o (.lst xs)))∨(b∈ts∧H b=some (.tbl #[]))
theorem qdZ {P:Program}{w:World}{K:Frag}{mg mb:Str->Option Value}{CX:CXT}{k:Nat}{fa a:Addr}{fd:FuncData}{x:Str}{sp:Sp}{s₁:Shared}{vs:List Value}{ns:List Int}{ts:List Addr}
   (KX:K.In s₁.heap) (hns:s₁.heap.Ns mainGlobals mg) (hb:s₁.heap.Ns builtinsNs mb) (hbb:∀ x:Str,x≠"__name__"->mb x=bootBuiltins x) (hlim:s₁.heap.NoLimit) (hg:s₁.gens=#[])
   (ht:∀ t∈ts,s₁.heap.get? t=some (tabObj #[])) (hc:∀ t∈ts,isCodeTable s₁.heap t) (hk:∀ t∈ts,K.lookup t=none)
   (hB:qc6 mg s₁.heap) (ha:s₁.heap.get? a=some { cls:=.type "list",data:=.seq vs.toArray }) (hi:IntsAre vs ns) (hl:ns.length≤sizeLine) (hr:Room k callerA)
   (F:∀ base:Heap,K.In base->base.Ns mainGlobals mg->qc6 mg base->qB P w K mg base CX k fa fd [x] sp) (hbind:∀ (s:Shared) (u:Value),BindsTo s fd ⟨[u],[]⟩ [(x,u)])
   (hsp:∀ H:Hp,qgO ts H->(∀ t∈ts,H t=some (.tbl #[]))->SqL K H a (ns.map V.int)->sp [.ref a] H (fun v _=>v=.bl true) fun _ _ _=>False)
   (hCX:∀ H e s',CX [] H s₁ (fun _ _ _=>False) e s'->False) :
   codeAny (model P w) callerA (.call (.ref fa) ⟨[.ref a],[]⟩) (fun r s'=>r=.ok (.ret (.bool true))∧OldK s₁.heap s'.heap∧s'.os=s₁.os∧AllBare s'.gens) s₁:=by
 have rv:=qa2 hi;have lenV:=hi.length
 have nat:a∉ts:=fun m=>by
   have:=ht a m
   rw[ha]at this;cases this
 have core:∀ H:Hp,qgO ts H->(∀ t∈ts,H t=some (.tbl #[]))->SqL K H a (ns.map V.int)->HOk P w H s₁.heap->(∀ b,H b≠none->b=a∨b∈ts)->(H a≠none->K.lookup a=none) ->
     codeAny (model P w) callerA (.call (.ref fa) ⟨[.ref a],[]⟩) (fun r s'=>r=.ok (.ret (.bool true))∧OldK s₁.heap s'.heap∧s'.os=s₁.os∧AllBare s'.gens) s₁:=by
   intro H hO hT hS hok hA hK;have base_of:∀ {b:Addr}{o:Obj},s₁.heap.get? b=some o->H b=none->(qeA s₁.heap H).get? b=some o:=fun e n=>qfa e n
   have noA:∀ {b:Addr}{o:Obj}{es:Array DictEntry}{ep:Nat},s₁.heap.get? b=some o->o.data=.dict es ep->H b=none:=fun {b o es ep} e d=>by
     cases q:H b with
     | none=>rfl
     | some u =>
       rcases hA b (by rw[q];simp) with rfl|m
       · rw[ha]at e;cases e;cases d
       · rw[ht b m]at e;cases e;cases d
   have nsK:∀ {b:Addr}{m:Str->Option Value},s₁.heap.Ns b m->(qeA s₁.heap H).Ns b m:=fun {b m} ⟨o,es,ep,e,d,r⟩=>⟨o,es,ep,base_of e (noA e d),d,r⟩
   have hKb:K.In (qeA s₁.heap H):=fun b o e=>base_of (KX b o e) (by
     cases q:H b with
     | none=>rfl
     | some u =>
       rcases hA b (by rw[q];simp) with z|m
       · subst z;rw[hK (by rw[q];simp)]at e;cases e
       · rw[hk b m]at e;cases e)
   have hBb:qc6 mg (qeA s₁.heap H):=by
     obtain⟨bm,o,b1,b2,b3,b4,b5,b6⟩:=hB;refine⟨bm,o,b1,b2,base_of b3 ?_,b4,b5,b6⟩
     cases q:H bm with
     | none=>rfl
     | some u =>
       rcases hA bm (by rw[q];simp) with z|m
       · rw[z,ha]at b3;cases b3;cases b6
       · rw[ht bm m]at b3;cases b3;cases b6
   have hM:Mod K mg (qeA s₁.heap H):=⟨hKb,nsK hns,⟨mb,nsK hb,hbb⟩,let ⟨mc,h1,h2⟩:=hlim;⟨mc,nsK h1,h2⟩⟩
   have e0:Env0 P w K mg (qeA s₁.heap H) callerA [] s₁ H:=⟨rfl,hM,fun b o e=>qgv e,Nat.le_of_eq (qd6 _ _),trivial,fun b hb=>absurd (show b∈([]:List Addr) from hb) (by simp),hok,.of_eq hg⟩
   refine codeAny_mono ((F _ hKb (nsK hns) hBb).run callerA [] s₁ H ⟨[.ref a],[]⟩ [.ref a] [.ref a] _ _ hr e0 (hbind s₁ (.ref a)) (.cons rfl .nil) (hsp H hO hT hS)) fun r s' h=>?_
   cases r with
   | error e=>exact(hCX H e s' h).elim
   | ok fl =>
     cases fl with
     | next=>exact False.elim h
     | brk=>exact False.elim h
     | cont=>exact False.elim h
     | ret u =>
       obtain⟨v,H',os,bare,un,hok',r',q⟩:=h;have q':v=.bl true:=q;subst q';obtain rfl:u=Value.bool true:=r'
       have grown:∀ t∈ts,∃ more,s'.heap.get? t=some (tabObj more):=fun t m=>by
         obtain⟨more,z⟩:=un.tbls t #[] (hT t m);exact⟨_,(show ObjOk P w H' s'.heap t (.tbl (#[]++more)) from hok' t _ z)⟩
       have keep:∀ b o,b∉ts->s₁.heap.get? b=some o->s'.heap.get? b=some o:=fun b o nm e=>by
         rcases hO b with z|⟨ob,xs,z⟩|⟨m,_⟩
         · exact un.keep b o e z (by intro z;exact absurd (show b∈([]:List Addr) from z) (by simp)) (by simp)
         · have z2:=un.frzs b ob _ z;obtain⟨e1,_⟩:=hok b _ z;obtain⟨e2,_⟩:=hok' b _ z2;rw[e]at e1;cases e1;exact e2
         · exact absurd m nm
       refine⟨rfl,⟨fun b o e=>?_,fun b o e=>?_⟩,os,bare⟩
       · by_cases m:b∈ts
         · obtain⟨ps,g⟩:=grown b m;have e':=ht b m;rw[e]at e';cases e';exact .inr (.inl ⟨hc b m,rfl,#[],ps,rfl,by rw[Array.empty_append];exact g⟩)
         · exact .inl (keep b o m e)
       · by_cases m:b∈ts
         · obtain⟨ps,g⟩:=grown b m;exact⟨_,g⟩
         · exact⟨o,keep b o m e⟩
 cases hka:K.lookup a with
 | some o =>
   have e:=KX a o hka;rw[ha]at e;cases e;refine core (fun b=>if b∈ts then some (.tbl #[]) else none) (fun b=>?_) (fun t m=>if_pos m) (.inr ⟨_,vs.toArray,_,hka,rfl,rfl,rfl,by rw[List.size_toArray,lenV];exact hl,by simpa using rv⟩) (fun b u z=>?_) (fun b z=>?_) fun z=>absurd (if_neg nat) z
   · by_cases m:b∈ts
     · exact .inr (.inr ⟨m,if_pos m⟩)
     · exact .inl (if_neg m)
   · by_cases m:b∈ts
     · have z':=(if_pos m).symm.trans z;cases z';exact ht b m
     · have z':=(if_neg m).symm.trans z;cases z'
   · by_cases m:b∈ts
     · exact .inr m
     · exact absurd (if_neg m) z
 | none =>
   refine core (fun b=>if b=a then some (.frz { cls:=.type "list",data:=.seq vs.toArray } (.lst (ns.map V.int))) else if b∈ts then some (.tbl #[]) else none) (fun b=>?_) (fun t m=>?_) (.inl (.inr ⟨{ cls:=.type "list",data:=.seq vs.toArray },if_pos rfl⟩)) (fun b u z=>?_) (fun b z=>?_) fun _=>hka
   · by_cases hb:b=a
     · exact .inr (.inl ⟨_,_,if_pos hb⟩)
     · by_cases m:b∈ts
       · exact .inr (.inr ⟨m,(if_neg hb).trans (if_pos m)⟩)
       · exact .inl ((if_neg hb).trans (if_neg m))
   · have hb:t≠a:=fun z=>nat (z▸m);exact(if_neg hb).trans (if_pos m)
   · by_cases hb:b=a
     · have z':=(if_pos hb).symm.trans z;cases z';subst hb;exact⟨ha,by rw[List.length_map];exact hl,vs,_,rv,ha⟩
     · by_cases m:b∈ts
       · have z':=((if_neg hb).trans (if_pos m)).symm.trans z;cases z';exact ht b m
       · have z':=((if_neg hb).trans (if_neg m)).symm.trans z;cases z'
   · by_cases hb:b=a
     · exact .inl hb
     · by_cases m:b∈ts
       · exact .inr m
       · exact absurd ((if_neg hb).trans (if_neg m)) z
theorem walk_ofT {l:PySem.W.OpenLaw}{n k:Nat}{q:Program}{loose:List Str}{XP:(Str->Option Value)->Heap->Prop}{YP:World->Heap->Prop}{d:DefRec}{K:Params->Frag}{CX:World->CXT}{sp:World->Sp}{x:Str}{ts:List Addr}
   (hn:l.most=some n) (hn2:n≤sizeLine) (hdf:d.params.defaults=[]) (hr:Room k callerA)
   (hY:∀ (w:World) (h:Heap),YP w h->(K w.params).In h∧(∀ t∈ts,h.get? t=some (tabObj #[]))∧(∀ t∈ts,isCodeTable h t)∧∀ t∈ts,(K w.params).lookup t=none)
   (F:∀ (w:World) (mg:Str->Option Value) (fa:Addr) (h:Heap),(K w.params).In h->h.Ns mainGlobals mg->mg d.name=some (.ref fa) ->
     ∃ fd:FuncData,(∀ (s:Shared) (u:Value),BindsTo s fd ⟨[u],[]⟩ [(x,u)]) ∧
       ∀ base:Heap,(K w.params).In base->base.Ns mainGlobals mg->qc6 mg base->qB l.prog w (K w.params) mg base (CX w) k fa fd [x] (sp w))
   (hsp:∀ (w:World) (H:Hp) (a:Addr) (ns:List Int),ns.length≤n->qgO ts H->(∀ t∈ts,H t=some (.tbl #[]))->SqL (K w.params) H a (ns.map V.int)->sp w [.ref a] H (fun v _=>v=.bl true) fun _ _ _=>False)
   (hCX:∀ (w:World) (H:Hp) (s:Shared) (e:Value) (s':Shared),CX w [] H s (fun _ _ _=>False) e s'->False) :
   PySem.W.WalkO q loose XP YP l.row.toRowW d [] (fun f vs=>PySem.call f vs):=by
 refine Att.attach_call hn hdf fun w s₀ s₁ mg mb fa o pm cd doc a vs ns G Y ho hd hcd hmg hobj hints hlen hg=>?_;obtain⟨KX,h1,h2,h3⟩:=hY w _ Y;obtain⟨fd,hb,hF⟩:=F w mg fa _ KX G.T.g hmg;exact qdZ KX G.T.g G.T.b G.T.builtins G.T.nolimit hg h1 h2 h3 (let ⟨bm,ob,b1,b2,b3,b4,b5,b6⟩:=G.T.bmain;⟨bm,ob,b1,b2,b3,b4,b5,b6⟩) hobj hints (Nat.le_trans hlen hn2) hr hF hb (fun H hO hT hS=>hsp w H a ns hlen hO hT hS) fun H e s'=>hCX w H s₁ e s'
def qb3 (c:Addr) (q:Str):Heap->Prop:=fun h=>h.CodeRec (.ref c) q
def qgP (f:Addr) (o:Obj):Heap->Prop:=fun h=>h.get? f=some o
section
variable {P:Program}{w:World}{H:Hp}{h:Heap}{c f:Addr}{q:Str}{o:Obj}
theorem qfk (x:qb3 c q h):ObjOk P w H h c (.ext (qb3 c q)):=by
 obtain⟨c',o,vs,t,e,g,r⟩:=id x;cases e;exact⟨x,⟨o,g⟩,fun h1 h2 ⟨c',o',vs',t',e',g',r'⟩ k=>by cases e';exact⟨c,o',vs',t',rfl,k _ g',r'⟩⟩
theorem qdQ (x:qgP f o h):ObjOk P w H h f (.ext (qgP f o)):=⟨x,⟨o,x⟩,fun _ _ e k=>k _ e⟩
end
def qh5 (H:Hp) (T:Addr) (pos:Pos) (q:Str):Prop :=
 ∃ ps,H T=some (.tbl ps)∧TriplesOk ps.toList∧(codeAmong pos ps.toList=none∨∃ c,codeAmong pos ps.toList=some (.ref c)∧H c=some (.ext (qb3 c q)))
theorem jj {i j:Int}{a b:Tok}{c:Value}:∀ {l:List Value},TriplesOk l->TriplesOk (l++[.int i a,.int j b,c])
 | [],_=>True.intro
 | .int _ _::.int _ _::_::r,h=>jj (l:=r) h
section
variable {X:Cx}{pins:List (Addr×Obj)}{σ:St}{H:Hp}{s:Shared}{h':Heap}
theorem Inv.lam {T c':Addr}{ps:Array Value}{more:Array Value}{q:Str}{t':Nat} (I:Inv X pins σ H s) (hT:H T=some (.tbl ps)) (hx:Heap.ExtBut T s.heap h') (c0:s.heap.objs.size≤c') (c1:c' < h'.objs.size) (hr:h'.CodeRec (.ref c') q)
   (ht:h'.get? T=some (tabObj (ps++more))) (fo:Obj) (hfo:fo.isFreed=false) :
   Inv X pins σ (upd (upd (upd H T (.tbl (ps++more))) c' (.ext (qb3 c' q))) h'.objs.size (.ext (qgP h'.objs.size fo))) { s with heap:=h'.push fo,toks:=t' }:=by
 have Tlt:T < s.heap.objs.size:=I.hok.lt hT;have nTc:T≠c':=Nat.ne_of_lt (Nat.lt_of_lt_of_le Tlt c0);have Tf:T < h'.objs.size:=Heap.lt_size ht;have nTf:T≠h'.objs.size:=Nat.ne_of_lt Tf;have ncf:c'≠h'.objs.size:=Nat.ne_of_lt c1;have hcn:H c'=none:=I.hok.fresh c0;have sle:s.heap.objs.size≤h'.objs.size:=Nat.le_trans c0 (Nat.le_of_lt c1);have hfn:H h'.objs.size=none:=I.hok.fresh sle;have oth:∀ b,b≠T->b≠c'->b≠h'.objs.size->upd (upd (upd H T (.tbl (ps++more))) c' (.ext (qb3 c' q))) h'.objs.size (.ext (qgP h'.objs.size fo)) b=H b:=fun b n1 n2 n3=>by rw[qi n3,qi n2,qi n1]
 have kp:∀ b o,b≠T->s.heap.get? b=some o->(h'.push fo).get? b=some o:=fun b o n e=>Heap.get?_push_of_some _ (hx b o n e);have nT:∀ {b u},H b=some u->u≠.tbl ps->b≠T:=fun e n z=>by rw[z,hT]at e;exact n (Option.some.inj e).symm
 have nc:∀ {b u},H b=some u->b≠c':=fun e z=>by rw[z,hcn]at e;cases e
 have nf:∀ {b u},H b=some u->b≠h'.objs.size:=fun e z=>by rw[z,hfn]at e;cases e
 have same:∀ {b u},H b=some u->u≠.tbl ps->upd (upd (upd H T (.tbl (ps++more))) c' (.ext (qb3 c' q))) h'.objs.size (.ext (qgP h'.objs.size fo)) b=some u:=fun e n=>by rw[oth _ (nT e n) (nc e) (nf e)];exact e
 refine I.un ⟨fun b o e n _ _=>kp b o (fun z=>by rw[z,hT]at n;cases n) e,fun b o e n _ _=>⟨o.slots,kp b o (fun z=>by rw[z,hT]at n;cases n) e⟩,fun b o e n _=>?_,fun b o e _=>?_,fun b xs e=>same e (by intro z;cases z),fun b o u e=>same e (by intro z;cases z),fun b qs e=>?_⟩ fun b u e=>?_
 · have lt:=Heap.lt_size e;rw[oth b (fun z=>by rw[z,hT]at n;cases n) (Nat.ne_of_lt (Nat.lt_of_lt_of_le lt c0)) (Nat.ne_of_lt (Nat.lt_of_lt_of_le lt sle))];exact n
 · by_cases z:b=T
   · subst z;exact⟨_,Heap.get?_push_of_some _ ht⟩
   · exact⟨o,kp b o z e⟩
 · by_cases z:b=T
   · subst z;rw[hT]at e;cases e;exact⟨more,by rw[qi nTf,qi nTc,qe]⟩
   · rw[oth b z (nc e) (nf e)];exact⟨#[],by rw[e];simp⟩
 · by_cases z3:b=h'.objs.size
   · subst z3;rw[qe]at e;cases e;exact qdQ (Heap.get?_push_size _ hfo)
   · rw[qi z3]at e;by_cases z2:b=c'
     · subst z2;rw[qe]at e;cases e;exact qfk (hr.push fo)
     · rw[qi z2]at e;by_cases z1:b=T
       · subst z1;rw[qe]at e;cases e;exact Heap.get?_push_of_some _ ht
       · rw[qi z1]at e;refine(I.hok b u e).stay (fun c v hc g=>kp c v (fun z=>?_) g) (fun c r=>same r (by intro z;cases z)) fun c xs r=>same r (by intro z;cases z);rcases hc with hc|hc
         · exact z1 (hc▸z)
         · rw[z,hT]at hc;cases hc
def qiQ (X:Cx) (params:Arguments) (body:Expr) (scope:Scope) (c:Addr) (o:Obj):Prop :=
 ∃ pm ctv,o=kla_obj "<lambda>" (X.env.qual++"<lambda>") params body scope (zM X.env.cells scope.names []) pm c ctv
def qjn (X:Cx) (T:Addr) (pos:Pos) (params:Arguments) (body:Expr) (scope:Scope):TE:=fun σ H Q=>qh5 H T pos (X.env.qual++"<lambda>") ∧
 ∀ (f c:Addr) (o:Obj) (H':Hp),H f=none->f≠T->But T H H'->qh5 H' T pos (X.env.qual++"<lambda>")->H' f=some (.ext (qgP f o))->H' c=some (.ext (qb3 c (X.env.qual++"<lambda>")))->qiQ X params body scope c o->Q (.ref f) H'
theorem qhn {params:Arguments}{body:Expr}{scope:Scope}{pos:Pos}{c T:Addr} (hdef:defaultsOf params X.env=([],[])) (hfree:∀ y∈scope.names,y.2=.free->∃ c,X.env.cells.lookup y.1=some c) (hcode:X.env.code=.ref c)
   (hcd:PySem.W.codeHdIn X.K c T=true) (hbm:qc6 X.mg X.base):PE X (.Lambda params body scope pos) (qjn X T pos params body scope):=by
 intro pins s σ H Q I h;obtain⟨⟨ps,hT,tr,hc⟩,h⟩:=h;have tb:s.heap.get? T=some (tabObj ps):=(show ObjOk X.prog X.w H s.heap T (.tbl ps) from I.hok T _ hT)
 have hg:s.heap.Ns mainGlobals X.mg:=I.mod.glob.keeps I.bk;have CH:=PySem.W.codeHd_of_K I.kIn hcd;obtain⟨bm,ob,b1,b2,b4,b5,b6,b7⟩:=hbm;have hbo:=I.bk bm ob b4
 have b3:bm≠mainGlobals:=fun z=>by
   obtain⟨o,es,ep,e,d,_⟩:=hg;rw[← z,hbo]at e;cases e;rw[b7]at d;cases d
 have nbT:bm≠T:=fun z=>by rw[z,tb]at hbo;cases hbo;cases b5
 have ngT:mainGlobals≠T:=fun z=>by
   obtain⟨o,es,ep,e,d,_⟩:=hg;rw[z,tb]at e;cases e;cases d
 have BA:s.heap.BuiltinsAt X.mg T:=⟨bm,ob,b1,b2,b3,nbT,hbo,b5,b6,b7⟩
 refine PySem.W.kla_eval hdef ?_;rcases hc with hn|⟨c',hc,hc'⟩
 · refine PySem.W.kla_makeFunction (clos:=zM X.env.cells scope.names []) (ji hfree) I.ok.glob hg hcode CH tb tr hn ngT BA fun c' ctv h' tk hx hge hlt hrec htb=>?_;have Tlt:T < s.heap.objs.size:=I.hok.lt hT;have hfn:H h'.objs.size=none:=I.hok.fresh (Nat.le_trans hge (Nat.le_of_lt hlt));have hcn:H c'=none:=I.hok.fresh hge;have ncf:c'≠h'.objs.size:=Nat.ne_of_lt hlt;have nTf:T≠h'.objs.size:=Nat.ne_of_lt (Nat.lt_of_lt_of_le Tlt (Nat.le_trans hge (Nat.le_of_lt hlt)));have nTc:T≠c':=Nat.ne_of_lt (Nat.lt_of_lt_of_le Tlt hge);have J:=I.lam (t':=tk) hT hx hge hlt hrec htb (kla_obj "<lambda>" (X.env.qual++"<lambda>") params body scope (zM X.env.cells scope.names []) ((X.mg "__name__").getD .none) c' ctv) rfl;refine⟨.ref h'.objs.size,_,J,rfl,h _ c' _ _ hfn (Ne.symm nTf) (fun b o e n=>?_) ⟨_,by rw[qi nTf,qi nTc,qe],?_,.inr ⟨c',?_,by rw[qi ncf,qe]⟩⟩ qe (by rw[qi ncf,qe]) ⟨_,_,rfl⟩⟩
   · rw[qi (qk e hfn),qi (qk e hcn),qi n];exact e
   · rw[Array.toList_append];exact jj tr
   · rw[Array.toList_append];exact codeAmong_snoc _ tr hn
 · refine PySem.W.kla_makeFunctionHit (clos:=zM X.env.cells scope.names []) (ji hfree) I.ok.glob hg hcode CH tb tr hc BA fun ctv h' tk hk hsz=>?_;have hfn:H h'.objs.size=none:=I.hok.fresh hsz;have S:=Same.new (.ext (qgP h'.objs.size (kla_obj "<lambda>" (X.env.qual++"<lambda>") params body scope (zM X.env.cells scope.names []) ((X.mg "__name__").getD .none) c' ctv))) hfn;refine⟨.ref h'.objs.size,_,I.laid (t':=tk) (fun b o e=>Heap.get?_push_of_some _ (hk b o e)) hsz (qdQ (Heap.get?_push_size _ rfl)),rfl,h _ c' _ _ hfn (qk hT hfn).symm (fun b o e _=>S b o e) ⟨ps,S _ _ hT,tr,.inr ⟨c',hc,S _ _ hc'⟩⟩ qe (S _ _ hc') ⟨_,_,rfl⟩⟩
end
section
variable {X:Cx}{pins:List (Addr×Obj)}{σ:List (Option V)}{H:Hp}{s:Shared}{h':Heap}
theorem Inv.keptL {t':Nat} (I:Inv X pins σ H s) (k:∀ b u,b≠X.env.locals->s.heap.get? b=some u->h'.get? b=some u) (ns:∀ m,s.heap.Ns X.env.locals m->h'.Ns X.env.locals m) :
   Inv X pins σ H { s with heap:=h',toks:=t' }:=by
 have nL:∀ b u,H b=some u->b≠X.env.locals:=fun b u e z=>by rw[z,I.free]at e;cases e
 refine I.step (g':=s.gens) (d':=s.drawn) (ch:=[]) (fun _ z=>nomatch z) (fun b o hb _ _ e _=>k b o hb e) (fun b o hb _ _ e _=>⟨o.slots,k b o hb e⟩) (fun b o _ e n=>n) (fun b o _ e=>?_)
   (fun b xs q=>q) (fun b u xs q=>q) (fun b ps q=>⟨#[],by rw[q];simp⟩) ns (fun b u e=>?_) I.bare
 · by_cases z:b=X.env.locals
   · obtain⟨m,hm,_⟩:=I.loc;obtain⟨o',_,_,ho',_⟩:=ns m hm;exact⟨o',by rw[z];exact ho'⟩
   · exact⟨o,k b o z e⟩
 · refine(I.hok b u e).stay (fun c v hc q=>k c v ?_ q) (fun c q=>q) fun c xs q=>q;rcases hc with z|z
   · rw[z];exact nL b u e
   · exact nL c _ z
theorem Inv.keptN {t':Nat}{m:Str->Option Value} (I:Inv X pins σ H s) (F:Fr X.base X.env.locals s.heap m) (F':Fr X.base X.env.locals h' m) (N':News X.base X.env.locals h' (qbJ X.base s.heap X.env.locals)) :
   Inv X pins σ H { s with heap:=h',toks:=t' }:=by
 refine I.keptL (fun b u ne q=>?_) fun m' hm=>?_
 · cases z:X.base.get? b with
   | some o =>
     have:=I.bk b o z
     rw[q]at this;cases this;exact F'.keep b _ z
   | none=>exact(N' _ (Z1 q ne z)).1
 · rw[qfH hm F.ns];exact F'.ns
inductive qdy (K:Frag) (xs:List V) (H:Hp) (Q:VK):Prop
 | mk (l:Addr) (ns:List Int) (h1:xs=[.ref l]) (h2:SqL K H l (ns.map V.int)) (h3:Q (.int ns.sum) H):qdy K xs H Q
def qhe (K:Frag):List V->Hp->VK->Prop:=fun xs H Q=>qdy K xs H Q
theorem qel (hc:X.calm=true):Z3 X (.builtin "sum") (qhe X.K):=by
 intro pins s σ H xs us Q I r h;obtain⟨l,ns,rfl,hq,q⟩:=h;obtain⟨u,rfl,ru⟩:=JI r;cases (show u=Value.ref l from ru);obtain⟨its,rv,p,hz⟩:=I.list hq;obtain⟨m,F⟩:=I.fr;exact LSm.sum_ints F (qav X.base s.heap X.env.locals) (I.ok.hd hc) p.isList (qcv rv) fun h' tk t' F' N'=>⟨.int ns.sum,H,I.keptN F F' N',⟨t',rfl⟩,q⟩
end
section
variable {X:Cx}{p pos lpos kpos:Pos}{e:Expr}{params:Arguments}{scope:Scope}{y1 y2 z:Str}{q1 q2 q3 q4 q5 q6 q7:Pos}{te:TE}{i1 i2 k:Nat}{c T:Addr}
theorem qg6 {K:Frag}{H H':Hp}{a T:Addr}{xs:List V}{ps:Array Value} (h:SqL K H a xs) (t:H T=some (.tbl ps)) (B:But T H H'):SqL K H' a xs:=by
 rcases h with h|h
 · refine .inl ?_;rcases h with e|⟨o,e⟩
   · exact .inl (B _ _ e fun z=>by rw[z,t]at e;cases e)
   · exact .inr ⟨o,B _ _ e fun z=>by rw[z,t]at e;cases e⟩
 · exact .inr h
end
theorem Fun.okC {P:Program}{w:World}{K:Frag}{mg:Str->Option Value}{base:Heap}{x qual:Str}{st:Stmt}{f c:Addr}{fd:FuncData}{N ps:List Str}{k:Nat}{sp:Sp} (F:Fun K x qual st f fd) (hc:fd.code=.ref c) (S:qr N ps (qh st)) (len:∀ vs H Q E,sp vs H Q E->vs.length=ps.length)
   (hbody:∀ (cdv:Value) (A:Around) (outer:List Env) (s:Shared) (H:Hp) (vs:List V) (Q:VK) (E:XK),cdv=.ref c->Room k (A.deeper (envOfC qual (qh st) s.heap.objs.size f cdv))->sp vs H Q E ->
     ∃ t,PSs (zc CX0 P w K mg base N qual (qh st) f cdv A outer s H E).nox (zj st) t∧t { nx:=fun _ H'=>Q .non H',rt:=Q } (JJ N vs) H):qB P w K mg base CX0 (k+1) f fd ps sp:=by
 obtain⟨oc,od,kV,doc,pm,an,cdv,ct,osl,rfl,lk,hcd⟩:=F.ex;refine qgH lk hcd S len fun A outer s H vs Q E hr hsp=>?_;obtain⟨t,h,q⟩:=hbody cdv A outer s H vs Q E hc hr hsp;exact⟨t,h.nox,q⟩
end L2
namespace SetO
open PySem
end SetO
set_option maxHeartbeats 8000000
namespace L2
open PySem PySem.Spec PyProof.Rows
open PySem.W (Frag)
def qir:R2:=fun x y H Q=>∃ (c:Nat) (n:Int),x=.str ⟨#[c]⟩∧y=.int n∧1≤n∧n≤1000∧Q (.str ⟨(List.replicate n.toNat c).toArray⟩) H
theorem qdw (c:Nat):∀ (n:Nat) (acc:Array Nat),(List.replicate n (#[c]:Array Nat)).foldl (·++·) acc=acc++(List.replicate n c).toArray
 | 0,acc=>by simp
 | n+1,acc=>by
   rw[List.replicate_succ,List.foldl_cons,qdw c n,List.replicate_succ];apply Array.toList_inj.mp;simp
section
variable {X:Cx}
theorem qgs:OpR X (binaryOp .Mult) qir:=by
 intro pins s σ H x y v u Q I rx ry h;obtain⟨c,n,rfl,rfl,n2,n1,q⟩:=h;obtain⟨t,rfl⟩:=rx;obtain⟨t',rfl⟩:=ry;have hz:(1000:Nat)≤sizeLine:=by decide
 have l1:(⟨#[c]⟩:Str).length=1:=rfl;refine P.mul_str ?_ (fun _ _=>?_) (fun _ _=>?_) ?_
 · rw[decide_eq_false (by omega),decide_eq_false (by omega)];rfl
 · intro hq
   have h1:(2 ^ 63 - 1:Int) / 1000≤(2 ^ 63 - 1) / n:=by
     refine Int.le_ediv_of_mul_le (by omega) ?_
     have:(2 ^ 63 - 1:Int) / 1000 * n≤(2 ^ 63 - 1:Int) / 1000 * 1000:=Int.mul_le_mul_of_nonneg_left n1 (by decide)
     exact Int.le_trans this (by decide)
   have h2:(1000:Int)≤(2 ^ 63 - 1:Int) / 1000:=by decide
   rw[l1]at hq;omega
 · have:¬ ((⟨#[c]⟩:Str).length * n.toNat > sizeLine):=by rw[l1];omega
   exact decide_eq_false this
 · rw[if_neg (by omega)];by_cases e:n=1
   · subst e;rw[if_pos (by rfl)];exact⟨.str _,H,I,⟨_,rfl⟩,q⟩
   · rw[if_neg (by
       intro hc;rcases Bool.or_eq_true_iff.mp hc with h|h
       · have:=eq_of_beq h;omega
       · have:=eq_of_beq h;rw[l1]at this;omega)]
     rw[qdw c,Array.empty_append];exact⟨(by show (List.replicate n.toNat c).toArray.size≤_;rw[List.size_toArray,List.length_replicate];omega),.str _,H,I.tok _,⟨_,rfl⟩,q⟩
def qi8 (K:Frag):List V->Hp->VK->Prop:=fun xs H Q=>∃ (p:Addr) (bs:List Bool),xs=[.ref p]∧SqL K H p (bs.map V.bl)∧Q (.bl (bs.any id)) H
theorem qbH {α:Type} (f:α->Bool) (d:α):∀ l:List α,(List.range l.length).any (fun i=>f (l.getD i d))=l.any f
 | []=>rfl
 | a::l=>by
   rw[List.length_cons,List.range_succ_eq_map,List.any_cons,List.any_map,List.any_cons,← qbH f d l];rfl
theorem qen (hc:X.calm=true):Z3 X (.builtin "any") (qi8 X.K):=by
 intro pins s σ H xs us Q I r h;obtain⟨p,bs,rfl,hq,q⟩:=h;obtain⟨u,rfl,ru⟩:=JI r;cases ru;obtain⟨its,rv,pl,hz⟩:=I.list hq;have eits:=qbZ rv;subst eits;have hlt:p < s.heap.objs.size:=by obtain⟨_,_,e,_⟩:=pl;exact Heap.lt_size e
 refine call_any_walk (wpAny_pyIter_list pl.isList ?_);have W:=Walks.list (prog:=X.prog) (w:=X.w) (A:=X.A.in1) (I.ok.hd hc) s.heap.objs.size p (Nat.ne_of_lt hlt) (bs.map Value.bool).toArray;refine⟨_,_,_,_,_,_,(fun i=>(bs.getD i true)),rfl,W,⟨⟨_,Heap.get?_push_size _ rfl,rfl,rfl⟩,pl.isList.push _⟩,?_,?_⟩
 · intro i v s' Q' E' hP hQ;have hv:(bs.map Value.bool)[i]?=some v:=by simpa using hP
   rw[List.getElem?_map]at hv
   cases e:bs[i]? with
   | none=>rw[e]at hv;cases hv
   | some b =>
     rw[e]at hv;cases hv;have e2:bs.getD i true=b:=by rw[List.getD_eq_getElem?_getD,e];rfl
     have hQ:Q' (bs.getD i true) s':=hQ;rw[e2]at hQ;exact wpAny_truthy_bool hQ
 · intro h' tk hk;have es:(bs.map Value.bool).toArray.size=bs.length:=by simp
   have ea:(List.range (bs.map Value.bool).toArray.size).any (fun i=>bs.getD i true)=bs.any id:=by rw[es];exact qbH id true bs
   refine⟨.bl _,H,?_,by rw[ea];rfl,q⟩;exact I.kept (t':=tk) fun b o e=>hk b o (by simp;exact Nat.ne_of_lt (Heap.lt_size e)) (Heap.get?_push_of_some _ e)
theorem qet:bootBuiltins "any"=some (.builtin "any"):=by decide +kernel
def qiq:R2:=fun x y H Q=>∃ (c:Nat) (n:Int),x=.str ⟨#[c]⟩∧y=.int n∧0≤n∧n≤1000∧Q (.str ⟨(List.replicate n.toNat c).toArray⟩) H
theorem qaI:OpR X (binaryOp .Mult) qiq:=by
 intro pins s σ H x y v u Q I rx ry h;obtain⟨c,n,rfl,rfl,n2,n1,q⟩:=h;by_cases e:n=0
 · subst e;obtain⟨t,rfl⟩:=rx;obtain⟨t',rfl⟩:=ry;refine P.mul_str rfl (fun z=>absurd (by decide) z) (fun z=>absurd (by decide) z) ?_;rw[if_pos (by decide)];exact⟨Nat.zero_le _,.str _,H,I.tok _,⟨_,rfl⟩,q⟩
 · exact qgs pins s σ H _ _ _ _ Q I rx ry ⟨c,n,rfl,rfl,by omega,n1,q⟩
end
end L2
namespace M04
open L2
def Mem (ws:List (Int×Int)) (n:Int):Prop:=∃ w∈ws,w.1≤n∧n≤w.2
def JH (ws:List (Int×Int)):Prop:=(∀ w∈ws,w.1≤w.2)∧ws.Pairwise fun a b=>a.2+1 < b.1
def JU (acc:List (Int×Int)) (w:Int×Int):List (Int×Int):=match acc.getLast? with
 | some l=>if w.1≤l.2+1 then acc.set (acc.length - 1) (l.1,if w.2 > l.2 then w.2 else l.2) else acc++[w]
 | none=>[w]
theorem qaT (xs ys:List (Int×Int)) (n:Int):Mem (xs++ys) n↔Mem xs n∨Mem ys n:=by
 constructor
 · rintro⟨w,hw,h⟩;rcases List.mem_append.mp hw with m|m
   · exact .inl ⟨w,m,h⟩
   · exact .inr ⟨w,m,h⟩
 · rintro (⟨w,hw,h⟩|⟨w,hw,h⟩)
   · exact⟨w,List.mem_append.mpr (.inl hw),h⟩
   · exact⟨w,List.mem_append.mpr (.inr hw),h⟩
theorem Jr (w:Int×Int) (n:Int):Mem [w] n↔w.1≤n∧n≤w.2:=by
 constructor
 · rintro⟨x,hx,h⟩;have e:x=w:=by simpa using hx
   rw[← e];exact h
 · intro h;exact⟨w,by simp,h⟩
theorem mem_cons (w:Int×Int) (ws:List (Int×Int)) (n:Int):Mem (w::ws) n↔(w.1≤n∧n≤w.2)∨Mem ws n:=by
 rw[show w::ws=[w]++ws from rfl,qaT,Jr]
theorem qe5 {acc:List (Int×Int)}{l:Int×Int} (h:acc.getLast?=some l):∃ init,acc=init++[l] :=
 ⟨acc.dropLast,by
   have ne:acc≠[]:=fun z=>by rw[z]at h;cases h
   have e:acc.getLast ne=l:=by rw[List.getLast?_eq_some_getLast ne]at h;exact Option.some.inj h
   rw[← e];exact(List.dropLast_concat_getLast ne).symm⟩
theorem qeL (init:List (Int×Int)) (l x:Int×Int):(init++[l]).set ((init++[l]).length - 1) x=init++[x]:=by
 rw[List.length_append,show init.length+[l].length - 1=init.length by simp,List.set_append_right _ _ (Nat.le_refl _),Nat.sub_self];rfl
theorem canon_snoc {init:List (Int×Int)}{l:Int×Int}:JH (init++[l])↔JH init∧l.1≤l.2∧∀ a∈init,a.2+1 < l.1:=by
 unfold JH;constructor
 · rintro⟨h1,h2⟩;obtain⟨p1,_,p3⟩:=List.pairwise_append.mp h2;exact⟨⟨fun w m=>h1 w (by simp[m]),p1⟩,h1 l (by simp),fun a m=>p3 a m l (by simp)⟩
 · rintro⟨⟨h1,h2⟩,h3,h4⟩;refine⟨fun w m=>?_,List.pairwise_append.mpr ⟨h2,List.pairwise_singleton _ _,fun a ma b mb=>?_⟩⟩
   · rcases List.mem_append.mp m with m|m
     · exact h1 w m
     · have:w=l:=by simpa using m
       rw[this];exact h3
   · have:b=l:=by simpa using mb
     rw[this];exact h4 a ma
theorem qgc {acc:List (Int×Int)}{w:Int×Int} (c:JH acc) (hw:w.1≤w.2) (hl:∀ l∈acc,l.1≤w.1) :
   JH (JU acc w)∧(∀ n,Mem (JU acc w) n↔Mem acc n∨(w.1≤n∧n≤w.2))∧∀ l∈JU acc w,l.1≤w.1:=by
 cases e:acc.getLast? with
 | none =>
   have e0:acc=[]:=List.getLast?_eq_none_iff.mp e;subst e0;show JH [w]∧(∀ n,Mem [w] n↔Mem [] n∨_)∧∀ l∈[w],l.1≤w.1;refine⟨⟨fun x m=>?_,List.pairwise_singleton _ _⟩,fun n=>?_,fun x m=>?_⟩
   · have:x=w:=by simpa using m
     rw[this];exact hw
   · rw[Jr];exact⟨.inr,fun h=>h.elim (fun⟨_,z,_⟩=>nomatch z) id⟩
   · have:x=w:=by simpa using m
     rw[this];exact Int.le_refl _
 | some l =>
   obtain⟨init,rfl⟩:=qe5 e;obtain⟨c1,c2,c3⟩:=canon_snoc.mp c;have hl1:=hl l (by simp);unfold JU;rw[e];dsimp only;by_cases g:w.1≤l.2+1
   · rw[if_pos g,qeL];refine⟨canon_snoc.mpr ⟨c1,by show l.1≤(if w.2 > l.2 then w.2 else l.2);split<;>omega,c3⟩,fun n=>?_,fun x m=>?_⟩
     · rw[qaT,qaT,Jr,Jr,or_assoc];show _∨(l.1≤n∧n≤(if w.2 > l.2 then w.2 else l.2))↔_
       have:(l.1≤n∧n≤(if w.2 > l.2 then w.2 else l.2))↔((l.1≤n∧n≤l.2)∨(w.1≤n∧n≤w.2)):=by
         split<;>omega
       rw[this]
     · rcases List.mem_append.mp m with m|m
       · exact hl x (by simp[m])
       · have:x=(l.1,if w.2 > l.2 then w.2 else l.2):=by simpa using m
         rw[this];exact hl1
   · rw[if_neg g];refine⟨canon_snoc.mpr ⟨c,hw,fun a m=>?_⟩,fun n=>by rw[qaT _ [w],Jr],fun x m=>?_⟩
     · rcases List.mem_append.mp m with m|m
       · have:=c3 a m;omega
       · have:a=l:=by simpa using m
         rw[this];omega
     · rcases List.mem_append.mp m with m|m
       · exact hl x m
       · have:x=w:=by simpa using m
         rw[this];exact Int.le_refl _
theorem qea:∀ (S acc:List (Int×Int)),JH acc->(∀ w∈S,w.1≤w.2)->S.Pairwise (fun a b=>a.1≤b.1)->(∀ l∈acc,∀ w∈S,l.1≤w.1)->JH (S.foldl JU acc)∧∀ n,Mem (S.foldl JU acc) n↔Mem acc n∨Mem S n
 | [],acc,c,_,_,_=>⟨c,fun n=>⟨.inl,fun h=>h.elim id fun⟨_,z,_⟩=>nomatch z⟩⟩
 | w::S,acc,c,ok,hp,hl=>by
   obtain⟨p1,p2⟩:=List.pairwise_cons.mp hp;obtain⟨s1,s2,s3⟩:=qgc c (ok w (by simp)) fun l m=>hl l m w (by simp);obtain⟨f1,f2⟩:=qea S (JU acc w) s1 (fun x m=>ok x (by simp[m])) p2 fun l m x mx=>Int.le_trans (s3 l m) (p1 x mx);refine⟨f1,fun n=>?_⟩;rw[List.foldl_cons,f2,s2,mem_cons,or_assoc]
end M04
namespace K81
open PySem L2 PySem.NumText PyProof.Rows KC M04
open PySem.W (Frag keepIn kitOne fnOf codeIn nsIn)
def top (i:Nat):Stmt:=PySem.Challenge.pw_foldlog_k81_forms_of_entries.main.body.getD i (.Pass ⟨0,0,0,0⟩)
abbrev Jd:Stmt:=top 4
theorem qbc:qr ["thing"] ["thing"] (qh Jd):=⟨rfl,rfl,rfl,by decide +kernel,rfl,by decide +kernel,by decide +kernel⟩
abbrev J1:Stmt:=top 5
theorem qbO:qr ["thing","low","high"] ["thing","low","high"] (qh J1):=⟨rfl,rfl,rfl,by decide +kernel,rfl,by decide +kernel,by decide +kernel⟩
abbrev Je:Stmt:=top 6
theorem qbd:qr ["thing"] ["thing"] (qh Je):=⟨rfl,rfl,rfl,by decide +kernel,rfl,by decide +kernel,by decide +kernel⟩
abbrev jw:Stmt:=top 7
theorem qaC:qr ["thing"] ["thing"] (qh jw):=⟨rfl,rfl,rfl,by decide +kernel,rfl,by decide +kernel,by decide +kernel⟩
abbrev qbg:Stmt:=top 8
theorem qcJ:qr ["thing"] ["thing"] (qh qbg):=⟨rfl,rfl,rfl,by decide +kernel,rfl,by decide +kernel,by decide +kernel⟩
abbrev ZM:Stmt:=top 12
theorem JK:qr ["number"] ["number"] (qh ZM):=⟨rfl,rfl,rfl,by decide +kernel,rfl,by decide +kernel,by decide +kernel⟩
abbrev jx:Stmt:=top 13
theorem sc_clock_text:qr ["number","day","hours","minutes"] ["number"] (qh jx):=⟨rfl,rfl,rfl,by decide +kernel,rfl,by decide +kernel,by decide +kernel⟩
abbrev jv:Stmt:=top 25
theorem qaB:qr ["thing"] ["thing"] (qh jv):=⟨rfl,rfl,rfl,by decide +kernel,rfl,by decide +kernel,by decide +kernel⟩
abbrev Qc:Stmt:=top 26
theorem sc_check_stretches:qr ["stretches","place","stretch"] ["stretches"] (qh Qc):=⟨rfl,rfl,rfl,by decide +kernel,rfl,by decide +kernel,by decide +kernel⟩
abbrev J0:Stmt:=top 27
theorem sc_spans_of:qr ["stretches","told","low","high"] ["stretches"] (qh J0):=⟨rfl,rfl,rfl,by decide +kernel,rfl,by decide +kernel,by decide +kernel⟩
abbrev J6:Stmt:=top 29
theorem qbP:qr ["spans"] ["spans"] (qh J6):=⟨rfl,rfl,rfl,by decide +kernel,rfl,by decide +kernel,by decide +kernel⟩
abbrev jz:Stmt:=top 33
theorem qaD:qr ["thing"] ["thing"] (qh jz):=⟨rfl,rfl,rfl,by decide +kernel,rfl,by decide +kernel,by decide +kernel⟩
abbrev Zd:Stmt:=top 34
theorem j7:qr ["thing"] ["thing"] (qh Zd):=⟨rfl,rfl,rfl,by decide +kernel,rfl,by decide +kernel,by decide +kernel⟩
abbrev QO:Stmt:=top 35
theorem jO:qr ["thing"] ["thing"] (qh QO):=⟨rfl,rfl,rfl,by decide +kernel,rfl,by decide +kernel,by decide +kernel⟩
abbrev ZN:Stmt:=top 43
theorem sc_check_parts:qr ["parts","part"] ["parts"] (qh ZN):=⟨rfl,rfl,rfl,by decide +kernel,rfl,by decide +kernel,by decide +kernel⟩
abbrev jy:Stmt:=top 44
theorem sc_check_part:qr ["part","many"] ["part"] (qh jy):=⟨rfl,rfl,rfl,by decide +kernel,rfl,by decide +kernel,by decide +kernel⟩
abbrev ju:Stmt:=top 46
theorem qaA:qr ["entry"] ["entry"] (qh ju):=⟨rfl,rfl,rfl,by decide +kernel,rfl,by decide +kernel,by decide +kernel⟩
abbrev jt:Stmt:=top 47
theorem sc_plain_form:qr ["entry","clocks"] ["entry"] (qh jt):=⟨rfl,rfl,rfl,by decide +kernel,rfl,by decide +kernel,by decide +kernel⟩
abbrev Jf:Stmt:=top 48
theorem sc_form_text:qr ["entry","parts","form"] ["entry"] (qh Jf):=⟨rfl,rfl,rfl,by decide +kernel,rfl,by decide +kernel,by decide +kernel⟩
abbrev Jc:Stmt:=top 50
theorem qcI:qr ["low","high"] ["low","high"] (qh Jc):=⟨rfl,rfl,rfl,by decide +kernel,rfl,by decide +kernel,by decide +kernel⟩
abbrev qaa:Stmt:=top 52
theorem qbQ:qr ["_law_script","_law_k"] ["_law_script","_law_k"] (qh qaa):=⟨rfl,rfl,rfl,by decide +kernel,rfl,by decide +kernel,by decide +kernel⟩
abbrev qcd:Stmt:=top 53
theorem qdr:qr ["_law_found"] ["_law_found"] (qh qcd):=⟨rfl,rfl,rfl,by decide +kernel,rfl,by decide +kernel,by decide +kernel⟩
abbrev qch:Stmt:=top 54
theorem sc_Ldraws:qr ["_law_cell","_law_menus_here","_law_found","_law_left","_law_k","_law_number"] ["_law_cell","_law_menus_here"] (qh qch):=⟨rfl,rfl,rfl,by decide +kernel,rfl,by decide +kernel,by decide +kernel⟩
abbrev qci:Stmt:=top 55
theorem sc_Lclock:qr ["_law_number","_law_rest","_law_hours","_law_minutes"] ["_law_number"] (qh qci):=⟨rfl,rfl,rfl,by decide +kernel,rfl,by decide +kernel,by decide +kernel⟩
abbrev qdt:Stmt:=top 56
theorem sc_Lname:qr ["_law_draws_here","_law_some","_law_letters","_law_at"] ["_law_draws_here"] (qh qdt):=⟨rfl,rfl,rfl,by decide +kernel,rfl,by decide +kernel,by decide +kernel⟩
abbrev qcf:Stmt:=top 57
theorem qds:qr [] [] (qh qcf):=⟨rfl,rfl,rfl,by decide +kernel,rfl,by decide +kernel,by decide +kernel⟩
abbrev qbh:Stmt:=top 58
theorem sc_Lsingle:qr ["_law_name_here","_law_place","_law_draws_here","_law_kind","_law_near","_law_low","_law_high","_law_far","_law_more","_law_first","_law_last","_law_word"] ["_law_name_here","_law_place","_law_draws_here"] (qh qbh):=⟨rfl,rfl,rfl,by decide +kernel,rfl,by decide +kernel,by decide +kernel⟩
abbrev qdu:Stmt:=top 59
theorem sc_Llike:qr ["_law_entry","_law_name_here","_law_fields","_law_word","_law_numbers"] ["_law_entry","_law_name_here","_law_fields"] (qh qdu):=⟨rfl,rfl,rfl,by decide +kernel,rfl,by decide +kernel,by decide +kernel⟩
abbrev J9:Stmt:=top 60
theorem sc_Lrefused:qr ["_law_entry","_law_name_here","e"] ["_law_entry","_law_name_here"] (qh J9):=⟨rfl,rfl,rfl,by decide +kernel,rfl,by decide +kernel,by decide +kernel⟩
abbrev qhb:Stmt:=top 61
theorem sc_Lis:qr ["_law_entry","_law_due","_law_found"] ["_law_entry","_law_due"] (qh qhb):=⟨rfl,rfl,rfl,by decide +kernel,rfl,by decide +kernel,by decide +kernel⟩
abbrev qcg:Stmt:=top 62
theorem sc_Ljoint:qr ["_law_name_here","_law_place","_law_draws_here","_law_parts","_law_words","_law_kinds","_law_k","_law_one","_law_word","_law_fields","_law_at","_law_entry","_law_due"] ["_law_name_here","_law_place","_law_draws_here"] (qh qcg):=⟨rfl,rfl,rfl,by decide +kernel,rfl,by decide +kernel,by decide +kernel⟩
abbrev qbi:Stmt:=top 63
theorem sc_Lsifted:qr ["_law_name_here","_law_place","_law_draws_here","_law_part","_law_low"] ["_law_name_here","_law_place","_law_draws_here"] (qh qbi):=⟨rfl,rfl,rfl,by decide +kernel,rfl,by decide +kernel,by decide +kernel⟩
abbrev qce:Stmt:=top 64
theorem sc_Lright:qr ["_law_cell","_law_draws_here","_law_name_here","_law_place","_law_entry","_law_due","_law_fields","_law_other","_law_word","_law_kinds"] ["_law_cell"] (qh qce):=⟨rfl,rfl,rfl,by decide +kernel,rfl,by decide +kernel,by decide +kernel⟩
abbrev qha:Stmt:=top 65
theorem sc_law:qr ["_law_script","_law_cell"] ["_law_script"] (qh qha):=⟨rfl,rfl,rfl,by decide +kernel,rfl,by decide +kernel,by decide +kernel⟩
abbrev jC:Stmt:=qX (top 36) 0
theorem qaG:qr ["self","name"] ["self","name"] (qh jC):=⟨rfl,rfl,rfl,by decide +kernel,rfl,by decide +kernel,by decide +kernel⟩
abbrev jB:Stmt:=qX (top 36) 1
theorem qaF:qr ["self"] ["self"] (qh jB):=⟨rfl,rfl,rfl,by decide +kernel,rfl,by decide +kernel,by decide +kernel⟩
abbrev Zf:Stmt:=qX (top 36) 2
theorem j9:qr ["self"] ["self"] (qh Zf):=⟨rfl,rfl,rfl,by decide +kernel,rfl,by decide +kernel,by decide +kernel⟩
abbrev ZP:Stmt:=qX (top 37) 0
theorem JN:qr ["self","name","low","high"] ["self","name","low","high"] (qh ZP):=⟨rfl,rfl,rfl,by decide +kernel,rfl,by decide +kernel,by decide +kernel⟩
abbrev ZO:Stmt:=qX (top 37) 1
theorem JL:qr ["self"] ["self"] (qh ZO):=⟨rfl,rfl,rfl,by decide +kernel,rfl,by decide +kernel,by decide +kernel⟩
abbrev Ze:Stmt:=qX (top 37) 2
theorem j8:qr ["self","tables"] ["self","tables"] (qh Ze):=⟨rfl,rfl,rfl,by decide +kernel,rfl,by decide +kernel,by decide +kernel⟩
abbrev qbk:Stmt:=qX (top 38) 0
theorem qcL:qr ["self","name","moment"] ["self","name","moment"] (qh qbk):=⟨rfl,rfl,rfl,by decide +kernel,rfl,by decide +kernel,by decide +kernel⟩
abbrev qbj:Stmt:=qX (top 38) 1
theorem qcK:qr ["self"] ["self"] (qh qbj):=⟨rfl,rfl,rfl,by decide +kernel,rfl,by decide +kernel,by decide +kernel⟩
abbrev Zh:Stmt:=qX (top 39) 0
theorem Jb:qr ["self","name","place","low","high"] ["self","name","place","low","high"] (qh Zh):=⟨rfl,rfl,rfl,by decide +kernel,rfl,by decide +kernel,by decide +kernel⟩
abbrev Zg:Stmt:=qX (top 39) 1
theorem Ja:qr ["self"] ["self"] (qh Zg):=⟨rfl,rfl,rfl,by decide +kernel,rfl,by decide +kernel,by decide +kernel⟩
abbrev Qu:Stmt:=qX (top 39) 2
theorem ja:qr ["self"] ["self"] (qh Qu):=⟨rfl,rfl,rfl,by decide +kernel,rfl,by decide +kernel,by decide +kernel⟩
abbrev Jh:Stmt:=qX (top 40) 0
theorem qbf:qr ["self","name","place","reading"] ["self","name","place","reading"] (qh Jh):=⟨rfl,rfl,rfl,by decide +kernel,rfl,by decide +kernel,by decide +kernel⟩
abbrev Jg:Stmt:=qX (top 40) 1
theorem qbe:qr ["self"] ["self"] (qh Jg):=⟨rfl,rfl,rfl,by decide +kernel,rfl,by decide +kernel,by decide +kernel⟩
abbrev jA:Stmt:=qX (top 41) 0
theorem qaE:qr ["self","name","parts"] ["self","name","parts"] (qh jA):=⟨rfl,rfl,rfl,by decide +kernel,rfl,by decide +kernel,by decide +kernel⟩
abbrev ZR:Stmt:=qX (top 41) 2
theorem JP:qr ["self"] ["self"] (qh ZR):=⟨rfl,rfl,rfl,by decide +kernel,rfl,by decide +kernel,by decide +kernel⟩
abbrev ZQ:Stmt:=qX (top 42) 0
theorem JO:qr ["self","name","part","keeps"] ["self","name","part","keeps"] (qh ZQ):=⟨rfl,rfl,rfl,by decide +kernel,rfl,by decide +kernel,by decide +kernel⟩
abbrev Qt:Stmt:=qX (top 23) 0
theorem Z9:qr ["self","name"] ["self","name"] (qh Qt):=⟨rfl,rfl,rfl,by decide +kernel,rfl,by decide +kernel,by decide +kernel⟩
abbrev QP:Stmt:=qX (top 15) 0
theorem jP:qr ["self","text"] ["self","text"] (qh QP):=⟨rfl,rfl,rfl,by decide +kernel,rfl,by decide +kernel,by decide +kernel⟩
set_option genInjectivity false in
structure Ad where
 k_on_days:Addr
 t_on_days:Addr
 c_LogError:Addr
 c_NoSpans:Addr
 c_TooMany:Addr
 c_NoMoment:Addr
 c_NoReading:Addr
 c_NoName:Addr
 c_NoPlace:Addr
 c_NoEntry:Addr
 c_Unwritten:Addr
 c_Entry:Addr
 c_Within:Addr
 c_At:Addr
 c_Between:Addr
 c_Read:Addr
 c_Joint:Addr
 c_Sifted:Addr
 f_d:Addr
 fd_d:FuncData
 f_k:Addr
 fd_k:FuncData
 f_F:Addr
 fd_F:FuncData
 f_G:Addr
 fd_G:FuncData
 f_H:Addr
 fd_H:FuncData
 f_x:Addr
 fd_x:FuncData
 f_I:Addr
 fd_I:FuncData
 f_J:Addr
 fd_J:FuncData
 f_K:Addr
 fd_K:FuncData
 f_L:Addr
 fd_L:FuncData
 f_M:Addr
 fd_M:FuncData
 f_l:Addr
 fd_l:FuncData
 f_y:Addr
 fd_y:FuncData
 f_z:Addr
 fd_z:FuncData
 f_N:Addr
 fd_N:FuncData
 f_O:Addr
 fd_O:FuncData
 f_P:Addr
 fd_P:FuncData
 f_Q:Addr
 fd_Q:FuncData
 f_m:Addr
 fd_m:FuncData
 f_j:Addr
 fd_j:FuncData
 f_R:Addr
 fd_R:FuncData
 f_A:Addr
 fd_A:FuncData
 f_S:Addr
 fd_S:FuncData
 f_c:Addr
 fd_c:FuncData
 f_B:Addr
 fd_B:FuncData
 f_T:Addr
 fd_T:FuncData
 f_e:Addr
 fd_e:FuncData
 f_f:Addr
 fd_f:FuncData
 f_g:Addr
 fd_g:FuncData
 f_a:Addr
 fd_a:FuncData
 f_U:Addr
 fd_U:FuncData
 f_V:Addr
 fd_V:FuncData
 f_C:Addr
 fd_C:FuncData
 f_Z:Addr
 fd_Z:FuncData
 f_b:Addr
 fd_b:FuncData
 f_n:Addr
 fd_n:FuncData
 f_o:Addr
 fd_o:FuncData
 f_h:Addr
 fd_h:FuncData
 f_p:Addr
 fd_p:FuncData
 f_D:Addr
 fd_D:FuncData
 f_u:Addr
 fd_u:FuncData
 f_q:Addr
 fd_q:FuncData
 f_r:Addr
 fd_r:FuncData
 f_s:Addr
 fd_s:FuncData
 f_E:Addr
 fd_E:FuncData
 f_v:Addr
 fd_v:FuncData
 f_t:Addr
 fd_t:FuncData
 f_W:Addr
 fd_W:FuncData
 f_i:Addr
 fd_i:FuncData
 f_w:Addr
 fd_w:FuncData
 f_X:Addr
 fd_X:FuncData
 f_Y:Addr
 fd_Y:FuncData
structure DfM (K:Frag) (C:Addr) (x q:Str) (st:Stmt) (ps:List Str) (f:Addr) (fd:FuncData):Prop where
 F:Fun K x q st f fd
 b:Binds K fd ps []
 mt:qfm K C x f
structure Txt (K:Frag) (mg:Str->Option Value) (a:Ad):Prop where
 d_d:Df K mg "is_number" Jd ["thing"] a.f_d a.fd_d
 d_k:Df K mg "is_whole" J1 ["thing","low","high"] a.f_k a.fd_k
 d_F:Df K mg "is_moment" Je ["thing"] a.f_F a.fd_F
 d_G:Df K mg "is_reading" jw ["thing"] a.f_G a.fd_G
 d_H:Df K mg "is_name" qbg ["thing"] a.f_H a.fd_H
 d_x:Df K mg "two_figures" ZM ["number"] a.f_x a.fd_x
 d_I:Df K mg "clock_text" jx ["number"] a.f_I a.fd_I
 d_J:Df K mg "is_stretch" jv ["thing"] a.f_J a.fd_J
 d_K:Df K mg "check_stretches" Qc ["stretches"] a.f_K a.fd_K
 d_L:Df K mg "spans_of" J0 ["stretches"] a.f_L a.fd_L
 d_M:Df K mg "how_many" J6 ["spans"] a.f_M a.fd_M
 d_l:Df K mg "check_name" jz ["thing"] a.f_l a.fd_l
 d_y:Df K mg "check_moment" Zd ["thing"] a.f_y a.fd_y
 d_z:Df K mg "check_reading" QO ["thing"] a.f_z a.fd_z
 d_N:Df K mg "check_parts" ZN ["parts"] a.f_N a.fd_N
 d_O:Df K mg "check_part" jy ["part"] a.f_O a.fd_O
 d_P:Df K mg "numbers_of" ju ["entry"] a.f_P a.fd_P
 d_Q:Df K mg "plain_form" jt ["entry"] a.f_Q a.fd_Q
 d_m:Df K mg "form_text" Jf ["entry"] a.f_m a.fd_m
 d_j:Df K mg "on_days" Jc ["low","high"] a.f_j a.fd_j
 d_R:Df K mg "_law_cell_at" qaa ["_law_script","_law_k"] a.f_R a.fd_R
 d_A:Df K mg "_law_whole" qcd ["_law_found"] a.f_A a.fd_A
 d_S:Df K mg "_law_draws" qch ["_law_cell","_law_menus_here"] a.f_S a.fd_S
 d_c:Df K mg "_law_clock" qci ["_law_number"] a.f_c a.fd_c
 d_B:Df K mg "_law_name" qdt ["_law_draws_here"] a.f_B a.fd_B
 d_T:Df K mg "_law_menus" qcf [] a.f_T a.fd_T
 d_e:Df K mg "_law_single" qbh ["_law_name_here","_law_place","_law_draws_here"] a.f_e a.fd_e
 d_f:Df K mg "_law_like" qdu ["_law_entry","_law_name_here","_law_fields"] a.f_f a.fd_f
 d_g:Df K mg "_law_refused" J9 ["_law_entry","_law_name_here"] a.f_g a.fd_g
 d_a:Df K mg "_law_is" qhb ["_law_entry","_law_due"] a.f_a a.fd_a
 d_U:Df K mg "_law_joint" qcg ["_law_name_here","_law_place","_law_draws_here"] a.f_U a.fd_U
 d_V:Df K mg "_law_sifted" qbi ["_law_name_here","_law_place","_law_draws_here"] a.f_V a.fd_V
 d_C:Df K mg "_law_right" qce ["_law_cell"] a.f_C a.fd_C
 d_Z:Df K mg "law" qha ["_law_script"] a.f_Z a.fd_Z
 d_b:DfM K a.c_Entry "__init__" "Entry.__init__" jC ["self","name"] a.f_b a.fd_b
 d_n:DfM K a.c_Entry "word" "Entry.word" jB ["self"] a.f_n a.fd_n
 d_o:DfM K a.c_Entry "places" "Entry.places" Zf ["self"] a.f_o a.fd_o
 d_h:DfM K a.c_Within "__init__" "Within.__init__" ZP ["self","name","low","high"] a.f_h a.fd_h
 d_p:DfM K a.c_Within "word" "Within.word" ZO ["self"] a.f_p a.fd_p
 d_D:DfM K a.c_Within "spans" "Within.spans" Ze ["self","tables"] a.f_D a.fd_D
 d_u:DfM K a.c_At "__init__" "At.__init__" qbk ["self","name","moment"] a.f_u a.fd_u
 d_q:DfM K a.c_At "word" "At.word" qbj ["self"] a.f_q a.fd_q
 d_r:DfM K a.c_Between "__init__" "Between.__init__" Zh ["self","name","place","low","high"] a.f_r a.fd_r
 d_s:DfM K a.c_Between "word" "Between.word" Zg ["self"] a.f_s a.fd_s
 d_E:DfM K a.c_Between "places" "Between.places" Qu ["self"] a.f_E a.fd_E
 d_v:DfM K a.c_Read "__init__" "Read.__init__" Jh ["self","name","place","reading"] a.f_v a.fd_v
 d_t:DfM K a.c_Read "word" "Read.word" Jg ["self"] a.f_t a.fd_t
 d_W:DfM K a.c_Joint "__init__" "Joint.__init__" jA ["self","name","parts"] a.f_W a.fd_W
 d_i:DfM K a.c_Joint "parts" "Joint.parts" ZR ["self"] a.f_i a.fd_i
 d_w:DfM K a.c_Sifted "__init__" "Sifted.__init__" ZQ ["self","name","part","keeps"] a.f_w a.fd_w
 d_X:DfM K a.c_Unwritten "__init__" "Unwritten.__init__" Qt ["self","name"] a.f_X a.fd_X
 d_Y:DfM K a.c_LogError "__init__" "LogError.__init__" QP ["self","text"] a.f_Y a.fd_Y
 g_Entry:mg "Entry"=some (.ref a.c_Entry)
 cl_Entry:Cls K a.c_Entry
 M_Entry:Mk K a.c_Entry a.f_b
 n_Entry_name:NoAttr K a.c_Entry "name"
 g_Within:mg "Within"=some (.ref a.c_Within)
 cl_Within:Cls K a.c_Within
 M_Within:Mk K a.c_Within a.f_h
 n_Within_low:NoAttr K a.c_Within "low"
 n_Within_high:NoAttr K a.c_Within "high"
 n_Within_name:NoAttr K a.c_Within "name"
 g_At:mg "At"=some (.ref a.c_At)
 cl_At:Cls K a.c_At
 M_At:Mk K a.c_At a.f_u
 n_At_low:NoAttr K a.c_At "low"
 n_At_high:NoAttr K a.c_At "high"
 n_At_name:NoAttr K a.c_At "name"
 g_Between:mg "Between"=some (.ref a.c_Between)
 cl_Between:Cls K a.c_Between
 M_Between:Mk K a.c_Between a.f_r
 n_Between_place:NoAttr K a.c_Between "place"
 n_Between_low:NoAttr K a.c_Between "low"
 n_Between_high:NoAttr K a.c_Between "high"
 n_Between_name:NoAttr K a.c_Between "name"
 g_Read:mg "Read"=some (.ref a.c_Read)
 cl_Read:Cls K a.c_Read
 M_Read:Mk K a.c_Read a.f_v
 n_Read_place:NoAttr K a.c_Read "place"
 n_Read_low:NoAttr K a.c_Read "low"
 n_Read_high:NoAttr K a.c_Read "high"
 n_Read_name:NoAttr K a.c_Read "name"
 g_Joint:mg "Joint"=some (.ref a.c_Joint)
 cl_Joint:Cls K a.c_Joint
 M_Joint:Mk K a.c_Joint a.f_W
 n_Joint_kept_parts:NoAttr K a.c_Joint "kept_parts"
 n_Joint_name:NoAttr K a.c_Joint "name"
 g_Sifted:mg "Sifted"=some (.ref a.c_Sifted)
 cl_Sifted:Cls K a.c_Sifted
 M_Sifted:Mk K a.c_Sifted a.f_w
 n_Sifted_part:NoAttr K a.c_Sifted "part"
 n_Sifted_keeps:NoAttr K a.c_Sifted "keeps"
 n_Sifted_name:NoAttr K a.c_Sifted "name"
 n_len:mg "len"=none
 n_max:mg "max"=none
 n_min:mg "min"=none
 n_isinstance:mg "isinstance"=none
 n_range:mg "range"=none
 n_enumerate:mg "enumerate"=none
 n_int:mg "int"=none
 n_bool:mg "bool"=none
 n_str:mg "str"=none
 n_list:mg "list"=none
 n_tuple:mg "tuple"=none
 n_sorted:mg "sorted"=none
 n_sum:mg "sum"=none
 n_all:mg "all"=none
 n_any:mg "any"=none
 g_LAST:∃ t,mg "LAST"=some (.int 1000000000 t)
 g_WIDEST_READING:∃ t,mg "WIDEST_READING"=some (.int 10000000000 t)
 g_LONGEST_NAME:∃ t,mg "LONGEST_NAME"=some (.int 8 t)
 g_HOUR:∃ t,mg "HOUR"=some (.int 60 t)
 g_DAY:∃ t,mg "DAY"=some (.int 1440 t)
 g_MOST_PARTS:∃ t,mg "MOST_PARTS"=some (.int 8 t)
 g_MOST_SIFTED:∃ t,mg "MOST_SIFTED"=some (.int 1000 t)
 n_ValueError:mg "ValueError"=none
 g_LogError:mg "LogError"=some (.ref a.c_LogError)
 g_NoSpans:mg "NoSpans"=some (.ref a.c_NoSpans)
 g_TooMany:mg "TooMany"=some (.ref a.c_TooMany)
 g_NoMoment:mg "NoMoment"=some (.ref a.c_NoMoment)
 g_NoReading:mg "NoReading"=some (.ref a.c_NoReading)
 g_NoName:mg "NoName"=some (.ref a.c_NoName)
 g_NoPlace:mg "NoPlace"=some (.ref a.c_NoPlace)
 g_NoEntry:mg "NoEntry"=some (.ref a.c_NoEntry)
 g_Unwritten:mg "Unwritten"=some (.ref a.c_Unwritten)
 xl_LogError:xIn K a.c_LogError=true
 ci_LogError:qez K a.c_LogError a.f_Y
 X_Unwritten:XMk K a.c_Unwritten a.f_X
 up_Unwritten:PySem.W.mroIn K a.c_Unwritten (.ref a.c_LogError)=some true
 n_Unwritten_name:NoAttr K a.c_Unwritten "name"
 is_Unwritten_Unwritten:qeE K a.c_Unwritten (.ref a.c_Unwritten)=some true
 is_Unwritten_LogError:qeE K a.c_Unwritten (.ref a.c_LogError)=some true
 i_Within_places:qfm K a.c_Within "places" a.f_o
 i_At_places:qfm K a.c_At "places" a.f_o
 i_At_spans:qfm K a.c_At "spans" a.f_D
 i_Read_places:qfm K a.c_Read "places" a.f_E
 ci_Entry:qez K a.c_Entry a.f_b
 ci_Within:qez K a.c_Within a.f_h
 ci_Between:qez K a.c_Between a.f_r
 mr_Entry:XMro K a.c_Entry [some a.c_Entry,none]
 io_Entry:InsF K a.c_Entry
 mr_Within:XMro K a.c_Within [some a.c_Within,some a.c_Entry,none]
 io_Within:InsF K a.c_Within
 mr_At:XMro K a.c_At [some a.c_At,some a.c_Within,some a.c_Entry,none]
 io_At:InsF K a.c_At
 mr_Between:XMro K a.c_Between [some a.c_Between,some a.c_Entry,none]
 io_Between:InsF K a.c_Between
 mr_Read:XMro K a.c_Read [some a.c_Read,some a.c_Between,some a.c_Entry,none]
 io_Read:InsF K a.c_Read
 mr_Joint:XMro K a.c_Joint [some a.c_Joint,some a.c_Entry,none]
 io_Joint:InsF K a.c_Joint
 mr_Sifted:XMro K a.c_Sifted [some a.c_Sifted,some a.c_Entry,none]
 io_Sifted:InsF K a.c_Sifted
 t_Entry:qfn K a.c_Entry
 t_Within:qfn K a.c_Within
 t_At:qfn K a.c_At
 t_Between:qfn K a.c_Between
 t_Read:qfn K a.c_Read
 t_Joint:qfn K a.c_Joint
 t_Sifted:qfn K a.c_Sifted
 ndc:([a.c_Entry,a.c_Within,a.c_At,a.c_Between,a.c_Read,a.c_Joint,a.c_Sifted]:List Addr).Nodup
 cd_on_days:a.fd_j.code=.ref a.k_on_days
 hd_on_days:PySem.W.codeHdIn K a.k_on_days a.t_on_days=true
theorem qd1 {n j:Nat} (h:j < n):ixN n (j:Int)=some j:=by
 unfold ixN;rw[if_pos (by omega),if_pos (by omega)];simp
theorem Jt {α β:Type}{f:α->β}{xs:List α}{i:Nat}{y:β} (h:(xs.map f)[i]?=some y):∃ x,xs[i]?=some x∧y=f x:=by
 rw[List.getElem?_map]at h
 cases e:xs[i]? with
 | none=>rw[e]at h;cases h
 | some x=>rw[e]at h;exact⟨x,rfl,(Option.some.inj h).symm⟩
def g2 (p:Int×Int):List Int:=[p.1,p.2]
abbrev pr:Int×Int->List V:=fun p=>(g2 p).map V.int
theorem qaZ {α:Type}{xs:List α}{x:α} (h:xs.getLast?=some x):atI xs (-1)=some x:=by
 have hne:0 < xs.length:=List.length_pos_iff.mpr (fun z=>by rw[z]at h;cases h);unfold atI ixN;rw[if_neg (by decide),if_pos (by omega)];show xs[((-1:Int)+(xs.length:Int)).toNat]?=_;rw[tn_ xs.length,← List.getLast?_eq_getElem?];exact h
theorem qe6 {n:Nat} (h:0 < n):ixN n (-1)=some (n - 1):=by
 unfold ixN;rw[if_neg (by decide),if_pos (by omega)];rw[tn_ n]
theorem TupL.last {H:Hp}{zs:List V}{ps:List (Int×Int)}{p:Int×Int} (h:TupL pr H zs ps) (e:ps.getLast?=some p):∃ t,zs.getLast?=some (.ref t)∧H t=some (.tup (pr p)):=by
 rw[List.getLast?_eq_getElem?]at e;obtain⟨t,h1,h2⟩:=h.at_ e;exact⟨t,by rw[List.getLast?_eq_getElem?,h.1];exact h1,h2⟩
theorem TupL.set {H:Hp}{zs:List V}{ps:List (Int×Int)}{i:Nat}{t:Addr}{p:Int×Int} (h:TupL pr H zs ps) (e:H t=some (.tup (pr p))):TupL pr H (zs.set i (.ref t)) (ps.set i p):=⟨by rw[List.length_set,List.length_set,h.1],fun j z y e1 e2=>by
 rw[List.getElem?_set]at e1 e2;by_cases hj:i=j
 · rw[if_pos hj]at e1 e2;split at e1
   · split at e2
     · cases e1;cases e2;exact⟨t,rfl,e⟩
     · cases e2
   · cases e1
 · rw[if_neg hj]at e1 e2
   exact h.2 j z y e1 e2⟩
inductive qje (H:Hp) (q:Addr) (rows:List (Int×Int)):Prop
 | mk (zs:_) (h1:H q=some (.lst zs)) (h2:TupL pr H zs rows):qje H q rows
def Rs (H:Hp) (q:Addr) (rows:List (Int×Int)):Prop:=qje H q rows
def sgn (c:Nat):Bool:=(!decide ((⟨#[c]⟩:Str).cps.toList < ("a":Str).cps.toList)) && (!decide (("z":Str).cps.toList < (⟨#[c]⟩:Str).cps.toList))
def zg:V->Bool
 | .str x=>decide (1≤x.length) && decide (x.length≤8) && x.cps.toList.all sgn
 | _=>false
theorem qdh {l:List Nat}{i c:Nat} (h:l[i]?=some c):l.take (i+1)=l.take i++[c]:=by
 rw[List.take_add_one,h];rfl
theorem qge {n:Nat} (h:n≤2000):n≤sizeLine:=Nat.le_trans h (by decide)
inductive Q8 (vs:List V) (H:Hp) (Q:VK):Prop
 | mk (i:_) (h1:vs=[.int i]) (h2:Q (.bl true) H):Q8 vs H Q
def QC:Sp:=fun vs H Q _=>Q8 vs H Q
inductive ZD (vs:List V) (H:Hp) (Q:VK):Prop
 | mk (i lo hi:Int) (h1:vs=[.int i,.int lo,.int hi]) (h2:lo≤i) (h3:i≤hi) (h4:Q (.bl true) H):ZD vs H Q
def Zs:Sp:=fun vs H Q _=>ZD vs H Q
inductive Q9 (vs:List V) (H:Hp) (Q:VK):Prop
 | mk (i:Int) (h1:vs=[.int i]) (h2:0≤i) (h3:i≤1000000000) (h4:Q (.bl true) H):Q9 vs H Q
def jo:Sp:=fun vs H Q _=>Q9 vs H Q
inductive QB (vs:List V) (H:Hp) (Q:VK):Prop
 | mk (i:Int) (h1:vs=[.int i]) (h2:-10000000000≤i) (h3:i≤10000000000) (h4:Q (.bl true) H):QB vs H Q
def ZF:Sp:=fun vs H Q _=>QB vs H Q
inductive jm (vs:List V) (H:Hp) (Q:VK):Prop
 | mk (x:Str) (h1:vs=[.str x]) (h2:zg (.str x)=true) (h3:∀ H',Same H H'->Q (.bl true) H'):jm vs H Q
def JV:Sp:=fun vs H Q _=>jm vs H Q
inductive QG (vs:List V) (H:Hp) (Q:VK):Prop
 | mk (x:Str) (h1:vs=[.str x]) (h2:zg (.str x)=true) (h3:∀ H',Same H H'->Q .non H'):QG vs H Q
def Qg:Sp:=fun vs H Q _=>QG vs H Q
inductive z6 (vs:List V) (H:Hp) (Q:VK):Prop
 | mk (i:Int) (h1:vs=[.int i]) (h2:0≤i) (h3:i≤1000000000) (h4:Q .non H):z6 vs H Q
def QH:Sp:=fun vs H Q _=>z6 vs H Q
inductive zP (vs:List V) (H:Hp) (Q:VK):Prop
 | mk (i:Int) (h1:vs=[.int i]) (h2:-10000000000≤i) (h3:i≤10000000000) (h4:Q .non H):zP vs H Q
def Qn:Sp:=fun vs H Q _=>zP vs H Q
inductive QN (K:Frag) (vs:List V) (H:Hp) (Q:VK):Prop
 | mk (x C dx:Addr) (nm:Str) (h1:vs=[.ref x,.str nm]) (h2:H x=some (.ins C dx [])) (h3:zg (.str nm)=true) (h4:Cls K C) (h5:NoAttr K C "name") (h6:∀ H',But x H H'->H' x=some (.ins C dx [("name",.str nm)])->Q .non H'):QN K vs H Q
def q8 (K:Frag):Sp:=fun vs H Q _=>QN K vs H Q
inductive Qp (K:Frag) (vs:List V) (H:Hp) (Q:VK):Prop
 | mk (x C dx:Addr) (nm:Str) (lo hi:Int) (h1:vs=[.ref x,.str nm,.int lo,.int hi]) (h2:H x=some (.ins C dx [])) (h3:zg (.str nm)=true) (h4:(0≤lo∧lo≤1000000000)) (h5:(0≤hi∧hi≤1000000000)) (h6:Cls K C) (h7:NoAttr K C "name") (h8:NoAttr K C "low") (h9:NoAttr K C "high") (h10:∀ H',But x H H'->H' x=some (.ins C dx [("name",.str nm),("low",.int lo),("high",.int hi)])->Q .non H'):Qp K vs H Q
def zl (K:Frag):Sp:=fun vs H Q _=>Qp K vs H Q
inductive jr (a:Ad) (vs:List V) (H:Hp) (Q:VK):Prop
 | mk (x dx:Addr) (nm:Str) (m:Int) (h1:vs=[.ref x,.str nm,.int m]) (h2:H x=some (.ins a.c_At dx [])) (h3:zg (.str nm)=true) (h4:(0≤m∧m≤1000000000)) (h5:∀ H',But x H H'->H' x=some (.ins a.c_At dx [("name",.str nm),("low",.int m),("high",.int m)])->Q .non H'):jr a vs H Q
def Z8 (a:Ad):Sp:=fun vs H Q _=>jr a vs H Q
inductive Qb (K:Frag) (vs:List V) (H:Hp) (Q:VK):Prop
 | mk (x C dx:Addr) (nm pl:Str) (lo hi:Int) (h1:vs=[.ref x,.str nm,.str pl,.int lo,.int hi]) (h2:H x=some (.ins C dx [])) (h3:zg (.str nm)=true) (h4:zg (.str pl)=true) (h5:(-10000000000≤lo∧lo≤10000000000)) (h6:(-10000000000≤hi∧hi≤10000000000)) (h7:Cls K C) (h8:NoAttr K C "name") (h9:NoAttr K C "place") (h10:NoAttr K C "low") (h11:NoAttr K C "high") (h12:∀ H',But x H H'->H' x=some (.ins C dx [("name",.str nm),("place",.str pl),("low",.int lo),("high",.int hi)])->Q .non H'):Qb K vs H Q
def zD (K:Frag):Sp:=fun vs H Q _=>Qb K vs H Q
inductive Zc (a:Ad) (vs:List V) (H:Hp) (Q:VK):Prop
 | mk (x dx:Addr) (nm pl:Str) (m:Int) (h1:vs=[.ref x,.str nm,.str pl,.int m]) (h2:H x=some (.ins a.c_Read dx [])) (h3:zg (.str nm)=true) (h4:zg (.str pl)=true) (h5:(-10000000000≤m∧m≤10000000000)) (h6:∀ H',But x H H'->H' x=some (.ins a.c_Read dx [("name",.str nm),("place",.str pl),("low",.int m),("high",.int m)])->Q .non H'):Zc a vs H Q
def QK (a:Ad):Sp:=fun vs H Q _=>Zc a vs H Q
def qba (w:Str):Sp:=fun vs H Q _=>∃ v:V,vs=[v]∧Q (.str w) H
abbrev Qh:Sp:=qba "any"
abbrev zU:Sp:=qba "within"
abbrev Z7:Sp:=qba "at"
abbrev zB:Sp:=qba "between"
abbrev QJ:Sp:=qba "read"
inductive z9 (vs:List V) (H:Hp) (Q:VK):Prop
 | mk (v:V) (h1:vs=[v]) (h2:∀ l,H l=none->Q (.ref l) (upd H l (.lst []))):z9 vs H Q
def QM:Sp:=fun vs H Q _=>z9 vs H Q
section
variable {P:Program}{w:World}{K:Frag}{mg:Str->Option Value}{base:Heap}
theorem jE {a:Ad} (T:Txt K mg a):qB P w K mg base CX0 1 a.f_d a.fd_d ["thing"] QC:=by
 refine T.d_d.F.ok qbc (fun vs H Q E h=>?_) (fun cdv A outer s H vs Q E hr h=>?_)
 · obtain⟨i,rfl,kk⟩:=h;rfl
 · obtain⟨i,rfl,kk⟩:=h;refine⟨_,(qf (qu (zR (qp zn (by rfl) T.n_isinstance qg (qa (pv 0) (qa (zX (v:=.ty "int") rfl T.n_int qbC rfl) qb))) (Zj (qfE (qp zn (by rfl) T.n_isinstance qg (qa (pv 0) (qa (zX (v:=.ty "bool") rfl T.n_bool qau rfl) qb)))))))),?_⟩;(try dsimp only [zc,Cx.nox]);refine⟨_,rfl,_,_,_,rfl,(by decide),rfl,true,rfl,Q6 ?_⟩;exact⟨_,rfl,_,_,_,rfl,(by decide),rfl,false,rfl,kk⟩
theorem Jl {a:Ad} (T:Txt K mg a):qB P w K mg base CX0 2 a.f_k a.fd_k ["thing","low","high"] Zs:=by
 have G_d:=jE (P:=P) (w:=w) (base:=base) T;refine T.d_k.F.ok qbO (fun vs H Q E h=>?_) (fun cdv A outer s H vs Q E hr h=>?_)
 · obtain⟨i,lo,hi,rfl,h1,h2,kk⟩:=h;rfl
 · obtain⟨i,lo,hi,rfl,h1,h2,kk⟩:=h;have h_d:Room (1) _:=hr.mono (by decide);refine⟨_,(qf (qu (zR (qq G_d h_d rfl T.d_d.m T.d_d.k T.d_d.b .nil qv (qa (pv 0) qb)) (Zj (qcn qcO qcO (pv 1) (pv 0) (pv 2)))))),?_⟩;(try dsimp only [zc,Cx.nox]);refine⟨_,rfl,i,rfl,true,rfl,Q6 ?_⟩;refine⟨_,rfl,_,rfl,_,_,rfl,rfl,_,rfl,Zz (fun _=>?_) (fun g=>absurd h1 g)⟩;refine⟨_,rfl,_,_,rfl,rfl,?_⟩;show Q (.bl (decide (i≤hi))) H;rw[decide_eq_true h2];exact kk
theorem qbp {a:Ad} (T:Txt K mg a):qB P w K mg base CX0 3 a.f_F a.fd_F ["thing"] jo:=by
 have G_k:=Jl (P:=P) (w:=w) (base:=base) T;refine T.d_F.F.ok qbd (fun vs H Q E h=>?_) (fun cdv A outer s H vs Q E hr h=>?_)
 · obtain⟨i,rfl,h1,h2,kk⟩:=h;rfl
 · obtain⟨i,rfl,h1,h2,kk⟩:=h;have h_k:Room (2) _:=hr.mono (by decide);obtain⟨t_LAST,c_LAST⟩:=T.g_LAST;refine⟨_,(qf (qu (qq G_k h_k rfl T.d_k.m T.d_k.k T.d_k.b .nil qv (qa (pv 0) (qa qd (qa (qH (v:=.int 1000000000) rfl c_LAST ⟨_,rfl⟩) qb)))))),?_⟩;(try dsimp only [zc,Cx.nox]);exact⟨_,rfl,i,0,1000000000,rfl,h1,h2,kk⟩
theorem qaN {a:Ad} (T:Txt K mg a):qB P w K mg base CX0 3 a.f_G a.fd_G ["thing"] ZF:=by
 have G_k:=Jl (P:=P) (w:=w) (base:=base) T;refine T.d_G.F.ok qaC (fun vs H Q E h=>?_) (fun cdv A outer s H vs Q E hr h=>?_)
 · obtain⟨i,rfl,h1,h2,kk⟩:=h;rfl
 · obtain⟨i,rfl,h1,h2,kk⟩:=h;have h_k:Room (2) _:=hr.mono (by decide);obtain⟨t_WIDEST_READING,c_WIDEST_READING⟩:=T.g_WIDEST_READING;refine⟨_,(qf (qu (qq G_k h_k rfl T.d_k.m T.d_k.k T.d_k.b .nil qv (qa (pv 0) (qa (qdG qa3 (qH (v:=.int 10000000000) rfl c_WIDEST_READING ⟨_,rfl⟩)) (qa (qH (v:=.int 10000000000) rfl c_WIDEST_READING ⟨_,rfl⟩) qb)))))),?_⟩;(try dsimp only [zc,Cx.nox]);exact⟨_,rfl,_,rfl,i,-10000000000,10000000000,rfl,h1,h2,kk⟩
theorem qcQ {a:Ad} (T:Txt K mg a):qB P w K mg base CX0 1 a.f_H a.fd_H ["thing"] JV:=by
 refine T.d_H.F.ok qcJ (fun vs H Q E h=>?_) (fun cdv A outer s H vs Q E hr h=>?_)
 · obtain⟨x,rfl,ok,k⟩:=h;rfl
 · obtain⟨x,rfl,ok,k⟩:=h;obtain⟨t_LONGEST_NAME,c_LONGEST_NAME⟩:=T.g_LONGEST_NAME
   refine⟨_,(qc (qP (PW.pt (ZS (ze (qM (qp zn (by rfl) T.n_isinstance qg (qa (pv 0) (qa (zX (v:=.ty "str") rfl T.n_str zN rfl) qb))))) (Zi (ze (qeP qcO qcO qd (qp zd (by rfl) T.n_len qW (qa (pv 0) qb)) (qH (v:=.int 8) rfl c_LONGEST_NAME ⟨_,rfl⟩))))))
       (qf (qu jQ))
       qw)
     (qf (qu (qp (qeo rfl) (by rfl) T.n_all qeu (qa (jc rfl (CompOk.def ["sign"] [none]) (qhk (pv 0)) (fun _ _ _ _ _=>(qE (i:=0) (show List.Nodup (["sign"]:List Str) by decide +kernel) rfl (Or.inl rfl))) (fun _ _ _ _ _=>jb) (fun _ _ _ _ _=>(qcn qbo qbo qt (pv 0) qt))) qb))))),?_⟩
   try dsimp only [zc,Cx.nox]
   obtain⟨⟨l1,l8⟩,al⟩:(1≤x.length∧x.length≤8)∧x.cps.toList.all sgn=true:=by
     simp only[zg,Bool.and_eq_true,decide_eq_true_eq]at ok;exact ok
   have hx:x.length=x.cps.size:=rfl;refine⟨_,rfl,_,_,_,rfl,(by decide),rfl,true,rfl,qK rfl ?_⟩;refine⟨_,rfl,_,_,rfl,⟨qge (by omega),rfl⟩,_,_,rfl,rfl,_,rfl,?_⟩;refine Zz (fun h2=>?_) (fun h2=>absurd (by omega) h2);refine⟨_,_,rfl,rfl,_,rfl,?_⟩;refine qiF (fun h3=>absurd (by omega) h3) (fun h3=>?_);refine⟨_,rfl,x,rfl,fun D fD=>?_⟩;refine qfj (x:=x) (D:=D) (fun i σ H2=>∃ (s0:Option V) (bs:List Bool),σ=[s0]∧Same H H2∧H2 D=some (.lst (bs.map V.bl))∧bs=(x.cps.toList.take i).map sgn) ⟨none,[],rfl,Same.new _ fD,qe,rfl⟩ ?_ ?_
   · rintro i c σ H2 hc ⟨s0,bs,rfl,s2,hD,hb⟩;obtain⟨hi,_⟩:=Array.getElem?_eq_some_iff.mp hc;have hcl:x.cps.toList[i]?=some c:=by simpa using hc
     have hbl:bs.length≤i:=by rw[hb,List.length_map,List.length_take];omega
     refine⟨_,rfl,_,_,rfl,rfl,_,rfl,?_⟩
     have fin:∀ v:Bool,v=sgn c->∃ ys,H2 D=some (.lst ys)∧ys.length < sizeLine∧∃ (s0:Option V) (bs:List Bool),[some (V.str ⟨#[c]⟩)]=[s0]∧Same H (upd H2 D (.lst (ys++[.bl v])))∧(upd H2 D (.lst (ys++[.bl v]))) D=some (.lst (bs.map V.bl))∧bs=(x.cps.toList.take (i+1)).map sgn:=fun v e =>
       ⟨_,hD,qR (by rw[List.length_map];omega),_,bs++[v],rfl,(fun b o z=>by rw[qi (qk z fD)];exact s2 b o z),by rw[qe,List.map_append];rfl,by rw[qdh hcl,List.map_append,← hb,e];rfl⟩
     refine qjA (fun h4=>?_) (fun h4=>?_)
     · refine⟨_,_,rfl,rfl,fin _ ?_⟩;unfold sgn;rw[h4,Bool.true_and]
     · refine fin _ ?_;unfold sgn;rw[h4,Bool.false_and]
   · rintro σ H2 ⟨s0,bs,rfl,s2,hD,hb⟩;refine⟨D,bs,rfl,SqL.of hD,?_⟩
     have e:bs.all id=true:=by
       rw[hb,List.all_map];refine List.all_eq_true.mpr fun c m=>?_;exact List.all_eq_true.mp al c (List.mem_of_mem_take m)
     first
       | (rw[e];exact k H2 s2)
       | (have:=k H2 s2;simpa[e] using this)
theorem ZW {a:Ad} (T:Txt K mg a):qB P w K mg base CX0 2 a.f_l a.fd_l ["thing"] Qg:=by
 have G_H:=qcQ (P:=P) (w:=w) (base:=base) T;refine T.d_l.F.ok qaD (fun vs H Q E h=>?_) (fun cdv A outer s H vs Q E hr h=>?_)
 · obtain⟨x,rfl,ok,k⟩:=h;rfl
 · obtain⟨x,rfl,ok,k⟩:=h;have h_H:Room (1) _:=hr.mono (by decide)
   refine⟨_,(qf (qP (ze (qM (qq G_H h_H rfl T.d_H.m T.d_H.k T.d_H.b .nil qv (qa (pv 0) qb))))
       (qf zm)
       qw)),?_⟩
   try dsimp only [zc,Cx.nox]
   exact⟨_,rfl,x,rfl,ok,fun H1 S1=>⟨true,rfl,qK rfl (k H1 S1)⟩⟩
theorem Jm {a:Ad} (T:Txt K mg a):qB P w K mg base CX0 4 a.f_y a.fd_y ["thing"] QH:=by
 have G_F:=qbp (P:=P) (w:=w) (base:=base) T;refine T.d_y.F.ok j7 (fun vs H Q E h=>?_) (fun cdv A outer s H vs Q E hr h=>?_)
 · obtain⟨i,rfl,h1,h2,k⟩:=h;rfl
 · obtain⟨i,rfl,h1,h2,k⟩:=h;have h_F:Room (3) _:=hr.mono (by decide)
   refine⟨_,(qf (qP (ze (qM (qq G_F h_F rfl T.d_F.m T.d_F.k T.d_F.b .nil qv (qa (pv 0) qb))))
       (qf zm)
       qw)),?_⟩
   try dsimp only [zc,Cx.nox]
   exact⟨_,rfl,i,rfl,h1,h2,true,rfl,qK rfl k⟩
theorem jR {a:Ad} (T:Txt K mg a):qB P w K mg base CX0 4 a.f_z a.fd_z ["thing"] Qn:=by
 have G_G:=qaN (P:=P) (w:=w) (base:=base) T;refine T.d_z.F.ok jO (fun vs H Q E h=>?_) (fun cdv A outer s H vs Q E hr h=>?_)
 · obtain⟨i,rfl,h1,h2,k⟩:=h;rfl
 · obtain⟨i,rfl,h1,h2,k⟩:=h;have h_G:Room (3) _:=hr.mono (by decide)
   refine⟨_,(qf (qP (ze (qM (qq G_G h_G rfl T.d_G.m T.d_G.k T.d_G.b .nil qv (qa (pv 0) qb))))
       (qf zm)
       qw)),?_⟩
   try dsimp only [zc,Cx.nox]
   exact⟨_,rfl,i,rfl,h1,h2,true,rfl,qK rfl k⟩
theorem zf {a:Ad} (T:Txt K mg a):qB P w K mg base CX0 3 a.f_b a.fd_b ["self","name"] (q8 K):=by
 have G_l:=ZW (P:=P) (w:=w) (base:=base) T;refine T.d_b.F.ok qaG (fun vs H Q E h=>?_) (fun cdv A outer s H vs Q E hr h=>?_)
 · obtain⟨x,C,dx,nm,rfl,hx,ok,cl,na,k⟩:=h;rfl
 · obtain⟨x,C,dx,nm,rfl,hx,ok,cl,na,k⟩:=h;have h_l:Room (2) _:=hr.mono (by decide)
   refine⟨_,(qc (qN (qq G_l h_l rfl T.d_l.m T.d_l.k T.d_l.b .nil qv (qa (pv 1) qb)))
     (qf (ZT (pv 0) (pv 1) rfl))),?_⟩
   try dsimp only [zc,Cx.nox]
   refine⟨_,rfl,nm,rfl,ok,fun H1 S1=>?_⟩;exact⟨_,rfl,_,rfl,x,C,dx,_,rfl,S1 _ _ hx,cl,na,(by decide),k _ (fun b o z nb=>by rw[qi nb];exact S1 b o z) qe⟩
theorem zY {a:Ad} (T:Txt K mg a):qB P w K mg base CX0 5 a.f_h a.fd_h ["self","name","low","high"] (zl K):=by
 have G_b:=zf (P:=P) (w:=w) (base:=base) T;have G_y:=Jm (P:=P) (w:=w) (base:=base) T;refine T.d_h.F.ok JN (fun vs H Q E h=>?_) (fun cdv A outer s H vs Q E hr h=>?_)
 · obtain⟨x,C,dx,nm,lo,hi,rfl,hx,ok,hlo,hhi,cl,n1,n2,n3,k⟩:=h;rfl
 · obtain⟨x,C,dx,nm,lo,hi,rfl,hx,ok,hlo,hhi,cl,n1,n2,n3,k⟩:=h;have h_b:Room (3+1) _:=hr.mono (by decide);have h_y:Room (4) _:=hr.mono (by decide)
   refine⟨_,(qc (qN (Qj T.ci_Entry G_b (h_b.mono (by decide)) T.d_b.b rfl T.g_Entry (qa (pv 0) (qa (pv 1) qb))))
     (qc (qN (qq G_y h_y rfl T.d_y.m T.d_y.k T.d_y.b .nil qv (qa (pv 2) qb)))
     (qc (qN (qq G_y h_y rfl T.d_y.m T.d_y.k T.d_y.b .nil qv (qa (pv 3) qb)))
     (qc (ZT (pv 0) (pv 2) rfl)
     (qf (ZT (pv 0) (pv 3) rfl)))))),?_⟩
   try dsimp only [zc,Cx.nox]
   refine⟨_,rfl,_,rfl,x,C,dx,nm,rfl,hx,ok,cl,n1,fun H1 B1 h1=>?_⟩;refine⟨_,rfl,lo,rfl,hlo.1,hlo.2,?_⟩;refine⟨_,rfl,hi,rfl,hhi.1,hhi.2,?_⟩;refine⟨_,rfl,_,rfl,x,C,dx,_,rfl,h1,cl,n2,(by simp),?_⟩;refine⟨_,rfl,_,rfl,x,C,dx,_,rfl,qe,cl,n3,(Nat.le_of_ble_eq_true rfl),?_⟩;exact k _ ((B1.put _).put _) (by rw[qe];rfl)
theorem qaj {a:Ad} (T:Txt K mg a):qB P w K mg base CX0 7 a.f_u a.fd_u ["self","name","moment"] (Z8 a):=by
 have G_h:=zY (P:=P) (w:=w) (base:=base) T;refine T.d_u.F.ok qcL (fun vs H Q E h=>?_) (fun cdv A outer s H vs Q E hr h=>?_)
 · obtain⟨x,dx,nm,m,rfl,hx,ok,hm,k⟩:=h;rfl
 · obtain⟨x,dx,nm,m,rfl,hx,ok,hm,k⟩:=h;have h_h:Room (5+1) _:=hr.mono (by decide);refine⟨_,(qf (qN (Qj T.ci_Within G_h (h_h.mono (by decide)) T.d_h.b rfl T.g_Within (qa (pv 0) (qa (pv 1) (qa (pv 2) (qa (pv 2) qb))))))),?_⟩;(try dsimp only [zc,Cx.nox]);exact⟨_,rfl,_,rfl,_,rfl,_,rfl,x,a.c_At,dx,nm,m,m,rfl,hx,ok,hm,hm,T.cl_At,T.n_At_name,T.n_At_low,T.n_At_high,fun H1 B1 h1=>k H1 B1 h1⟩
theorem QS {a:Ad} (T:Txt K mg a):qB P w K mg base CX0 5 a.f_r a.fd_r ["self","name","place","low","high"] (zD K):=by
 have G_b:=zf (P:=P) (w:=w) (base:=base) T;have G_l:=ZW (P:=P) (w:=w) (base:=base) T;have G_z:=jR (P:=P) (w:=w) (base:=base) T;refine T.d_r.F.ok Jb (fun vs H Q E h=>?_) (fun cdv A outer s H vs Q E hr h=>?_)
 · obtain⟨x,C,dx,nm,pl,lo,hi,rfl,hx,ok,okp,hlo,hhi,cl,n1,n2,n3,n4,k⟩:=h;rfl
 · obtain⟨x,C,dx,nm,pl,lo,hi,rfl,hx,ok,okp,hlo,hhi,cl,n1,n2,n3,n4,k⟩:=h;have h_b:Room (3+1) _:=hr.mono (by decide);have h_l:Room (2) _:=hr.mono (by decide);have h_z:Room (4) _:=hr.mono (by decide)
   refine⟨_,(qc (qN (Qj T.ci_Entry G_b (h_b.mono (by decide)) T.d_b.b rfl T.g_Entry (qa (pv 0) (qa (pv 1) qb))))
     (qc (qN (qq G_l h_l rfl T.d_l.m T.d_l.k T.d_l.b .nil qv (qa (pv 2) qb)))
     (qc (qN (qq G_z h_z rfl T.d_z.m T.d_z.k T.d_z.b .nil qv (qa (pv 3) qb)))
     (qc (qN (qq G_z h_z rfl T.d_z.m T.d_z.k T.d_z.b .nil qv (qa (pv 4) qb)))
     (qc (ZT (pv 0) (pv 2) rfl)
     (qc (ZT (pv 0) (pv 3) rfl)
     (qf (ZT (pv 0) (pv 4) rfl)))))))),?_⟩
   try dsimp only [zc,Cx.nox]
   refine⟨_,rfl,_,rfl,x,C,dx,nm,rfl,hx,ok,cl,n1,fun H1 B1 h1=>?_⟩;refine⟨_,rfl,pl,rfl,okp,fun H2 S2=>?_⟩;refine⟨_,rfl,lo,rfl,hlo.1,hlo.2,?_⟩;refine⟨_,rfl,hi,rfl,hhi.1,hhi.2,?_⟩;refine⟨_,rfl,_,rfl,x,C,dx,_,rfl,S2 _ _ h1,cl,n2,(by simp),?_⟩;refine⟨_,rfl,_,rfl,x,C,dx,_,rfl,qe,cl,n3,(Nat.le_of_ble_eq_true rfl),?_⟩;refine⟨_,rfl,_,rfl,x,C,dx,_,rfl,qe,cl,n4,(Nat.le_of_ble_eq_true rfl),?_⟩;exact k _ ((((B1.same S2).put _).put _).put _) (by rw[qe];rfl)
theorem jH {a:Ad} (T:Txt K mg a):qB P w K mg base CX0 7 a.f_v a.fd_v ["self","name","place","reading"] (QK a):=by
 have G_r:=QS (P:=P) (w:=w) (base:=base) T;refine T.d_v.F.ok qbf (fun vs H Q E h=>?_) (fun cdv A outer s H vs Q E hr h=>?_)
 · obtain⟨x,dx,nm,pl,m,rfl,hx,ok,okp,hm,k⟩:=h;rfl
 · obtain⟨x,dx,nm,pl,m,rfl,hx,ok,okp,hm,k⟩:=h;have h_r:Room (5+1) _:=hr.mono (by decide);refine⟨_,(qf (qN (Qj T.ci_Between G_r (h_r.mono (by decide)) T.d_r.b rfl T.g_Between (qa (pv 0) (qa (pv 1) (qa (pv 2) (qa (pv 3) (qa (pv 3) qb)))))))),?_⟩;(try dsimp only [zc,Cx.nox]);exact⟨_,rfl,_,rfl,_,rfl,_,rfl,_,rfl,x,a.c_Read,dx,nm,pl,m,m,rfl,hx,ok,okp,hm,hm,T.cl_Read,T.n_Read_name,T.n_Read_place,T.n_Read_low,T.n_Read_high,fun H1 B1 h1=>k H1 B1 h1⟩
theorem ZX {a:Ad} (T:Txt K mg a):qB P w K mg base CX0 1 a.f_n a.fd_n ["self"] Qh:=by
 refine T.d_n.F.ok qaF (fun vs H Q E h=>?_) (fun cdv A outer s H vs Q E hr h=>?_)
 · obtain⟨v,rfl,k⟩:=h;rfl
 · obtain⟨v,rfl,k⟩:=h;refine⟨_,(qf (qu qt)),?_⟩;(try dsimp only [zc,Cx.nox]);exact k
theorem Zl {a:Ad} (T:Txt K mg a):qB P w K mg base CX0 1 a.f_p a.fd_p ["self"] zU:=by
 refine T.d_p.F.ok JL (fun vs H Q E h=>?_) (fun cdv A outer s H vs Q E hr h=>?_)
 · obtain⟨v,rfl,k⟩:=h;rfl
 · obtain⟨v,rfl,k⟩:=h;refine⟨_,(qf (qu qt)),?_⟩;(try dsimp only [zc,Cx.nox]);exact k
theorem qai {a:Ad} (T:Txt K mg a):qB P w K mg base CX0 1 a.f_q a.fd_q ["self"] Z7:=by
 refine T.d_q.F.ok qcK (fun vs H Q E h=>?_) (fun cdv A outer s H vs Q E hr h=>?_)
 · obtain⟨v,rfl,k⟩:=h;rfl
 · obtain⟨v,rfl,k⟩:=h;refine⟨_,(qf (qu qt)),?_⟩;(try dsimp only [zc,Cx.nox]);exact k
theorem QR {a:Ad} (T:Txt K mg a):qB P w K mg base CX0 1 a.f_s a.fd_s ["self"] zB:=by
 refine T.d_s.F.ok Ja (fun vs H Q E h=>?_) (fun cdv A outer s H vs Q E hr h=>?_)
 · obtain⟨v,rfl,k⟩:=h;rfl
 · obtain⟨v,rfl,k⟩:=h;refine⟨_,(qf (qu qt)),?_⟩;(try dsimp only [zc,Cx.nox]);exact k
theorem jG {a:Ad} (T:Txt K mg a):qB P w K mg base CX0 1 a.f_t a.fd_t ["self"] QJ:=by
 refine T.d_t.F.ok qbe (fun vs H Q E h=>?_) (fun cdv A outer s H vs Q E hr h=>?_)
 · obtain⟨v,rfl,k⟩:=h;rfl
 · obtain⟨v,rfl,k⟩:=h;refine⟨_,(qf (qu qt)),?_⟩;(try dsimp only [zc,Cx.nox]);exact k
theorem Jp {a:Ad} (T:Txt K mg a):qB P w K mg base CX0 1 a.f_o a.fd_o ["self"] QM:=by
 refine T.d_o.F.ok j9 (fun vs H Q E h=>?_) (fun cdv A outer s H vs Q E hr h=>?_)
 · obtain⟨v,rfl,k⟩:=h;rfl
 · obtain⟨v,rfl,k⟩:=h;refine⟨_,(qf (qu (qZ qb))),?_⟩;(try dsimp only [zc,Cx.nox]);exact⟨Nat.zero_le _,fun l f=>k l f⟩
end
inductive En (a:Ad) (H:Hp) (x:Addr):Str->Str->Str->Int->Int->Prop
 | any {dx:Addr}{nm:Str}:H x=some (.ins a.c_Entry dx [("name",.str nm)])->En a H x "any" nm "" 0 1000000000
 | within {dx:Addr}{nm:Str}{lo hi:Int}:H x=some (.ins a.c_Within dx [("name",.str nm),("low",.int lo),("high",.int hi)])->En a H x "within" nm "" lo hi
 | at_ {dx:Addr}{nm:Str}{m:Int}:H x=some (.ins a.c_At dx [("name",.str nm),("low",.int m),("high",.int m)])->En a H x "at" nm "" m m
 | between {dx:Addr}{nm pl:Str}{lo hi:Int}:H x=some (.ins a.c_Between dx [("name",.str nm),("place",.str pl),("low",.int lo),("high",.int hi)])->En a H x "between" nm pl lo hi
 | read {dx:Addr}{nm pl:Str}{m:Int}:H x=some (.ins a.c_Read dx [("name",.str nm),("place",.str pl),("low",.int m),("high",.int m)])->En a H x "read" nm pl m m
theorem qV {H H':Hp}{x dx C:Addr} (h1:H x=none) (h2:H dx=none) (b:But x (upd (upd H dx (.own x)) x (.ins C dx [])) H'):Same H H':=fun c o e=>by
 have n1:=qk e h1;have n2:=qk e h2;exact b c o (by rw[qi n1,qi n2];exact e) n1
theorem qbA:bootBuiltins "sorted"=some (.builtin "sorted"):=by decide +kernel
theorem Rs.same {H H':Hp}{q:Addr}{rows:List (Int×Int)} (h:Rs H q rows) (s:Same H H'):Rs H' q rows:=by
 obtain⟨zs,h1,h2⟩:=h;exact⟨zs,s _ _ h1,h2.same s⟩
abbrev okw (w:Int×Int):Bool:=decide (w.1≤w.2)
theorem qf7 {H:Hp}{zs:List V}{ws:List (Int×Int)} (h:TupL pr H zs ws):TupI H zs (ws.map g2):=by
 refine⟨by rw[List.length_map];exact h.1,fun i z r e1 e2=>?_⟩;obtain⟨p,hp,rfl⟩:=Jt e2;exact h.2 i z p e1 hp
theorem qgu {H:Hp}{zs:List V}{ws:List (Int×Int)} (h:TupI H zs (ws.map g2)):TupL pr H zs ws :=
 ⟨by have:=h.len;rwa [List.length_map]at this,fun i z p e1 e2=>h.at_ i z (g2 p) e1 (by rw[List.getElem?_map,e2];rfl)⟩
theorem qeT {rs:List (List Int)}{fs:List (Int×Int)} (h:rs.Perm (fs.map g2)):∃ ss:List (Int×Int),rs=ss.map g2∧ss.Perm fs:=by
 refine⟨rs.map fun r=>(r.getD 0 0,r.getD 1 0),?_,?_⟩
 · rw[List.map_map];refine(List.map_id rs).symm.trans (List.map_congr_left fun r hr=>?_);obtain⟨p,_,rfl⟩:=List.mem_map.mp (h.mem_iff.mp hr);rfl
 · have:=h.map fun r=>(r.getD 0 0,r.getD 1 0)
   rw[List.map_map]at this
   rwa [show (fs.map ((fun r:List Int=>(r.getD 0 0,r.getD 1 0)) ∘ g2))=fs from (List.map_congr_left fun p _=>rfl).trans (List.map_id fs)]at this
theorem qhp {ss:List (Int×Int)} (h:(ss.map g2).Pairwise fun a b=>QT b a=false):ss.Pairwise fun a b=>a.1≤b.1:=by
 refine(List.pairwise_map.mp h).imp fun {a b} g=>?_;have g':QT [b.1,b.2] [a.1,a.2]=false:=g;unfold QT at g';by_cases e:b.1=a.1
 · omega
 · rw[if_neg e]at g'
   have:=of_decide_eq_false g'
   omega
theorem qhz (ws:List (Int×Int)) (n:Int):Mem (ws.filter okw) n↔Mem ws n:=by
 constructor
 · rintro⟨w,hw,h⟩;exact⟨w,(List.mem_filter.mp hw).1,h⟩
 · rintro⟨w,hw,h⟩;exact⟨w,List.mem_filter.mpr ⟨hw,decide_eq_true (by omega)⟩,h⟩
theorem qe2 {ss fs:List (Int×Int)} (h:ss.Perm fs) (n:Int):Mem ss n↔Mem fs n :=
 ⟨fun⟨w,hw,k⟩=>⟨w,h.mem_iff.mp hw,k⟩,fun⟨w,hw,k⟩=>⟨w,h.mem_iff.mpr hw,k⟩⟩
theorem qd7 {acc:List (Int×Int)}{l w:Int×Int} (h:acc.getLast?=some l) (e:w.1≤l.2+1):JU acc w=acc.set (acc.length - 1) (l.1,if w.2 > l.2 then w.2 else l.2):=by
 unfold JU;rw[h];exact if_pos e
theorem qfb {acc:List (Int×Int)}{l w:Int×Int} (h:acc.getLast?=some l) (e:¬ w.1≤l.2+1):JU acc w=acc++[w]:=by
 unfold JU;rw[h];exact if_neg e
theorem qfc (acc:List (Int×Int)) (w:Int×Int):(JU acc w).length≤acc.length+1:=by
 unfold JU;split
 · split
   · rw[List.length_set];omega
   · rw[List.length_append];exact Nat.le_refl _
 · simp
theorem qcw {ws:List (Int×Int)}{i:Nat}{w:Int×Int} (h:ws[i]?=some w):(ws.take (i+1)).foldl JU []=JU ((ws.take i).foldl JU []) w:=by
 rw[List.take_add_one,h,List.foldl_append];rfl
theorem Z0 (ws:List (Int×Int)):∀ i,((ws.take i).foldl JU []).length≤i
 | 0=>by simp
 | i+1=>by
   cases h:ws[i]? with
   | none =>
     have:=Z0 ws i
     rw[List.take_add_one,h];simp only[Option.toList,List.append_nil];omega
   | some w =>
     have:=Z0 ws i
     have:=qfc ((ws.take i).foldl JU []) w
     rw[qcw h];omega
inductive QA (vs:List V) (H:Hp) (Q:VK):Prop
 | mk (t:Addr) (r:Int×Int) (h1:vs=[.ref t]) (h2:H t=some (.tup (pr r))) (h3:Q (.bl true) H):QA vs H Q
def ZE:Sp:=fun vs H Q _=>QA vs H Q
inductive zv (vs:List V) (H:Hp) (Q:VK):Prop
 | mk (q:Addr) (ws:List (Int×Int)) (h1:vs=[.ref q]) (h2:Rs H q ws) (h3:∀ H',Same H H'->Q .non H'):zv vs H Q
def zO:Sp:=fun vs H Q _=>zv vs H Q
inductive ZA (vs:List V) (H:Hp) (Q:VK):Prop
 | mk (q:Addr) (ws:List (Int×Int)) (h1:vs=[.ref q]) (h2:Rs H q ws) (h3:ws.length < 64) (h4:∀ (d:Addr) (r:List (Int×Int)) (H':Hp),H d=none->Same H H'->Rs H' d r->JH r->r.length≤ws.length->(∀ n,Mem r n↔Mem ws n)->Q (.ref d) H'):ZA vs H Q
def jZ:Sp:=fun vs H Q _=>ZA vs H Q
section
variable {P:Program}{w:World}{K:Frag}{mg:Str->Option Value}{base:Heap}
theorem qaM {a:Ad} (T:Txt K mg a):qB P w K mg base CX0 2 a.f_J a.fd_J ["thing"] ZE:=by
 have G_d:=jE (P:=P) (w:=w) (base:=base) T;refine T.d_J.F.ok qaB (fun vs H Q E h=>?_) (fun cdv A outer s H vs Q E hr h=>?_)
 · obtain⟨t,r,rfl,ht,kk⟩:=h;rfl
 · obtain⟨t,r,rfl,ht,kk⟩:=h;have hU:=hr.units;have h_d:Room (1) _:=hr.mono (by decide);refine⟨_,(qf (qu (zR (qp zn (by rfl) T.n_isinstance qg (qa (pv 0) (qa (zX (v:=.ty "tuple") rfl T.n_tuple qbY rfl) qb))) (zR (Qi (uEq hU) (qp zd (by rfl) T.n_len qW (qa (pv 0) qb)) qd (qF _)) (zR (qq G_d h_d rfl T.d_d.m T.d_d.k T.d_d.b .nil qv (qa (qL (r:=rIx K) qC (pv 0) qd (fun _ _=>rfl)) qb)) (Zj (qq G_d h_d rfl T.d_d.m T.d_d.k T.d_d.b .nil qv (qa (qL (r:=rIx K) qC (pv 0) qd (fun _ _=>rfl)) qb)))))))),?_⟩;(try dsimp only [zc,Cx.nox]);have ty:tyN H (.ref t)=some "tuple":=by simp only[tyN];rw[ht]
   refine⟨_,rfl,_,_,_,rfl,(by decide),ty,_,rfl,qgC rfl ?_⟩;refine⟨_,rfl,_,_,rfl,.inr ⟨_,SqT.of ht,rfl⟩,.inl ⟨rfl,_,rfl,qgC (decide_eq_true rfl) ?_⟩⟩;refine⟨_,rfl,.inr (.inl ⟨t,_,_,_,rfl,rfl,SqT.of ht,rfl,_,rfl,true,rfl,Q6 ?_⟩)⟩;exact⟨_,rfl,.inr (.inl ⟨t,_,_,_,rfl,rfl,SqT.of ht,rfl,_,rfl,kk⟩)⟩
theorem ZV {a:Ad} (T:Txt K mg a):qB P w K mg base CX0 3 a.f_K a.fd_K ["stretches"] zO:=by
 have G_J:=qaM (P:=P) (w:=w) (base:=base) T;refine T.d_K.F.ok sc_check_stretches (fun vs H Q E h=>?_) (fun cdv A outer s H vs Q E hr h=>?_)
 · obtain⟨q,ws,rfl,hrs,kk⟩:=h;rfl
 · obtain⟨q,ws,rfl,hrs,kk⟩:=h;have h_J:Room (2) _:=hr.mono (by decide)
   refine⟨_,(qc (qP (ze (qM (qp zn (by rfl) T.n_isinstance qg (qa (pv 0) (qa (zX (v:=.ty "list") rfl T.n_list Qf rfl) qb)))))
       (qf zm)
       qw)
     (qf (Jj PassesOwn.never rfl (qgr rfl T.n_enumerate (qa (pv 0) qb)) (qae rfl (qI (qE (i:=1) (sc_check_stretches.nd) rfl (Or.inl rfl)) (qI (qE (i:=2) (sc_check_stretches.nd) rfl (Or.inl rfl)) Zv)))
       (qf (qP (ze (qM (qq G_J h_J rfl T.d_J.m T.d_J.k T.d_J.b .nil qv (qa (pv 2) qb))))
         (qf zm)
         qw))))),?_⟩
   try dsimp only [zc,Cx.nox]
   obtain⟨zs,hq,tp⟩:=id hrs;have ty:tyN H (.ref q)=some "list":=by simp only[tyN];rw[hq]
   refine⟨_,rfl,_,_,_,rfl,(by decide),ty,true,rfl,qK rfl ?_⟩;refine⟨_,rfl,q,rfl,⟨zs,SqL.of hq⟩,qfg (K:=K) (a:=q) (xs:=zs) (fun i σ H2=>∃ s1 s2:Option V,σ=[some (.ref q),s1,s2]∧Same H H2) ⟨none,none,rfl,Same.refl H⟩ (fun i σ H2 _ ⟨_,_,_,S⟩=>SqL.of (S _ _ hq)) ?_ ?_⟩
   · rintro i x σ H2 p hx ⟨s1,s2,rfl,S⟩ hn;have S2:Same H (upd H2 p (.tup [.int i,x])):=S.then _ hn
     obtain⟨r,t,hr',rfl,ht⟩:=tp.of hx;refine⟨p,_,rfl,SqT.of qe,rfl,_,_,rfl,_,_,rfl,rfl,?_⟩;exact⟨_,rfl,t,r,rfl,S2 _ _ ht,_,rfl,qK rfl ⟨_,_,rfl,S2⟩⟩
   · rintro σ H2 ⟨s1,s2,rfl,S⟩;exact kk H2 S
theorem qbR {a:Ad} (T:Txt K mg a):qB P w K mg base CX0 4 a.f_L a.fd_L ["stretches"] jZ:=by
 have G_K:=ZV (P:=P) (w:=w) (base:=base) T;refine T.d_L.F.ok sc_spans_of (fun vs H Q E h=>?_) (fun cdv A outer s H vs Q E hr h=>?_)
 · obtain⟨q,ws,rfl,hrs,few,kk⟩:=h;rfl
 · obtain⟨q,ws,rfl,hrs,few,kk⟩:=h;have h_K:Room (3) _:=hr.mono (by decide)
   refine⟨_,(qc (qN (qq G_K h_K rfl T.d_K.m T.d_K.k T.d_K.b .nil qv (qa (pv 0) qb)))
     (qc (qA (i:=1) sc_spans_of.nd rfl (Or.inl rfl) (qZ qb))
     (qc (Jj PassesOwn.never rfl (QQ (qp qc0 (by rfl) T.n_sorted qbA (qa (jc rfl (CompOk.def ["stretch"] [none]) (QQ (pv 0)) (fun _ _ _ _ _=>(qE (i:=0) (show List.Nodup (["stretch"]:List Str) by decide +kernel) rfl (Or.inl rfl))) (fun _ _ _ _ _=>(qgm (qD qcO (qL (r:=rIx K) qC (pv 0) qd (fun _ _=>rfl)) (qL (r:=rIx K) qC (pv 0) qd (fun _ _=>rfl)) (qF _)))) (fun _ _ _ _ _=>(pv 0))) qb))) (qae rfl (qI (qE (i:=2) (sc_spans_of.nd) rfl (Or.inl rfl)) (qI (qE (i:=3) (sc_spans_of.nd) rfl (Or.inl rfl)) Zv)))
       (qf (qP (PW.pt (qfB (qeO (pv 1) (fun _=>rfl)) (qdA (qD qcO (pv 2) (qm zk (qL (r:=rIx K) qC (qL (r:=rIx K) qC (pv 1) (qdG qa3 qd) (fun _ _=>rfl)) qd (fun _ _=>rfl)) qd) (qF _)))))
         (qf (qac (zE (qa (qL (r:=rIx K) qC (qL (r:=rIx K) qC (pv 1) (qdG qa3 qd) (fun _ _=>rfl)) qd (fun _ _=>rfl)) (qa (qp (qem rfl) (by rfl) T.n_max qer (qa (qL (r:=rIx K) qC (qL (r:=rIx K) qC (pv 1) (qdG qa3 qd) (fun _ _=>rfl)) qd (fun _ _=>rfl)) (qa (pv 3) qb))) qb))) (qfD (pv 1) (qdG qa3 qd) qcc)))
         (qf (qN (Jk PySem.F.plainAttrs_list PySem.F.slot_list_append PySem.F.type_list_append zq (pv 1) (qa (zE (qa (pv 2) (qa (pv 3) qb))) qb)))))))
     (qf (qu (pv 1)))))),?_⟩
   try dsimp only [zc,Cx.nox]
   refine⟨_,rfl,q,ws,rfl,hrs,fun G0 S0=>?_⟩;refine⟨qj (Nat.le_of_ble_eq_true rfl),fun D fD=>?_⟩;have SD:=Same.new (.lst []) fD;have hD0:(upd G0 D (.lst [])) D=some (.lst []):=qe;obtain⟨zs,hq,tp⟩:=(hrs.same S0).same SD;(try unfold qy);(try dsimp only);generalize upd G0 D (.lst [])=G at SD hD0 hq tp ⊢;have hl:zs.length=ws.length:=tp.1;refine⟨_,rfl,q,rfl,⟨_,SqL.of hq⟩,fun C fC=>?_⟩;refine Q1 (K:=K) (a:=q) (xs:=zs) (D:=C) (fun i σ H2=>∃ (c0:Option V) (cs:List V),σ=[c0]∧Same G H2∧H2 C=some (.lst cs)∧TupL pr H2 cs ((ws.take i).filter okw)) ⟨none,[],rfl,Same.new _ fC,qe,.nil⟩ (fun i σ H2 _ ⟨_,_,_,S,_⟩=>SqL.of (S _ _ hq)) ?_ ?_
   · rintro i z σ H2 hz ⟨c0,cs,rfl,S,hC,tc⟩;obtain⟨r,t,hr',rfl,ht⟩:=tp.of hz;have ht2:=S _ _ ht;have et:ws.take (i+1)=ws.take i++[r]:=by rw[List.take_add_one,hr'];rfl
     have lc:cs.length≤64:=by
       rw[tc.1];refine Nat.le_trans (List.length_filter_le _ _) ?_;rw[List.length_take];omega
     refine⟨_,rfl,.inr (.inl ⟨t,_,_,_,rfl,rfl,SqT.of ht2,rfl,_,rfl,.inr (.inl ⟨t,_,_,_,rfl,rfl,SqT.of ht2,rfl,_,_,rfl,rfl,_,rfl,Zz (fun g=>?_) (fun g=>?_)⟩)⟩)⟩
     · refine⟨_,rfl,_,hC,qR (by omega),_,cs++[.ref t],rfl,S.put fC _,qe,?_⟩;rw[et,List.filter_append,show List.filter okw [r]=[r] by simp[okw,g]];exact(tc.snoc (p:=r) ht2).put hC
     · refine⟨_,cs,rfl,S,hC,?_⟩;rw[et,List.filter_append,show List.filter okw [r]=[] by simp[okw,g],List.append_nil];exact tc
   rintro σ H2 ⟨c0,cs,rfl,S,hC,tc⟩;rw[hl,List.take_length]at tc;have okf:∀ w∈ws.filter okw,w.1≤w.2:=fun w hw=>of_decide_eq_true (List.mem_filter.mp hw).2;have lf:(ws.filter okw).length≤ws.length:=List.length_filter_le _ _;have mok:=qhz ws;generalize ws.filter okw=fs at tc okf lf mok;refine⟨C,cs,fs.map g2,2,rfl,SqL.of hC,qf7 tc,(fun r hr=>by obtain⟨w,_,rfl⟩:=List.mem_map.mp hr;rfl),(by decide),(by rw[tc.1];omega),fun p zs' rs' fp hp tI ho=>?_⟩;obtain⟨ss,rfl,hss⟩:=qeT hp;have ord:=qhp ho;have oks:∀ w∈ss,w.1≤w.2:=fun w m=>okf w (hss.mem_iff.mp m);have lss:ss.length≤ws.length:=by rw[hss.length_eq];exact lf
   have tz0:TupL pr H2 zs' ss:=qgu tI;have Sp:=Same.new (.lst zs') fp;have tz:=tz0.same Sp;have hp1:(upd H2 p (.lst zs')) p=some (.lst zs'):=qe;have hD1:=Sp _ _ (S _ _ hD0);have npD:p≠D:=fun e=>by rw[e,S _ _ hD0]at fp;cases fp
   have SG:=SD.trans (S.trans Sp);(try dsimp only);generalize upd H2 p (.lst zs')=G1 at tz hp1 hD1 SG ⊢;refine⟨p,rfl,⟨_,SqL.of hp1⟩,qaW (D:={ nx:=qh1 (qh0 1) { nx:=fun _ H'=>Q .non H',rt:=Q },rt:=Q }) (K:=K) (a:=p) (xs:=zs') (fun i σ H3=>∃ (s2 s3:Option V) (ys:List V),σ=[some (.ref q),some (.ref D),s2,s3]∧But D G1 H3∧H3 D=some (.lst ys)∧TupL pr H3 ys ((ss.take i).foldl JU [])) ⟨none,none,[],rfl,(fun c o e _=>e),hD1,.nil⟩ (fun i σ H3 _ ⟨_,_,_,_,B,_⟩=>SqL.of (B _ _ hp1 npD)) ?_ ?_⟩
   · rintro i z σ H3 hz ⟨s2,s3,ys,rfl,B,hD,ty⟩;obtain⟨wv,t,hw,rfl,ht⟩:=tz.of hz;have ntD:t≠D:=qgx ht hD1 (by intro z;cases z);have ht3:=B _ _ ht ntD;have okv:=oks wv (List.mem_of_getElem? hw)
     have ly:ys.length≤64:=by
       have:=Z0 ss i
       have lti:i < ss.length:=(List.getElem?_eq_some_iff.mp hw).1;rw[ty.1];omega
     refine⟨t,_,rfl,SqT.of ht3,rfl,_,_,rfl,_,_,rfl,rfl,?_⟩;rw[qcw hw];generalize (ss.take i).foldl JU []=acc at ty ⊢
     cases ea:acc.getLast? with
     | none =>
       have e0:acc=[]:=List.getLast?_eq_none_iff.mp ea;subst e0;have ey:ys=[]:=List.eq_nil_of_length_eq_zero ty.1;subst ey;refine⟨_,rfl,false,.inl ⟨_,SqL.of hD,rfl⟩,Zq (Zq ?_)⟩;refine⟨_,rfl,.inl ⟨rfl,_,SqL.of hD⟩,_,rfl,_,rfl,qj (Nat.le_of_ble_eq_true rfl),fun tt ft=>?_⟩;have St:=Same.new (.tup [.int wv.1,.int wv.2]) ft;refine⟨D,_,_,rfl,rfl,St _ _ hD,qR (by omega),?_⟩;refine⟨_,_,[]++[.ref tt],rfl,(fun c o e n=>?_),qe,?_⟩
       · rw[qi n];exact St _ _ (B c o e n)
       · exact((TupL.nil (f:=pr)).snoc (p:=wv) qe).put (St _ _ hD)
     | some l =>
       obtain⟨tl,hzl,htl⟩:=TupL.last ty ea
       have ey:true=!ys.isEmpty:=by
         cases ys with
         | nil=>cases hzl
         | cons y ys=>rfl
       refine⟨_,rfl,true,.inl ⟨_,SqL.of hD,ey⟩,Q6 ?_⟩;refine⟨_,rfl,_,rfl,_,rfl,.inl ⟨D,_,_,_,rfl,rfl,SqL.of hD,qaZ hzl,.inr (.inl ⟨tl,_,_,_,rfl,rfl,SqT.of htl,rfl,.inl ⟨_,_,rfl,rfl,_,_,rfl,rfl,_,rfl,Zz (fun g=>?_) (fun g=>?_)⟩⟩)⟩⟩
       · have g':wv.1≤l.2+1:=g;refine⟨_,rfl,_,rfl,.inl ⟨D,_,_,_,rfl,rfl,SqL.of hD,qaZ hzl,.inr (.inl ⟨tl,_,_,_,rfl,rfl,SqT.of htl,rfl,_,rfl,_,rfl,.inl ⟨D,_,_,_,rfl,rfl,SqL.of hD,qaZ hzl,.inr (.inl ⟨tl,_,_,_,rfl,rfl,SqT.of htl,rfl,_,rfl,_,_,rfl,qj (Nat.le_of_ble_eq_true rfl),fun tt ft=>?_⟩)⟩⟩)⟩⟩;have St:=Same.new (.tup [.int l.1,.int (if wv.2 > l.2 then wv.2 else l.2)]) ft;refine⟨_,rfl,_,rfl,D,_,_,ys.length - 1,rfl,rfl,St _ _ hD,qe6 (by cases ys with|nil=>cases hzl|cons y ys=>simp),?_⟩;refine⟨_,_,ys.set (ys.length - 1) (.ref tt),rfl,(fun c o e n=>?_),qe,?_⟩
         · rw[qi n];exact St _ _ (B c o e n)
         · rw[qd7 ea g',← ty.1];exact(TupL.set (ty.same St) (i:=ys.length - 1) (p:=(l.1,if wv.2 > l.2 then wv.2 else l.2)) qe).put (St _ _ hD)
       · have g':¬ wv.1≤l.2+1:=g;refine⟨_,rfl,.inl ⟨rfl,_,SqL.of hD⟩,_,rfl,_,rfl,qj (Nat.le_of_ble_eq_true rfl),fun tt ft=>?_⟩;have St:=Same.new (.tup [.int wv.1,.int wv.2]) ft;refine⟨D,_,_,rfl,rfl,St _ _ hD,qR (by omega),?_⟩;refine⟨_,_,ys++[.ref tt],rfl,(fun c o e n=>?_),qe,?_⟩
         · rw[qi n];exact St _ _ (B c o e n)
         · rw[qfb ea g'];exact((ty.same St).snoc (p:=wv) qe).put (St _ _ hD)
   · rintro σ H3 ⟨s2,s3,ys,rfl,B,hD,ty⟩;have glen:=Z0 ss ss.length;rw[tz.1]at ty;rw[List.take_length]at ty glen;obtain⟨f1,f2⟩:=qea ss [] ⟨fun _ z=>(nomatch z),List.Pairwise.nil⟩ oks ord fun _ z=>nomatch z;refine⟨_,rfl,kk D _ H3 (S0.none fD) (fun c o e=>?_) ⟨ys,hD,ty⟩ f1 (by omega) fun n=>?_⟩
     · have n:c≠D:=qk (S0 _ _ e) fD;exact B _ _ (SG _ _ (S0 _ _ e)) n
     · rw[f2,qe2 hss,mok];exact⟨fun h=>h.elim (fun⟨_,z,_⟩=>nomatch z) id,.inr⟩
end
abbrev fsW (nm:Str) (lo hi:Int):List (Str×V):=[("name",.str nm),("low",.int lo),("high",.int hi)]
abbrev fsB (nm pl:Str) (lo hi:Int):List (Str×V):=[("name",.str nm),("place",.str pl),("low",.int lo),("high",.int hi)]
inductive z7 (K:Frag) (vs:List V) (H:Hp) (Q:VK):Prop
 | mk (x C dx:Addr) (nm:Str) (lo hi:Int) (u:V) (h1:vs=[.ref x,u]) (h2:H x=some (.ins C dx (fsW nm lo hi))) (h3:Cls K C) (h4:NoAttr K C "low") (h5:NoAttr K C "high") (h6:∀ (d:Addr) (r:List (Int×Int)) (H':Hp),H d=none->Same H H'->Rs H' d r->JH r->r.length≤1->(∀ n,Mem r n↔Mem [(lo,hi)] n)->Q (.ref d) H'):z7 K vs H Q
def QI (K:Frag):Sp:=fun vs H Q _=>z7 K vs H Q
inductive zC (K:Frag) (vs:List V) (H:Hp) (Q:VK):Prop
 | mk (x C dx:Addr) (nm pl:Str) (lo hi:Int) (h1:vs=[.ref x]) (h2:H x=some (.ins C dx (fsB nm pl lo hi))) (h3:Cls K C) (h4:NoAttr K C "place") (h5:∀ l,H l=none->Q (.ref l) (upd H l (.lst [.str pl]))):zC K vs H Q
def Qa (K:Frag):Sp:=fun vs H Q _=>zC K vs H Q
theorem qht {H:Hp}{t d:Addr}{w:Int×Int} (h1:H t=some (.tup (pr w))) (h2:H d=some (.lst [.ref t])):Rs H d [w]:=by
 refine⟨_,h2,rfl,fun j z y e1 e2=>?_⟩
 cases j with
 | zero=>cases e1;cases e2;exact⟨t,rfl,h1⟩
 | succ j=>cases e1
section
variable {P:Program}{w:World}{K:Frag}{mg:Str->Option Value}{base:Heap}
theorem Jn {a:Ad} (T:Txt K mg a):qB P w K mg base CX0 5 a.f_D a.fd_D ["self","tables"] (QI K):=by
 have G_L:=qbR (P:=P) (w:=w) (base:=base) T;refine T.d_D.F.ok j8 (fun vs H Q E h=>?_) (fun cdv A outer s H vs Q E hr h=>?_)
 · obtain⟨x,C,dx,nm,lo,hi,u,rfl,hx,cl,n1,n2,kk⟩:=h;rfl
 · obtain⟨x,C,dx,nm,lo,hi,u,rfl,hx,cl,n1,n2,kk⟩:=h;have h_L:Room (4) _:=hr.mono (by decide);refine⟨_,(qf (qu (qq G_L h_L rfl T.d_L.m T.d_L.k T.d_L.b .nil qv (qa (qZ (qa (zE (qa (zG (pv 0) rfl) (qa (zG (pv 0) rfl) qb))) qb)) qb)))),?_⟩;(try dsimp only [zc,Cx.nox]);refine⟨_,rfl,x,_,dx,_,_,rfl,hx,cl,n1,rfl,_,rfl,x,_,dx,_,_,rfl,hx,cl,n2,rfl,qj (Nat.le_of_ble_eq_true rfl),fun t ft=>⟨qj (Nat.le_of_ble_eq_true rfl),fun d fd=>?_⟩⟩;have S1:=Same.new (.tup [.int lo,.int hi]) ft;have S2:=Same.new (.lst [.ref t]) fd;refine⟨d,[(lo,hi)],rfl,qht (w:=(lo,hi)) (S2 _ _ qe) qe,Nat.le_of_ble_eq_true rfl,fun e r H3 fe S3 R can lr mem=>?_⟩;exact kk e r H3 ((S1.trans S2).none fe) ((S1.trans S2).trans S3) R can lr mem
theorem je {a:Ad} (T:Txt K mg a):qB P w K mg base CX0 1 a.f_E a.fd_E ["self"] (Qa K):=by
 refine T.d_E.F.ok ja (fun vs H Q E h=>?_) (fun cdv A outer s H vs Q E hr h=>?_)
 · obtain⟨x,C,dx,nm,pl,lo,hi,rfl,hx,cl,n1,kk⟩:=h;rfl
 · obtain⟨x,C,dx,nm,pl,lo,hi,rfl,hx,cl,n1,kk⟩:=h;refine⟨_,(qf (qu (qZ (qa (zG (pv 0) rfl) qb)))),?_⟩;(try dsimp only [zc,Cx.nox]);exact⟨_,rfl,x,_,dx,_,_,rfl,hx,cl,n1,rfl,qj (Nat.le_of_ble_eq_true rfl),fun l fl=>kk l fl⟩
end
theorem zI {l:List Addr} (n:l.Nodup) {i j:Nat}{x y:Addr} (hi:l[i]?=some x) (hj:l[j]?=some y) (h:i≠j):x≠y:=by
 intro e;subst e;obtain⟨h1,e1⟩:=List.getElem?_eq_some_iff.mp hi;obtain⟨h2,e2⟩:=List.getElem?_eq_some_iff.mp hj;exact h ((List.getElem_inj n).mp (e1.trans e2.symm))
theorem qo {H G:Hp}{l:Addr}{o:HO} (h:upd H l o=G) (f:H l=none):Same H G∧G l=some o:=by
 subst h;exact⟨Same.new o f,qe⟩
theorem z4 {K:Frag}{mg:Str->Option Value}{a:Ad} (T:Txt K mg a):kitOne K (.ref a.c_Entry) (.ref a.c_Entry)=some true:=by
 rw[qz T.mr_Entry rfl T.t_Entry];simp
theorem QY {K:Frag}{mg:Str->Option Value}{a:Ad} (T:Txt K mg a):kitOne K (.ref a.c_Entry) (.ref a.c_Within)=some false:=by
 rw[qz T.mr_Entry rfl T.t_Within];simp[zI T.ndc (i:=1) (j:=0) rfl rfl (by decide)]
theorem Jy {K:Frag}{mg:Str->Option Value}{a:Ad} (T:Txt K mg a):kitOne K (.ref a.c_Entry) (.ref a.c_At)=some false:=by
 rw[qz T.mr_Entry rfl T.t_At];simp[zI T.ndc (i:=2) (j:=0) rfl rfl (by decide)]
theorem Qw {K:Frag}{mg:Str->Option Value}{a:Ad} (T:Txt K mg a):kitOne K (.ref a.c_Entry) (.ref a.c_Between)=some false:=by
 rw[qz T.mr_Entry rfl T.t_Between];simp[zI T.ndc (i:=3) (j:=0) rfl rfl (by decide)]
theorem ZY {K:Frag}{mg:Str->Option Value}{a:Ad} (T:Txt K mg a):kitOne K (.ref a.c_Entry) (.ref a.c_Read)=some false:=by
 rw[qz T.mr_Entry rfl T.t_Read];simp[zI T.ndc (i:=4) (j:=0) rfl rfl (by decide)]
theorem z0 {K:Frag}{mg:Str->Option Value}{a:Ad} (T:Txt K mg a):kitOne K (.ref a.c_Entry) (.ref a.c_Joint)=some false:=by
 rw[qz T.mr_Entry rfl T.t_Joint];simp[zI T.ndc (i:=5) (j:=0) rfl rfl (by decide)]
theorem QZ {K:Frag}{mg:Str->Option Value}{a:Ad} (T:Txt K mg a):kitOne K (.ref a.c_Entry) (.ref a.c_Sifted)=some false:=by
 rw[qz T.mr_Entry rfl T.t_Sifted];simp[zI T.ndc (i:=6) (j:=0) rfl rfl (by decide)]
theorem zL {K:Frag}{mg:Str->Option Value}{a:Ad} (T:Txt K mg a):kitOne K (.ref a.c_Within) (.ref a.c_Entry)=some true:=by
 rw[qz T.mr_Within rfl T.t_Entry];simp
theorem zr {K:Frag}{mg:Str->Option Value}{a:Ad} (T:Txt K mg a):kitOne K (.ref a.c_Within) (.ref a.c_Within)=some true:=by
 rw[qz T.mr_Within rfl T.t_Within];simp
theorem jJ {K:Frag}{mg:Str->Option Value}{a:Ad} (T:Txt K mg a):kitOne K (.ref a.c_Within) (.ref a.c_At)=some false:=by
 rw[qz T.mr_Within rfl T.t_At];simp[zI T.ndc (i:=2) (j:=1) rfl rfl (by decide),zI T.ndc (i:=2) (j:=0) rfl rfl (by decide)]
theorem zZ {K:Frag}{mg:Str->Option Value}{a:Ad} (T:Txt K mg a):kitOne K (.ref a.c_Within) (.ref a.c_Read)=some false:=by
 rw[qz T.mr_Within rfl T.t_Read];simp[zI T.ndc (i:=4) (j:=1) rfl rfl (by decide),zI T.ndc (i:=4) (j:=0) rfl rfl (by decide)]
theorem zK {K:Frag}{mg:Str->Option Value}{a:Ad} (T:Txt K mg a):kitOne K (.ref a.c_Within) (.ref a.c_Joint)=some false:=by
 rw[qz T.mr_Within rfl T.t_Joint];simp[zI T.ndc (i:=5) (j:=1) rfl rfl (by decide),zI T.ndc (i:=5) (j:=0) rfl rfl (by decide)]
theorem Qv {K:Frag}{mg:Str->Option Value}{a:Ad} (T:Txt K mg a):kitOne K (.ref a.c_Within) (.ref a.c_Sifted)=some false:=by
 rw[qz T.mr_Within rfl T.t_Sifted];simp[zI T.ndc (i:=6) (j:=1) rfl rfl (by decide),zI T.ndc (i:=6) (j:=0) rfl rfl (by decide)]
theorem Zx {K:Frag}{mg:Str->Option Value}{a:Ad} (T:Txt K mg a):kitOne K (.ref a.c_At) (.ref a.c_Entry)=some true:=by
 rw[qz T.mr_At rfl T.t_Entry];simp
theorem jK {K:Frag}{mg:Str->Option Value}{a:Ad} (T:Txt K mg a):kitOne K (.ref a.c_At) (.ref a.c_Within)=some true:=by
 rw[qz T.mr_At rfl T.t_Within];simp
theorem qcu {K:Frag}{mg:Str->Option Value}{a:Ad} (T:Txt K mg a):kitOne K (.ref a.c_At) (.ref a.c_At)=some true:=by
 rw[qz T.mr_At rfl T.t_At];simp
theorem qan {K:Frag}{mg:Str->Option Value}{a:Ad} (T:Txt K mg a):kitOne K (.ref a.c_At) (.ref a.c_Read)=some false:=by
 rw[qz T.mr_At rfl T.t_Read];simp[zI T.ndc (i:=4) (j:=2) rfl rfl (by decide),zI T.ndc (i:=4) (j:=1) rfl rfl (by decide),zI T.ndc (i:=4) (j:=0) rfl rfl (by decide)]
theorem Zw {K:Frag}{mg:Str->Option Value}{a:Ad} (T:Txt K mg a):kitOne K (.ref a.c_At) (.ref a.c_Joint)=some false:=by
 rw[qz T.mr_At rfl T.t_Joint];simp[zI T.ndc (i:=5) (j:=2) rfl rfl (by decide),zI T.ndc (i:=5) (j:=1) rfl rfl (by decide),zI T.ndc (i:=5) (j:=0) rfl rfl (by decide)]
theorem jL {K:Frag}{mg:Str->Option Value}{a:Ad} (T:Txt K mg a):kitOne K (.ref a.c_At) (.ref a.c_Sifted)=some false:=by
 rw[qz T.mr_At rfl T.t_Sifted];simp[zI T.ndc (i:=6) (j:=2) rfl rfl (by decide),zI T.ndc (i:=6) (j:=1) rfl rfl (by decide),zI T.ndc (i:=6) (j:=0) rfl rfl (by decide)]
theorem zu {K:Frag}{mg:Str->Option Value}{a:Ad} (T:Txt K mg a):kitOne K (.ref a.c_Between) (.ref a.c_Entry)=some true:=by
 rw[qz T.mr_Between rfl T.t_Entry];simp
theorem Qd {K:Frag}{mg:Str->Option Value}{a:Ad} (T:Txt K mg a):kitOne K (.ref a.c_Between) (.ref a.c_Within)=some false:=by
 rw[qz T.mr_Between rfl T.t_Within];simp[zI T.ndc (i:=1) (j:=3) rfl rfl (by decide),zI T.ndc (i:=1) (j:=0) rfl rfl (by decide)]
theorem ZZ {K:Frag}{mg:Str->Option Value}{a:Ad} (T:Txt K mg a):kitOne K (.ref a.c_Between) (.ref a.c_At)=some false:=by
 rw[qz T.mr_Between rfl T.t_At];simp[zI T.ndc (i:=2) (j:=3) rfl rfl (by decide),zI T.ndc (i:=2) (j:=0) rfl rfl (by decide)]
theorem zS {K:Frag}{mg:Str->Option Value}{a:Ad} (T:Txt K mg a):kitOne K (.ref a.c_Between) (.ref a.c_Between)=some true:=by
 rw[qz T.mr_Between rfl T.t_Between];simp
theorem Q0 {K:Frag}{mg:Str->Option Value}{a:Ad} (T:Txt K mg a):kitOne K (.ref a.c_Between) (.ref a.c_Read)=some false:=by
 rw[qz T.mr_Between rfl T.t_Read];simp[zI T.ndc (i:=4) (j:=3) rfl rfl (by decide),zI T.ndc (i:=4) (j:=0) rfl rfl (by decide)]
theorem zt {K:Frag}{mg:Str->Option Value}{a:Ad} (T:Txt K mg a):kitOne K (.ref a.c_Between) (.ref a.c_Joint)=some false:=by
 rw[qz T.mr_Between rfl T.t_Joint];simp[zI T.ndc (i:=5) (j:=3) rfl rfl (by decide),zI T.ndc (i:=5) (j:=0) rfl rfl (by decide)]
theorem Qe {K:Frag}{mg:Str->Option Value}{a:Ad} (T:Txt K mg a):kitOne K (.ref a.c_Between) (.ref a.c_Sifted)=some false:=by
 rw[qz T.mr_Between rfl T.t_Sifted];simp[zI T.ndc (i:=6) (j:=3) rfl rfl (by decide),zI T.ndc (i:=6) (j:=0) rfl rfl (by decide)]
theorem Ql {K:Frag}{mg:Str->Option Value}{a:Ad} (T:Txt K mg a):kitOne K (.ref a.c_Read) (.ref a.c_Entry)=some true:=by
 rw[qz T.mr_Read rfl T.t_Entry];simp
theorem JT {K:Frag}{mg:Str->Option Value}{a:Ad} (T:Txt K mg a):kitOne K (.ref a.c_Read) (.ref a.c_Within)=some false:=by
 rw[qz T.mr_Read rfl T.t_Within];simp[zI T.ndc (i:=1) (j:=4) rfl rfl (by decide),zI T.ndc (i:=1) (j:=3) rfl rfl (by decide),zI T.ndc (i:=1) (j:=0) rfl rfl (by decide)]
theorem qam {K:Frag}{mg:Str->Option Value}{a:Ad} (T:Txt K mg a):kitOne K (.ref a.c_Read) (.ref a.c_At)=some false:=by
 rw[qz T.mr_Read rfl T.t_At];simp[zI T.ndc (i:=2) (j:=4) rfl rfl (by decide),zI T.ndc (i:=2) (j:=3) rfl rfl (by decide),zI T.ndc (i:=2) (j:=0) rfl rfl (by decide)]
theorem Jx {K:Frag}{mg:Str->Option Value}{a:Ad} (T:Txt K mg a):kitOne K (.ref a.c_Read) (.ref a.c_Between)=some true:=by
 rw[qz T.mr_Read rfl T.t_Between];simp
theorem QX {K:Frag}{mg:Str->Option Value}{a:Ad} (T:Txt K mg a):kitOne K (.ref a.c_Read) (.ref a.c_Read)=some true:=by
 rw[qz T.mr_Read rfl T.t_Read];simp
theorem Qk {K:Frag}{mg:Str->Option Value}{a:Ad} (T:Txt K mg a):kitOne K (.ref a.c_Read) (.ref a.c_Joint)=some false:=by
 rw[qz T.mr_Read rfl T.t_Joint];simp[zI T.ndc (i:=5) (j:=4) rfl rfl (by decide),zI T.ndc (i:=5) (j:=3) rfl rfl (by decide),zI T.ndc (i:=5) (j:=0) rfl rfl (by decide)]
theorem Zo {K:Frag}{mg:Str->Option Value}{a:Ad} (T:Txt K mg a):kitOne K (.ref a.c_Read) (.ref a.c_Sifted)=some false:=by
 rw[qz T.mr_Read rfl T.t_Sifted];simp[zI T.ndc (i:=6) (j:=4) rfl rfl (by decide),zI T.ndc (i:=6) (j:=3) rfl rfl (by decide),zI T.ndc (i:=6) (j:=0) rfl rfl (by decide)]
theorem Zp {K:Frag}{mg:Str->Option Value}{a:Ad} (T:Txt K mg a):kitOne K (.ref a.c_Joint) (.ref a.c_Joint)=some true:=by
 rw[qz T.mr_Joint rfl T.t_Joint];simp
theorem QW {K:Frag}{mg:Str->Option Value}{a:Ad} (T:Txt K mg a):kitOne K (.ref a.c_Sifted) (.ref a.c_Entry)=some true:=by
 rw[qz T.mr_Sifted rfl T.t_Entry];simp
theorem QV {K:Frag}{mg:Str->Option Value}{a:Ad} (T:Txt K mg a):kitOne K (.ref a.c_Sifted) (.ref a.c_Joint)=some false:=by
 rw[qz T.mr_Sifted rfl T.t_Joint];simp[zI T.ndc (i:=5) (j:=6) rfl rfl (by decide),zI T.ndc (i:=5) (j:=0) rfl rfl (by decide)]
theorem jU {K:Frag}{mg:Str->Option Value}{a:Ad} (T:Txt K mg a):kitOne K (.ref a.c_Sifted) (.ref a.c_Sifted)=some true:=by
 rw[qz T.mr_Sifted rfl T.t_Sifted];simp
abbrev fsJ (nm:Str) (l:Addr):List (Str×V):=[("name",.str nm),("kept_parts",.ref l)]
abbrev fsS (nm:Str) (p f:Addr):List (Str×V):=[("name",.str nm),("part",.ref p),("keeps",.ref f)]
def Sfd (a:Ad) (H:Hp) (x:Addr) (nm:Str):Prop:=∃ dx p f,H x=some (.ins a.c_Sifted dx (fsS nm p f))
inductive Pt (a:Ad) (H:Hp) (x:Addr):Prop
 | en {wd nm pl:Str}{lo hi:Int}:En a H x wd nm pl lo hi->Pt a H x
 | sf {nm:Str}:Sfd a H x nm->Pt a H x
theorem qgJ {K:Frag}{mg:Str->Option Value}{a:Ad} (T:Txt K mg a) {H:Hp}{x:Addr}{wd nm pl:Str}{lo hi:Int} (en:En a H x wd nm pl lo hi):∃ C,qa0 K H (.ref x) (.ref C)∧kitOne K (.ref C) (.ref a.c_Entry)=some true∧kitOne K (.ref C) (.ref a.c_Joint)=some false∧kitOne K (.ref C) (.ref a.c_Sifted)=some false:=by
 cases en with
 | @any dx _ hx=>exact⟨_,T.io_Entry.ty hx,z4 T,z0 T,QZ T⟩
 | @within dx _ _ _ hx=>exact⟨_,T.io_Within.ty hx,zL T,zK T,Qv T⟩
 | @at_ dx _ _ hx=>exact⟨_,T.io_At.ty hx,Zx T,Zw T,jL T⟩
 | @between dx _ _ _ _ hx=>exact⟨_,T.io_Between.ty hx,zu T,zt T,Qe T⟩
 | @read dx _ _ _ hx=>exact⟨_,T.io_Read.ty hx,Ql T,Qk T,Zo T⟩
theorem qhi {K:Frag}{mg:Str->Option Value}{a:Ad} (T:Txt K mg a) {H:Hp}{x:Addr} (h:Pt a H x):∃ C,qa0 K H (.ref x) (.ref C)∧kitOne K (.ref C) (.ref a.c_Entry)=some true∧kitOne K (.ref C) (.ref a.c_Joint)=some false:=by
 cases h with
 | en h=>obtain⟨C,h1,h2,h3,_⟩:=qgJ T h;exact⟨C,h1,h2,h3⟩
 | sf h=>obtain⟨dx,p,f,hx⟩:=h;exact⟨_,T.io_Sifted.ty hx,QW T,QV T⟩
theorem En.mp {a:Ad}{H H':Hp}{x:Addr}{wd nm pl:Str}{lo hi:Int} (h:En a H x wd nm pl lo hi) (k:∀ C d fs,H x=some (.ins C d fs)->fs≠[]->H' x=some (.ins C d fs)):En a H' x wd nm pl lo hi:=by
 cases h with
 | any e=>exact .any (k _ _ _ e (by simp))
 | within e=>exact .within (k _ _ _ e (by simp))
 | at_ e=>exact .at_ (k _ _ _ e (by simp))
 | between e=>exact .between (k _ _ _ e (by simp))
 | read e=>exact .read (k _ _ _ e (by simp))
theorem Pt.mp {a:Ad}{H H':Hp}{x:Addr} (h:Pt a H x) (k:∀ C d fs,H x=some (.ins C d fs)->fs≠[]->H' x=some (.ins C d fs)):Pt a H' x:=by
 cases h with
 | en h=>exact .en (h.mp k)
 | sf h=>obtain⟨dx,p,f,hx⟩:=h;exact .sf ⟨dx,p,f,k _ _ _ hx (by simp)⟩
theorem qhx {H H':Hp}{x y C dx:Addr} (hy:H y=some (.ins C dx [])) (b:But y H H'):∀ C d fs,H x=some (.ins C d fs)->fs≠[]->H' x=some (.ins C d fs):=fun C d fs e ne=>b _ _ e fun z=>by
 rw[z,hy]at e;cases e;exact ne rfl
theorem qic {H H':Hp}{x t:Addr}{ps:Array Value} (ht:H t=some (.tbl ps)) (b:But t H H'):∀ C d fs,H x=some (.ins C d fs)->fs≠[]->H' x=some (.ins C d fs):=fun C d fs e ne=>b _ _ e fun z=>by
 rw[z,ht]at e;cases e
theorem qeq:bootBuiltins "sum"=some (.builtin "sum"):=by decide +kernel
theorem jV:bootBuiltins "ValueError"=some (.type "ValueError"):=by decide +kernel
def qiU (ws:List (Int×Int)):Int:=(ws.map fun w=>w.2 - w.1+1).sum
inductive ZG (vs:List V) (H:Hp) (Q:VK):Prop
 | mk (q:Addr) (ws:List (Int×Int)) (h1:vs=[.ref q]) (h2:Rs H q ws) (h3:ws.length≤64) (h4:∀ H',Same H H'->Q (.int (qiU ws)) H'):ZG vs H Q
def j0:Sp:=fun vs H Q _=>ZG vs H Q
theorem qb9 {r:List (Int×Int)}{lo hi:Int} (c:JH r) (l:r.length≤1) (m:∀ n,Mem r n↔Mem [(lo,hi)] n) (h:hi - lo < 1000):qiU r≤1000:=by
 cases r with
 | nil=>decide
 | cons w t =>
   cases t with
   | cons _ _=>simp at l
   | nil =>
     have hw:=c.1 w (List.mem_singleton.mpr rfl);obtain⟨u,mu,a1,a2⟩:=(m w.1).mp ⟨w,List.mem_singleton.mpr rfl,Int.le_refl _,hw⟩;obtain⟨v,mv,b1,b2⟩:=(m w.2).mp ⟨w,List.mem_singleton.mpr rfl,hw,Int.le_refl _⟩;rw[List.mem_singleton.mp mu]at a1;rw[List.mem_singleton.mp mv]at b2;show (w.2 - w.1+1)+0≤1000;have a1':lo≤w.1:=a1;have b2':w.2≤hi:=b2;omega
abbrev rfs (xs:List Addr):List V:=xs.map V.ref
inductive Qo (a:Ad) (vs:List V) (H:Hp) (Q:VK):Prop
 | mk (q:Addr) (xs:List Addr) (h1:vs=[.ref q]) (h2:H q=some (.lst (rfs xs))) (h3:0 < xs.length) (h4:xs.length≤8) (h5:(∀ x∈xs,Pt a H x)) (h6:Q .non H):Qo a vs H Q
def Zb (a:Ad):Sp:=fun vs H Q _=>Qo a vs H Q
inductive QF (a:Ad) (vs:List V) (H:Hp) (Q:VK):Prop
 | mk (x:Addr) (wd nm pl:Str) (lo hi:Int) (h1:vs=[.ref x]) (h2:En a H x wd nm pl lo hi) (h3:(wd="read"∨((wd="within"∨wd="at")∧hi - lo < 1000))) (h4:∀ H',Same H H'->Q .non H'):QF a vs H Q
def ZI (a:Ad):Sp:=fun vs H Q _=>QF a vs H Q
inductive QL (a:Ad) (vs:List V) (H:Hp) (Q:VK):Prop
 | mk (x dx q:Addr) (nm:Str) (xs:List Addr) (h1:vs=[.ref x,.str nm,.ref q]) (h2:H x=some (.ins a.c_Joint dx [])) (h3:zg (.str nm)=true) (h4:H q=some (.lst (rfs xs))) (h5:0 < xs.length) (h6:xs.length≤8) (h7:(∀ x∈xs,Pt a H x)) (h8:∀ (l:Addr) (H':Hp),H l=none->But x H H'->H' x=some (.ins a.c_Joint dx (fsJ nm l))->H' l=some (.lst (rfs xs))->Q .non H'):QL a vs H Q
def ZL (a:Ad):Sp:=fun vs H Q _=>QL a vs H Q
inductive Qq (a:Ad) (vs:List V) (H:Hp) (Q:VK):Prop
 | mk (x dx p f:Addr) (nm wd pn pl:Str) (lo hi:Int) (h1:vs=[.ref x,.str nm,.ref p,.ref f]) (h2:H x=some (.ins a.c_Sifted dx [])) (h3:zg (.str nm)=true) (h4:En a H p wd pn pl lo hi) (h5:(wd="read"∨((wd="within"∨wd="at")∧hi - lo < 1000))) (h6:∀ H':Hp,But x H H'->H' x=some (.ins a.c_Sifted dx (fsS nm p f))->Q .non H'):Qq a vs H Q
def zV (a:Ad):Sp:=fun vs H Q _=>Qq a vs H Q
inductive Qs (a:Ad) (vs:List V) (H:Hp) (Q:VK):Prop
 | mk (x dx l:Addr) (nm:Str) (xs:List Addr) (h1:vs=[.ref x]) (h2:H x=some (.ins a.c_Joint dx (fsJ nm l))) (h3:H l=some (.lst (rfs xs))) (h4:∀ d,H d=none->Q (.ref d) (upd H d (.lst (rfs xs)))):Qs a vs H Q
def zW (a:Ad):Sp:=fun vs H Q _=>Qs a vs H Q
inductive zQ (K:Frag) (vs:List V) (H:Hp) (Q:VK):Prop
 | mk (ea:Addr) (x:Str) (C:Addr) (dx:Option Addr) (tb:Value) (h1:vs=[.ref ea,.str x]) (h2:H ea=some (.ext (ExO ea C dx tb))) (h3:xIn K C=true) (h4:Q .non H):zQ K vs H Q
def Qr (K:Frag):Sp:=fun vs H Q _=>zQ K vs H Q
inductive zA (a:Ad) (vs:List V) (H:Hp) (Q:VK):Prop
 | mk (ea:Addr) (v:V) (h1:vs=[.ref ea,v]) (h2:H ea=some (.ext (ExO ea a.c_Unwritten none .none))) (h3:∀ dx,H dx=none->dx≠ea->Q .non (upd (upd H ea (.ext (ExO ea a.c_Unwritten (some dx) .none))) dx (.xd [("name",v)]))):zA a vs H Q
def z8 (a:Ad):Sp:=fun vs H Q _=>zA a vs H Q
theorem qff {sc sc':Scope}{n:Nat} (h:∀ y∈sc'.names,y.2=NameKind.free->sc.names.lookup y.1=some .cell):∀ y∈sc'.names,y.2=NameKind.free->∃ c,(cellsFrom n sc.names []).lookup y.1=some c:=fun y m e=>qaY (h y m e)
abbrev qhw:Pos:=⟨259,11,259,54⟩
def TbD (a:Ad) (H:Hp):Prop:=qh5 H a.t_on_days qhw ("on_days"++".<locals>."++"<lambda>")
inductive jk (a:Ad) (vs:List V) (H:Hp) (Q:VK):Prop
 | mk (v u:V) (h1:vs=[v,u]) (h2:TbD a H) (h3:∀ (f:Addr) (H':Hp),H f=none->But a.t_on_days H H'->TbD a H'->Q (.ref f) H'):jk a vs H Q
def Z5 (a:Ad):Sp:=fun vs H Q _=>jk a vs H Q
section
variable {P:Program}{w:World}{K:Frag}{mg:Str->Option Value}{base:Heap}
theorem qbS {a:Ad} (T:Txt K mg a):qB P w K mg base CX0 1 a.f_M a.fd_M ["spans"] j0:=by
 refine T.d_M.F.ok qbP (fun vs H Q E h=>?_) (fun cdv A outer s H vs Q E hr h=>?_)
 · obtain⟨q,ws,rfl,hrs,few,kk⟩:=h;rfl
 · obtain⟨q,ws,rfl,hrs,few,kk⟩:=h;refine⟨_,(qf (qu (qp (r:=qhe K) (qel rfl) (by rfl) T.n_sum qeq (qa (jc rfl (CompOk.def ["low","high"] [none,none]) (QQ (pv 0)) (fun _ _ _ _ _=>(show PG _ _ (qjc K 2 _) from (qae rfl (qI (qE (i:=0) (show List.Nodup (["low","high"]:List Str) by decide +kernel) rfl (Or.inl rfl)) (qI (qE (i:=1) (show List.Nodup (["low","high"]:List Str) by decide +kernel) rfl (Or.inl rfl)) Zv))))) (fun _ _ _ _ _=>jb) (fun _ _ _ _ _=>(qm zk (qm Zk (pv 1) (pv 0)) qd))) qb)))),?_⟩;(try dsimp only [zc,Cx.nox]);obtain⟨zs,hq,tp⟩:=id hrs;refine⟨_,rfl,q,rfl,⟨_,SqL.of hq⟩,fun D fD=>?_⟩;refine Q1 (K:=K) (a:=q) (xs:=zs) (D:=D) (fun i σ H2=>∃ (s0 s1:Option V),σ=[s0,s1]∧Same H H2∧H2 D=some (.lst (((ws.take i).map fun w=>w.2 - w.1+1).map V.int))) ⟨none,none,rfl,Same.new _ fD,qe⟩ (fun i σ H2 _ ⟨_,_,_,S,_⟩=>SqL.of (S _ _ hq)) ?_ ?_
   · rintro i z σ H2 hz ⟨s0,s1,rfl,S,hD⟩;obtain⟨p,t,hp,rfl,ht⟩:=tp.of hz;have li:i < ws.length:=(List.getElem?_eq_some_iff.mp hp).1;refine⟨t,_,rfl,SqT.of (S _ _ ht),rfl,_,_,rfl,_,_,rfl,rfl,?_⟩;refine⟨_,rfl,_,rfl,_,_,rfl,rfl,.inl ⟨_,_,rfl,rfl,_,hD,qR (by rw[List.length_map,List.length_map,List.length_take];omega),_,_,rfl,S.put fD _,?_⟩⟩;rw[qe,List.take_add_one,hp];simp
   · rintro σ H2 ⟨s0,s1,rfl,S,hD⟩;rw[tp.1,List.take_length]at hD;exact⟨D,_,rfl,SqL.of hD,kk H2 S⟩
theorem JS {a:Ad} (T:Txt K mg a):qB P w K mg base CX0 1 a.f_N a.fd_N ["parts"] (Zb a):=by
 refine T.d_N.F.ok sc_check_parts (fun vs H Q E h=>?_) (fun cdv A outer s H vs Q E hr h=>?_)
 · obtain⟨q,xs,rfl,hq,h0,h8,en,kk⟩:=h;rfl
 · obtain⟨q,xs,rfl,hq,h0,h8,en,kk⟩:=h;have hU:=hr.units;obtain⟨t_MOST_PARTS,c_MOST_PARTS⟩:=T.g_MOST_PARTS
   refine⟨_,(qc (qP (PW.pt (ZS (ze (qM (qp zn (by rfl) T.n_isinstance qg (qa (pv 0) (qa (zX (v:=.ty "list") rfl T.n_list Qf rfl) qb))))) (Zi (qD (uEq hU) (qp zd (by rfl) T.n_len qW (qa (pv 0) qb)) qd (qF _)))))
       (qf zm)
       qw)
     (qc (qP (qD qgt (qp zd (by rfl) T.n_len qW (qa (pv 0) qb)) (qH (v:=.int 8) rfl c_MOST_PARTS ⟨_,rfl⟩) (qF _))
       (qf zm)
       qw)
     (qf (Jj PassesOwn.never rfl (QQ (pv 0)) (qE (i:=1) (sc_check_parts.nd) rfl (Or.inl rfl))
       (qf (qP (PW.pt (ZS (ze (qM (qp (r:=qa1 K) qS (by rfl) T.n_isinstance qg (qa (pv 1) (qa (qH (v:=.ref a.c_Entry) rfl T.g_Entry rfl) qb))))) (Zi (qM (qp (r:=qa1 K) qS (by rfl) T.n_isinstance qg (qa (pv 1) (qa (qH (v:=.ref a.c_Joint) rfl T.g_Joint rfl) qb)))))))
         (qf zm)
         qw)))))),?_⟩
   try dsimp only [zc,Cx.nox]
   have ty:tyN H (.ref q)=some "list":=by simp only[tyN];rw[hq]
   have lq:(rfs xs).length=xs.length:=List.length_map _;refine⟨_,rfl,_,_,_,rfl,(by decide),ty,true,rfl,qK rfl ?_⟩;refine⟨_,rfl,_,_,rfl,.inl ⟨_,SqL.of hq,rfl⟩,.inl ⟨rfl,_,rfl,Zz (fun g=>absurd g ?_) (fun _=>?_)⟩⟩
   · intro z;injection z with z;omega
   refine⟨_,rfl,_,_,rfl,.inl ⟨_,SqL.of hq,rfl⟩,_,_,rfl,rfl,_,rfl,Zz (fun g=>absurd g (by omega)) (fun _=>?_)⟩;(try unfold qy);(try dsimp only);refine⟨_,rfl,q,rfl,⟨_,SqL.of hq⟩,qaW (K:=K) (a:=q) (xs:=rfs xs) (fun j σ H'=>∃ s1:Option V,σ=[some (.ref q),s1]∧H'=H) ⟨_,rfl,rfl⟩ (fun j σ H' _ ⟨_,_,h⟩=>h▸SqL.of hq) ?_ ?_⟩
   · rintro j z σ H' hz ⟨s1,rfl,rfl⟩
     obtain⟨k,hk,rfl⟩:∃ k,xs[j]?=some k∧V.ref k=z:=by
       rw[List.getElem?_map]at hz;exact Option.map_eq_some_iff.mp hz
     obtain⟨C,c1,c2,c3⟩:=qhi T (en k (List.mem_of_getElem? hk));exact⟨_,rfl,_,_,_,_,rfl,c1,c2,true,rfl,qK rfl ⟨_,rfl,_,_,_,_,rfl,c1,c3,false,rfl,qK rfl ⟨_,rfl,rfl⟩⟩⟩
   · rintro σ H' ⟨s1,rfl,rfl⟩;exact kk
theorem Zn {a:Ad} (T:Txt K mg a):qB P w K mg base CX0 1 a.f_i a.fd_i ["self"] (zW a):=by
 refine T.d_i.F.ok JP (fun vs H Q E h=>?_) (fun cdv A outer s H vs Q E hr h=>?_)
 · obtain⟨x,dx,l,nm,xs,rfl,hx,hl,kk⟩:=h;rfl
 · obtain⟨x,dx,l,nm,xs,rfl,hx,hl,kk⟩:=h;refine⟨_,(qf (qu (zH (r:=qis K) Q2 (by rfl) T.n_list Qf (qa (zG (pv 0) rfl) qb)))),?_⟩;(try dsimp only [zc,Cx.nox]);exact⟨_,rfl,x,_,dx,_,_,rfl,hx,T.cl_Joint,T.n_Joint_kept_parts,rfl,l,_,rfl,.inl (SqL.of hl),fun d fd=>kk d fd⟩
theorem qaQ {a:Ad} (T:Txt K mg a):qB P w K mg base CX0 5 a.f_W a.fd_W ["self","name","parts"] (ZL a):=by
 have G_b:=zf (P:=P) (w:=w) (base:=base) T;have G_N:=JS (P:=P) (w:=w) (base:=base) T;refine T.d_W.F.ok qaE (fun vs H Q E h=>?_) (fun cdv A outer s H vs Q E hr h=>?_)
 · obtain⟨x,dx,q,nm,xs,rfl,hx,ok,hq,h0,h8,en,kk⟩:=h;rfl
 · obtain⟨x,dx,q,nm,xs,rfl,hx,ok,hq,h0,h8,en,kk⟩:=h;have h_b:Room (3+1) _:=hr.mono (by decide);have h_N:Room (1) _:=hr.mono (by decide)
   refine⟨_,(qc (qN (Qj T.ci_Entry G_b (h_b.mono (by decide)) T.d_b.b rfl T.g_Entry (qa (pv 0) (qa (pv 1) qb))))
     (qc (qN (qq G_N h_N rfl T.d_N.m T.d_N.k T.d_N.b .nil qv (qa (pv 2) qb)))
     (qf (ZT (pv 0) (zH (r:=qis K) Q2 (by rfl) T.n_list Qf (qa (pv 2) qb)) rfl)))),?_⟩
   try dsimp only [zc,Cx.nox]
   refine⟨_,rfl,_,rfl,x,a.c_Joint,dx,nm,rfl,hx,ok,T.cl_Joint,T.n_Joint_name,fun H1 B1 h1=>?_⟩;have hq1:=B1 _ _ hq (qgx hq hx (by intro z;cases z));refine⟨_,rfl,q,xs,rfl,hq1,h0,h8,fun k m=>(en k m).mp (qhx hx B1),?_⟩;refine⟨_,rfl,q,_,rfl,.inl (SqL.of hq1),fun l fl=>?_⟩;have nl:l≠x:=fun z=>by rw[z,h1]at fl;cases fl
   refine⟨_,rfl,x,_,dx,_,rfl,(by rw[qi nl.symm];exact h1),T.cl_Joint,T.n_Joint_kept_parts,(Nat.le_of_ble_eq_true rfl),?_⟩;exact kk l _ (B1.none fl nl) (fun b o e nb=>by rw[qi nb,qi (qk (B1 b o e nb) fl)];exact B1 b o e nb) (by rw[qe];rfl) (by rw[qi nl,qe])
theorem qaP {a:Ad} (T:Txt K mg a):qB P w K mg base CX0 6 a.f_O a.fd_O ["part"] (ZI a):=by
 have G_M:=qbS (P:=P) (w:=w) (base:=base) T;have G_D:=Jn (P:=P) (w:=w) (base:=base) T;refine T.d_O.F.ok sc_check_part (fun vs H Q E h=>?_) (fun cdv A outer s H vs Q E hr h=>?_)
 · obtain⟨x,wd,nm,pl,lo,hi,rfl,en,hw,kk⟩:=h;rfl
 · obtain⟨x,wd,nm,pl,lo,hi,rfl,en,hw,kk⟩:=h;have h_M:Room (1) _:=hr.mono (by decide);have h_D:Room (5) _:=hr.mono (by decide);obtain⟨t_MOST_SIFTED,c_MOST_SIFTED⟩:=T.g_MOST_SIFTED
   refine⟨_,(qc (qP (qM (qp (r:=qa1 K) qS (by rfl) T.n_isinstance qg (qa (pv 0) (qa (qH (v:=.ref a.c_Read) rfl T.g_Read rfl) qb))))
       (qf qgp)
       qw)
     (qc (qP (ze (qM (qp (r:=qa1 K) qS (by rfl) T.n_isinstance qg (qa (pv 0) (qa (qH (v:=.ref a.c_Within) rfl T.g_Within rfl) qb)))))
       (qf zm)
       qw)
     (qc (qA (i:=1) sc_check_part.nd rfl (Or.inl rfl) (qq G_M h_M rfl T.d_M.m T.d_M.k T.d_M.b .nil qv (qa (PE.or (qdH (pv 0) T.cl_Within T.d_D.mt G_D h_D T.d_D.b .nil qv (qa qcm qb)) (qdH (pv 0) T.cl_At T.i_At_spans G_D h_D T.d_D.b .nil qv (qa qcm qb))) qb)))
     (qf (qP (qD qgt (pv 1) (qH (v:=.int 1000) rfl c_MOST_SIFTED ⟨_,rfl⟩) (qF _))
       (qf zm)
       qw))))),?_⟩
   try dsimp only [zc,Cx.nox]
   cases en with
   | @any dx _ hx=>exact absurd hw (by decide)
   | @within dx _ _ _ hx =>
     have hlt:=(hw.resolve_left (by decide)).2;refine⟨_,rfl,_,_,_,_,rfl,T.io_Within.ty hx,zZ T,false,rfl,qK rfl ?_⟩;refine⟨_,rfl,_,_,_,_,rfl,T.io_Within.ty hx,zr T,true,rfl,qK rfl ?_⟩;(try unfold qy);(try dsimp only);refine .inl ⟨_,rfl,x,dx,_,rfl,hx,rfl,fun d0 fd0=>⟨x,_,dx,_,_,_,_,rfl,(Same.new (.dK []) fd0) _ _ hx,T.cl_Within,T.n_Within_low,T.n_Within_high,fun d r H1 fd S1 R c l m=>⟨d,r,rfl,R,Nat.le_trans l (Nat.le_of_ble_eq_true rfl),fun H2 S2=>?_⟩⟩⟩;have S3:=((Same.new (.dK []) fd0).trans S1).trans S2;refine⟨_,rfl,_,_,rfl,rfl,_,rfl,Zz (fun g=>absurd g ?_) (fun _=>kk H2 S3)⟩
     have:=qb9 c l m hlt
     omega
   | @at_ dx _ _ hx =>
     have hlt:=(hw.resolve_left (by decide)).2;refine⟨_,rfl,_,_,_,_,rfl,T.io_At.ty hx,qan T,false,rfl,qK rfl ?_⟩;refine⟨_,rfl,_,_,_,_,rfl,T.io_At.ty hx,jK T,true,rfl,qK rfl ?_⟩;(try unfold qy);(try dsimp only);refine .inr ⟨_,rfl,x,dx,_,rfl,hx,rfl,fun d0 fd0=>⟨x,_,dx,_,_,_,_,rfl,(Same.new (.dK []) fd0) _ _ hx,T.cl_At,T.n_At_low,T.n_At_high,fun d r H1 fd S1 R c l m=>⟨d,r,rfl,R,Nat.le_trans l (Nat.le_of_ble_eq_true rfl),fun H2 S2=>?_⟩⟩⟩;have S3:=((Same.new (.dK []) fd0).trans S1).trans S2;refine⟨_,rfl,_,_,rfl,rfl,_,rfl,Zz (fun g=>absurd g ?_) (fun _=>kk H2 S3)⟩
     have:=qb9 c l m hlt
     omega
   | @between dx _ _ _ _ hx=>exact absurd hw (by intro z;rcases z with z|⟨z|z,_⟩<;>exact absurd z (by decide))
   | @read dx _ _ _ hx=>exact⟨_,rfl,_,_,_,_,rfl,T.io_Read.ty hx,QX T,true,rfl,qgC rfl (kk H (Same.refl H))⟩
theorem Zm {a:Ad} (T:Txt K mg a):qB P w K mg base CX0 7 a.f_w a.fd_w ["self","name","part","keeps"] (zV a):=by
 have G_b:=zf (P:=P) (w:=w) (base:=base) T;have G_O:=qaP (P:=P) (w:=w) (base:=base) T;refine T.d_w.F.ok JO (fun vs H Q E h=>?_) (fun cdv A outer s H vs Q E hr h=>?_)
 · obtain⟨x,dx,p,f,nm,wd,pn,pl,lo,hi,rfl,hx,ok,en,hw,kk⟩:=h;rfl
 · obtain⟨x,dx,p,f,nm,wd,pn,pl,lo,hi,rfl,hx,ok,en,hw,kk⟩:=h;have h_b:Room (3+1) _:=hr.mono (by decide);have h_O:Room (6) _:=hr.mono (by decide)
   refine⟨_,(qc (qN (Qj T.ci_Entry G_b (h_b.mono (by decide)) T.d_b.b rfl T.g_Entry (qa (pv 0) (qa (pv 1) qb))))
     (qc (qN (qq G_O h_O rfl T.d_O.m T.d_O.k T.d_O.b .nil qv (qa (pv 2) qb)))
     (qc (ZT (pv 0) (pv 2) rfl)
     (qf (ZT (pv 0) (pv 3) rfl))))),?_⟩
   try dsimp only [zc,Cx.nox]
   refine⟨_,rfl,_,rfl,x,a.c_Sifted,dx,nm,rfl,hx,ok,T.cl_Sifted,T.n_Sifted_name,fun H1 B1 h1=>?_⟩;refine⟨_,rfl,p,wd,pn,pl,lo,hi,rfl,en.mp (qhx hx B1),hw,fun H2 S2=>?_⟩;refine⟨_,rfl,_,rfl,x,_,dx,_,rfl,S2 _ _ h1,T.cl_Sifted,T.n_Sifted_part,(Nat.le_of_ble_eq_true rfl),?_⟩;refine⟨_,rfl,_,rfl,x,_,dx,_,rfl,qe,T.cl_Sifted,T.n_Sifted_keeps,(Nat.le_of_ble_eq_true rfl),?_⟩;exact kk _ (fun b o e nb=>by rw[qi nb,qi nb];exact S2 b o (B1 b o e nb)) (by rw[qe];rfl)
theorem jS {a:Ad} (T:Txt K mg a):qB P w K mg base CX0 1 a.f_Y a.fd_Y ["self","text"] (Qr K):=by
 refine T.d_Y.F.ok jP (fun vs H Q E h=>?_) (fun cdv A outer s H vs Q E hr h=>?_)
 · obtain⟨ea,x,C,dx,tb,rfl,he,xi,kk⟩:=h;rfl
 · obtain⟨ea,x,C,dx,tb,rfl,he,xi,kk⟩:=h;refine⟨_,(qf (qN (qeV rfl T.n_ValueError jV (qa (pv 0) (qa (pv 1) qb))))),?_⟩;(try dsimp only [zc,Cx.nox]);exact⟨_,rfl,_,rfl,ea,C,dx,tb,_,rfl,Nat.le_of_ble_eq_true rfl,he,xi,kk⟩
theorem jd {a:Ad} (T:Txt K mg a):qB P w K mg base CX0 3 a.f_X a.fd_X ["self","name"] (z8 a):=by
 have G_Y:=jS (P:=P) (w:=w) (base:=base) T;refine T.d_X.F.ok Z9 (fun vs H Q E h=>?_) (fun cdv A outer s H vs Q E hr h=>?_)
 · obtain⟨ea,v,rfl,he,kk⟩:=h;rfl
 · obtain⟨ea,v,rfl,he,kk⟩:=h;have h_Y:Room (1+1) _:=hr.mono (by decide)
   refine⟨_,(qc (qN (Qj T.ci_LogError G_Y (h_Y.mono (by decide)) T.d_Y.b rfl T.g_LogError (qa (pv 0) (qa qt qb))))
     (qf (qgn (pv 0) (pv 1) rfl))),?_⟩
   try dsimp only [zc,Cx.nox]
   refine⟨_,rfl,ea,_,_,_,_,rfl,he,T.X_Unwritten.c.xi,?_⟩;exact⟨_,rfl,_,rfl,ea,_,_,rfl,he,T.X_Unwritten.c,T.n_Unwritten_name,kk⟩
theorem qag {a:Ad} (T:Txt K mg a) (hB:qc6 mg base):qB P w K mg base CX0 1 a.f_j a.fd_j ["low","high"] (Z5 a):=by
 refine T.d_j.F.okC T.cd_on_days qcI (fun vs H Q E h=>?_) (fun cdv A outer s H vs Q E hcd hr h=>?_)
 · obtain⟨v,u,rfl,tb,kk⟩:=h;rfl
 · obtain⟨v,u,rfl,tb,kk⟩:=h;obtain⟨t_DAY,c_DAY⟩:=T.g_DAY;refine⟨_,(qf (qu (qhn (T:=a.t_on_days) rfl (qff (sc:=qh Jc) (by decide)) hcd T.hd_on_days hB))),?_⟩;(try dsimp only [zc,Cx.nox]);exact⟨tb,fun f c o H' f0 nf B tb' _ _ _=>kk f H' f0 B tb'⟩
end
inductive Qm (vs:List V) (H:Hp) (Q:VK):Prop
 | mk (m:Nat) (h1:vs=[.int m]) (h2:m < 60) (h3:∀ x:Str,x.cps.toList=qc3 m->Q (.str x) H):Qm vs H Q
def Q7:Sp:=fun vs H Q _=>Qm vs H Q
inductive QE (vs:List V) (H:Hp) (Q:VK):Prop
 | mk (n:Int) (h1:vs=[.int n]) (h2:Sm n) (h3:∀ x:Str,x.cps.toList=clL n->Q (.str x) H):QE vs H Q
def ZH:Sp:=fun vs H Q _=>QE vs H Q
theorem qaw {a b:Str} (h:a.cps.toList=b.cps.toList):a=b:=by
 obtain⟨x⟩:=a;obtain⟨y⟩:=b
 have:x=y:=Array.toList_inj.mp h
 rw[this]
def ckT (n:Int):Str:=⟨(clL n).toArray⟩
theorem qhv {x:Str}{n:Int} (h:x.cps.toList=clL n):x=ckT n:=qaw (by rw[h];rfl)
theorem q9 {n:Int} (h:Sm n):(ckT n).length≤37:=by
 have h1:(Str.ofString (toString (n / 1440))).length≤31:=Sm.len ⟨by have:=h.1;omega,by have:=h.2;omega⟩;rw[← zi]at h1 ⊢;show (clL n).length≤37;unfold clL;have h2:(qfN (n / 1440)).length≤31:=h1;simp only[List.length_append,List.length_cons];have h3:∀ m,(qc3 m).length=2:=fun _=>rfl;rw[h3,h3];omega
theorem qgy {n:Nat} (h:n < 100000):((n:Int)).natAbs.log2 < 1920:=Sm.log ⟨by omega,by omega⟩
def qbL (wd:Str) (lo hi:Int):List Int:=if wd="any" then [] else if wd="within"∨wd="between" then [lo,hi] else [lo]
theorem qcq (lo hi:Int):qbL "any" lo hi=[]:=if_pos rfl
theorem Jq (lo hi:Int):qbL "within" lo hi=[lo,hi]:=by unfold qbL;rw[if_neg (by decide),if_pos (by decide)]
theorem qdR (lo hi:Int):qbL "at" lo hi=[lo]:=by unfold qbL;rw[if_neg (by decide),if_neg (by decide)]
theorem jI (lo hi:Int):qbL "between" lo hi=[lo,hi]:=by unfold qbL;rw[if_neg (by decide),if_pos (by decide)]
theorem qbq (lo hi:Int):qbL "read" lo hi=[lo]:=by unfold qbL;rw[if_neg (by decide),if_neg (by decide)]
def fT (wd pl:Str) (lo hi:Int):Str:=if wd="any" then "any" else if wd="within" then "within "++ckT lo++" "++ckT hi else if wd="at" then "at "++ckT lo else if wd="between" then "between "++pl++" "++ckT lo++" "++ckT hi else "read "++pl++" "++ckT lo
theorem qfS (pl:Str) (lo hi:Int):fT "any" pl lo hi="any":=if_pos rfl
theorem qbx (pl:Str) (lo hi:Int):fT "within" pl lo hi="within "++ckT lo++" "++ckT hi:=by unfold fT;rw[if_neg (by decide),if_pos rfl]
theorem qhP (pl:Str) (lo hi:Int):fT "at" pl lo hi="at "++ckT lo:=by unfold fT;rw[if_neg (by decide),if_neg (by decide),if_pos rfl]
theorem qar (pl:Str) (lo hi:Int):fT "between" pl lo hi="between "++pl++" "++ckT lo++" "++ckT hi:=by unfold fT;rw[if_neg (by decide),if_neg (by decide),if_neg (by decide),if_pos rfl]
theorem qed (pl:Str) (lo hi:Int):fT "read" pl lo hi="read "++pl++" "++ckT lo:=by unfold fT;rw[if_neg (by decide),if_neg (by decide),if_neg (by decide),if_neg (by decide)]
theorem jf (sep:Str) (ys:List Str):Txt.join sep ys=Str.join sep ys:=StrLaws.glued_eq_join sep ys
theorem qfM (sep p:Str):Txt.join sep [p]=p:=by rw[jf];rfl
theorem qhI (sep p q:Str):Txt.join sep [p,q]=p++sep++q:=by rw[jf];rfl
theorem qfL (sep p q r:Str):Txt.join sep [p,q,r]=p++sep++q++sep++r:=by
 rw[jf];show p++sep++(q++sep++r)=_;apply qaw;simp only[qG,List.append_assoc]
theorem qhH (sep p q r s:Str):Txt.join sep [p,q,r,s]=p++sep++q++sep++r++sep++s:=by
 rw[jf];show p++sep++(q++sep++(r++sep++s))=_;apply qaw;simp only[qG,List.append_assoc]
structure Bd (pl:Str) (lo hi:Int):Prop where
 l:-10000000000≤lo∧lo≤10000000000
 h:-10000000000≤hi∧hi≤10000000000
 p:pl.length≤8
theorem Bd.sl {pl:Str}{lo hi:Int} (b:Bd pl lo hi):Sm lo:=⟨by have:=b.l;omega,by have:=b.l;omega⟩
theorem Bd.sh {pl:Str}{lo hi:Int} (b:Bd pl lo hi):Sm hi:=⟨by have:=b.h;omega,by have:=b.h;omega⟩
theorem qhO {wd pl:Str}{lo hi:Int} (b:Bd pl lo hi):(fT wd pl lo hi).length≤120:=by
 have h1:=q9 b.sl;have h2:=q9 b.sh;have h3:=b.p;have e1:(Str.ofString "any").length=3:=rfl;have e2:(Str.ofString "within ").length=7:=rfl;have e3:(Str.ofString "at ").length=3:=rfl;have e4:(Str.ofString "between ").length=8:=rfl;have e5:(Str.ofString "read ").length=5:=rfl;have e6:(Str.ofString " ").length=1:=rfl;unfold fT;split
 · rw[e1];omega
 split
 · simp only[Str.length_append];omega
 split
 · simp only[Str.length_append];omega
 split
 · simp only[Str.length_append];omega
 · simp only[Str.length_append];omega
inductive Qz (a:Ad) (vs:List V) (H:Hp) (Q:VK):Prop
 | mk (x:Addr) (wd nm pl:Str) (lo hi:Int) (h1:vs=[.ref x]) (h2:En a H x wd nm pl lo hi) (h3:∀ l,H l=none->Q (.ref l) (upd H l (.lst ((qbL wd lo hi).map V.int)))):Qz a vs H Q
def ZC (a:Ad):Sp:=fun vs H Q _=>Qz a vs H Q
inductive Qy (a:Ad) (vs:List V) (H:Hp) (Q:VK):Prop
 | mk (x:Addr) (wd nm pl:Str) (lo hi:Int) (h1:vs=[.ref x]) (h2:En a H x wd nm pl lo hi) (h3:Bd pl lo hi) (h4:∀ H',Same H H'->Q (.str (fT wd pl lo hi)) H'):Qy a vs H Q
def ZB (a:Ad):Sp:=fun vs H Q _=>Qy a vs H Q
section
variable {P:Program}{w:World}{K:Frag}{mg:Str->Option Value}{base:Heap}
theorem JR {a:Ad} (T:Txt K mg a):qB P w K mg base CX0 1 a.f_x a.fd_x ["number"] Q7:=by
 refine T.d_x.F.ok JK (fun vs H Q E h=>?_) (fun cdv A outer s H vs Q E hr h=>?_)
 · obtain⟨m,rfl,hm,k⟩:=h;rfl
 · obtain⟨m,rfl,hm,k⟩:=h;refine⟨_,(qf (qu (Jk PySem.F.plainAttrs_str PySem.F.slot_str_zfill PySem.F.type_str_zfill qe1 (zH zT (by rfl) T.n_str zN (qa (pv 0) qb)) (qa qd qb)))),?_⟩;(try dsimp only [zc,Cx.nox]);exact⟨_,rfl,_,rfl,qgy (by omega),rfl,_,_,rfl,rfl,by decide,k _ (qc7 m hm)⟩
theorem qaO {a:Ad} (T:Txt K mg a):qB P w K mg base CX0 2 a.f_I a.fd_I ["number"] ZH:=by
 have G_x:=JR (P:=P) (w:=w) (base:=base) T;refine T.d_I.F.ok sc_clock_text (fun vs H Q E h=>?_) (fun cdv A outer s H vs Q E hr h=>?_)
 · obtain⟨n,rfl,sn,k⟩:=h;rfl
 · obtain⟨n,rfl,sn,k⟩:=h;have h_x:Room (1) _:=hr.mono (by decide);obtain⟨t_HOUR,c_HOUR⟩:=T.g_HOUR;obtain⟨t_DAY,c_DAY⟩:=T.g_DAY
   refine⟨_,(qc (qA (i:=1) sc_clock_text.nd rfl (Or.inl rfl) (qm qaJ (pv 0) (qH (v:=.int 1440) rfl c_DAY ⟨_,rfl⟩)))
     (qc (qA (i:=2) sc_clock_text.nd rfl (Or.inl rfl) (qq G_x h_x rfl T.d_x.m T.d_x.k T.d_x.b .nil qv (qa (qm qaJ (qm zb (pv 0) (qH (v:=.int 1440) rfl c_DAY ⟨_,rfl⟩)) (qH (v:=.int 60) rfl c_HOUR ⟨_,rfl⟩)) qb)))
     (qc (qA (i:=3) sc_clock_text.nd rfl (Or.inl rfl) (qq G_x h_x rfl T.d_x.m T.d_x.k T.d_x.b .nil qv (qa (qm zb (pv 0) (qH (v:=.int 60) rfl c_HOUR ⟨_,rfl⟩)) qb)))
     (qf (qu (qbn (Zu (qcl (pv 1)) (Zu qt (Zu (qcl (pv 2)) (Zu qt (Zu (qcl (pv 3)) qfC))))))))))),?_⟩
   try dsimp only [zc,Cx.nox]
   obtain⟨n0,n1⟩:=id sn;refine⟨_,rfl,_,_,rfl,rfl,⟨by decide,by decide⟩,?_⟩;refine⟨_,rfl,_,_,rfl,rfl,(by show (0:Int) < 1440;decide),_,_,rfl,rfl,⟨by decide,by decide⟩,(n % 1440 / 60).toNat,?_,by omega,fun hx ehx=>?_⟩
   · show [V.int (n % 1440 / 60)]=_;congr 2;omega
   refine⟨_,rfl,_,_,rfl,rfl,(by show (0:Int) < 60;decide),(n % 60).toNat,?_,by omega,fun mx emx=>?_⟩
   · show [V.int (n % 60)]=_;congr 2;omega
   have l1:(Str.ofString (toString (n / 1440))).length≤31:=Sm.len ⟨by omega,by omega⟩;have l2:hx.length≤2:=by rw[← zi,ehx];exact Nat.le_refl _
   have l3:mx.length≤2:=by rw[← zi,emx];exact Nat.le_refl _
   refine⟨_,rfl,.inl ⟨_,rfl,Sm.log ⟨by omega,by omega⟩,_,rfl,Z4 (n:=0) (by decide) l1 (by decide),?_⟩⟩;refine⟨_,rfl,Z4 (qx (n:=0) (by decide) l1) (show (Str.ofString ".").length≤1 by decide +kernel) (by decide),?_⟩;refine⟨_,rfl,.inr ⟨_,rfl,qj (by omega),_,rfl,Z4 (qx (qx (n:=0) (by decide) l1) (show (Str.ofString ".").length≤1 by decide +kernel)) l2 (by decide),?_⟩⟩;refine⟨_,rfl,Z4 (qx (qx (qx (n:=0) (by decide) l1) (show (Str.ofString ".").length≤1 by decide +kernel)) l2) (show (Str.ofString ".").length≤1 by decide +kernel) (by decide),?_⟩;refine⟨_,rfl,.inr ⟨_,rfl,qj (by omega),_,rfl,Z4 (qx (qx (qx (qx (n:=0) (by decide) l1) (show (Str.ofString ".").length≤1 by decide +kernel)) l2) (show (Str.ofString ".").length≤1 by decide +kernel)) l3 (by decide),?_⟩⟩;refine⟨Nat.le_trans (qx (qx (qx (qx (qx (n:=0) (by decide) l1) (show (Str.ofString ".").length≤1 by decide +kernel)) l2) (show (Str.ofString ".").length≤1 by decide +kernel)) l3) (qj (by decide)),k _ ?_⟩;rw[qG,qG,qG,qG,qG,ehx,emx,qcC];show []++qfN (n / 1440)++[46]++qc3 (n % 1440 / 60).toNat++[46]++qc3 (n % 60).toNat=clL n;unfold clL;simp
theorem qaL {a:Ad} (T:Txt K mg a):qB P w K mg base CX0 1 a.f_P a.fd_P ["entry"] (ZC a):=by
 refine T.d_P.F.ok qaA (fun vs H Q E h=>?_) (fun cdv A outer s H vs Q E hr h=>?_)
 · obtain⟨x,wd,nm,pl,lo,hi,rfl,en,kk⟩:=h;rfl
 · obtain⟨x,wd,nm,pl,lo,hi,rfl,en,kk⟩:=h;have hU:=hr.units
   refine⟨_,(qc (qP (PW.pt (ZS (qM (qp (r:=qa1 K) qS (by rfl) T.n_isinstance qg (qa (pv 0) (qa (qH (v:=.ref a.c_At) rfl T.g_At rfl) qb)))) (Zi (qM (qp (r:=qa1 K) qS (by rfl) T.n_isinstance qg (qa (pv 0) (qa (qH (v:=.ref a.c_Read) rfl T.g_Read rfl) qb)))))))
       (qf (qu (qZ (qa (zG (pv 0) rfl) qb))))
       qw)
     (qc (qP (PW.pt (ZS (qM (qp (r:=qa1 K) qS (by rfl) T.n_isinstance qg (qa (pv 0) (qa (qH (v:=.ref a.c_Within) rfl T.g_Within rfl) qb)))) (Zi (qM (qp (r:=qa1 K) qS (by rfl) T.n_isinstance qg (qa (pv 0) (qa (qH (v:=.ref a.c_Between) rfl T.g_Between rfl) qb)))))))
       (qf (qu (qZ (qa (zG (pv 0) rfl) (qa (zG (pv 0) rfl) qb)))))
       qw)
     (qf (qu (qZ qb))))),?_⟩
   try dsimp only [zc,Cx.nox]
   cases en with
   | @any dx _ hx =>
     rw[qcq]at kk;refine⟨_,rfl,_,_,_,_,rfl,T.io_Entry.ty hx,Jy T,false,rfl,Zq ⟨_,rfl,_,_,_,_,rfl,T.io_Entry.ty hx,ZY T,false,rfl,Zq ?_⟩⟩;refine⟨_,rfl,_,_,_,_,rfl,T.io_Entry.ty hx,QY T,false,rfl,Zq ⟨_,rfl,_,_,_,_,rfl,T.io_Entry.ty hx,Qw T,false,rfl,Zq ?_⟩⟩;exact⟨Nat.zero_le _,fun l fl=>kk l fl⟩
   | @within dx _ _ _ hx =>
     rw[Jq]at kk;refine⟨_,rfl,_,_,_,_,rfl,T.io_Within.ty hx,jJ T,false,rfl,Zq ⟨_,rfl,_,_,_,_,rfl,T.io_Within.ty hx,zZ T,false,rfl,Zq ?_⟩⟩;refine⟨_,rfl,_,_,_,_,rfl,T.io_Within.ty hx,zr T,true,rfl,Q6 ?_⟩;exact⟨_,rfl,x,_,dx,_,_,rfl,hx,T.cl_Within,T.n_Within_low,rfl,_,rfl,x,_,dx,_,_,rfl,hx,T.cl_Within,T.n_Within_high,rfl,qj (Nat.le_of_ble_eq_true rfl),fun l fl=>kk l fl⟩
   | @at_ dx _ _ hx =>
     rw[qdR]at kk;refine⟨_,rfl,_,_,_,_,rfl,T.io_At.ty hx,qcu T,true,rfl,Q6 ?_⟩;exact⟨_,rfl,x,_,dx,_,_,rfl,hx,T.cl_At,T.n_At_low,rfl,qj (Nat.le_of_ble_eq_true rfl),fun l fl=>kk l fl⟩
   | @between dx _ _ _ _ hx =>
     rw[jI]at kk;refine⟨_,rfl,_,_,_,_,rfl,T.io_Between.ty hx,ZZ T,false,rfl,Zq ⟨_,rfl,_,_,_,_,rfl,T.io_Between.ty hx,Q0 T,false,rfl,Zq ?_⟩⟩;refine⟨_,rfl,_,_,_,_,rfl,T.io_Between.ty hx,Qd T,false,rfl,Zq ⟨_,rfl,_,_,_,_,rfl,T.io_Between.ty hx,zS T,true,rfl,Q6 ?_⟩⟩;exact⟨_,rfl,x,_,dx,_,_,rfl,hx,T.cl_Between,T.n_Between_low,rfl,_,rfl,x,_,dx,_,_,rfl,hx,T.cl_Between,T.n_Between_high,rfl,qj (Nat.le_of_ble_eq_true rfl),fun l fl=>kk l fl⟩
   | @read dx _ _ _ hx =>
     rw[qbq]at kk;refine⟨_,rfl,_,_,_,_,rfl,T.io_Read.ty hx,qam T,false,rfl,Zq ⟨_,rfl,_,_,_,_,rfl,T.io_Read.ty hx,QX T,true,rfl,Q6 ?_⟩⟩;exact⟨_,rfl,x,_,dx,_,_,rfl,hx,T.cl_Read,T.n_Read_low,rfl,qj (Nat.le_of_ble_eq_true rfl),fun l fl=>kk l fl⟩
end
theorem qhN (pl:Str) (lo hi:Int):Txt.join " " ["any"]=fT "any" pl lo hi:=by
 rw[qfM,qfS]
theorem qec (pl:Str) (lo hi:Int):Txt.join " " ["within",ckT lo,ckT hi]=fT "within" pl lo hi:=by
 rw[qfL,qbx];rw[show (Str.ofString "within"++Str.ofString " ":Str)=Str.ofString "within " from by decide +kernel]
theorem qiK (pl:Str) (lo hi:Int):Txt.join " " ["at",ckT lo]=fT "at" pl lo hi:=by
 rw[qhI,qhP];rw[show (Str.ofString "at"++Str.ofString " ":Str)=Str.ofString "at " from by decide +kernel]
theorem qcY (pl:Str) (lo hi:Int):Txt.join " " ["between",pl,ckT lo,ckT hi]=fT "between" pl lo hi:=by
 rw[qhH,qar];rw[show (Str.ofString "between"++Str.ofString " ":Str)=Str.ofString "between " from by decide +kernel]
theorem qgI (pl:Str) (lo hi:Int):Txt.join " " ["read",pl,ckT lo]=fT "read" pl lo hi:=by
 rw[qfL,qed];rw[show (Str.ofString "read"++Str.ofString " ":Str)=Str.ofString "read " from by decide +kernel]
section
variable {P:Program}{w:World}{K:Frag}{mg:Str->Option Value}{base:Heap}
theorem qaK {a:Ad} (T:Txt K mg a):qB P w K mg base CX0 3 a.f_Q a.fd_Q ["entry"] (ZB a):=by
 have G_I:=qaO (P:=P) (w:=w) (base:=base) T;have G_P:=qaL (P:=P) (w:=w) (base:=base) T;have G_o:=Jp (P:=P) (w:=w) (base:=base) T;have G_E:=je (P:=P) (w:=w) (base:=base) T;have G_n:=ZX (P:=P) (w:=w) (base:=base) T;have G_p:=Zl (P:=P) (w:=w) (base:=base) T;have G_q:=qai (P:=P) (w:=w) (base:=base) T;have G_s:=QR (P:=P) (w:=w) (base:=base) T;have G_t:=jG (P:=P) (w:=w) (base:=base) T;refine T.d_Q.F.ok sc_plain_form (fun vs H Q E h=>?_) (fun cdv A outer s H vs Q E hr h=>?_)
 · obtain⟨x,wd,nm,pl,lo,hi,rfl,en,bd,kk⟩:=h;rfl
 · obtain⟨x,wd,nm,pl,lo,hi,rfl,en,bd,kk⟩:=h;have h_I:Room (2) _:=hr.mono (by decide);have h_P:Room (1) _:=hr.mono (by decide);have h_o:Room (1) _:=hr.mono (by decide);have h_E:Room (1) _:=hr.mono (by decide);have h_n:Room (1) _:=hr.mono (by decide);have h_p:Room (1) _:=hr.mono (by decide);have h_q:Room (1) _:=hr.mono (by decide);have h_s:Room (1) _:=hr.mono (by decide);have h_t:Room (1) _:=hr.mono (by decide)
   refine⟨_,(qc (qgo (i:=1) sc_plain_form.nd rfl (Or.inl rfl) rfl (CompOk.def ["number"] [none]) (QQ (qq G_P h_P rfl T.d_P.m T.d_P.k T.d_P.b .nil qv (qa (pv 0) qb))) (fun _ _ _ _ _=>(qE (i:=0) (show List.Nodup (["number"]:List Str) by decide +kernel) rfl (Or.inl rfl))) (fun _ _ _ _ _=>jb) (fun _ _ _ _ _=>(qq G_I h_I rfl T.d_I.m T.d_I.k T.d_I.b .nil qv (qa (pv 0) qb))))
     (qf (qu (Jk PySem.F.plainAttrs_str PySem.F.slot_str_join PySem.F.type_str_join qaR qt (qa (qm zk (qm zk (qZ (qa (PE.or (qO (pv 0) T.cl_Entry T.d_n.mt G_n h_n T.d_n.b .nil qv) (PE.or (qO (pv 0) T.cl_Within T.d_p.mt G_p h_p T.d_p.b .nil qv) (PE.or (qO (pv 0) T.cl_At T.d_q.mt G_q h_q T.d_q.b .nil qv) (PE.or (qO (pv 0) T.cl_Between T.d_s.mt G_s h_s T.d_s.b .nil qv) (qO (pv 0) T.cl_Read T.d_t.mt G_t h_t T.d_t.b .nil qv))))) qb)) (PE.or (qO (pv 0) T.cl_Entry T.d_o.mt G_o h_o T.d_o.b .nil qv) (PE.or (qO (pv 0) T.cl_Within T.i_Within_places G_o h_o T.d_o.b .nil qv) (PE.or (qO (pv 0) T.cl_At T.i_At_places G_o h_o T.d_o.b .nil qv) (PE.or (qO (pv 0) T.cl_Between T.d_E.mt G_E h_E T.d_E.b .nil qv) (qO (pv 0) T.cl_Read T.i_Read_places G_E h_E T.d_E.b .nil qv)))))) (pv 1)) qb))))),?_⟩
   try dsimp only [zc,Cx.nox]
   refine⟨_,rfl,x,wd,nm,pl,lo,hi,rfl,en,fun q fq=>?_⟩;generalize hG:upd H q _=H1;obtain⟨S1,e1⟩:=qo hG fq;clear hG
   have sm:∀ n∈qbL wd lo hi,Sm n:=fun n m=>by
     unfold qbL at m;split at m
     · cases m
     split at m
     · rcases List.mem_cons.mp m with rfl|m
       · exact bd.sl
       · rw[List.mem_singleton.mp m];exact bd.sh
     · rw[List.mem_singleton.mp m];exact bd.sl
   have few:(qbL wd lo hi).length≤2:=by
     unfold qbL;split
     · exact Nat.zero_le _
     split
     · exact Nat.le_refl _
     · exact Nat.le_of_ble_eq_true rfl
   refine⟨q,rfl,⟨_,SqL.of e1⟩,fun D fD=>?_⟩;refine Q1 (K:=K) (a:=q) (xs:=(qbL wd lo hi).map V.int) (D:=D) (fun i σ H2=>∃ c0:Option V,σ=[c0]∧Same H1 H2∧H2 D=some (.lst ((((qbL wd lo hi).take i).map ckT).map V.str))) ⟨none,rfl,Same.new _ fD,by rw[qe];rfl⟩ (fun i σ H2 _ ⟨_,_,S,_⟩=>SqL.of (S _ _ e1)) ?_ ?_
   · rintro i z σ H2 hz ⟨c0,rfl,S2,hD⟩;obtain⟨n,hn,rfl⟩:=Jt hz;refine⟨_,rfl,n,rfl,sm n (List.mem_of_getElem? hn),fun y ey=>⟨_,hD,qj ?_,_,rfl,S2.put fD _,?_⟩⟩
     · rw[List.length_map,List.length_map,List.length_take];omega
     · rw[qe,qhv ey,List.take_add_one,hn];simp
   rintro σ H2 ⟨c0,rfl,S2,hD⟩;have S:=S1.trans S2;rw[List.length_map,List.take_length]at hD;(try unfold qy);(try dsimp only)
   cases en with
   | @any dx nm hx =>
     rw[qcq]at hD;have hx2:=S _ _ hx;refine⟨rfl,?_⟩;refine Or.inl ⟨_,rfl,x,dx,_,rfl,hx2,rfl,_,rfl,qj (Nat.le_of_ble_eq_true rfl),fun k0 fk0=>?_⟩;generalize hG:upd H2 k0 _=A1;obtain⟨s1,e1⟩:=qo hG fk0;clear hG;refine Or.inl ⟨_,rfl,x,dx,_,rfl,s1 _ _ hx2,rfl,_,rfl,fun k1 fk1=>?_⟩;generalize hG:upd A1 k1 _=A2;obtain⟨s2,e2⟩:=qo hG fk1;clear hG;refine .inr (.inl ⟨k0,k1,_,_,rfl,rfl,s2 _ _ e1,e2,qj (Nat.le_of_ble_eq_true rfl),fun k2 fk2=>?_⟩);generalize hG:upd A2 k2 _=A3;obtain⟨s3,e3⟩:=qo hG fk2;clear hG;refine⟨_,rfl,.inr (.inl ⟨k2,D,_,_,rfl,rfl,e3,(s1.trans (s2.trans s3)) _ _ hD,qj (Nat.le_of_ble_eq_true rfl),fun k3 fk3=>?_⟩)⟩;generalize hG:upd A3 k3 _=A4;obtain⟨s4,e4⟩:=qo hG fk3;clear hG;refine⟨_,k3,["any"],rfl,rfl,SqL.of e4,?_,?_⟩
     · have h1:=q9 bd.sl;have h2:=q9 bd.sh;have h3:=bd.p;simp only[List.map_cons,List.map_nil,List.sum_cons,List.sum_nil,List.length_cons,List.length_nil];have e6:(Str.ofString " ").length=1:=rfl;have e7:(Str.ofString "any").length=3:=rfl;omega
     · rw[qhN "" 0 1000000000];exact kk _ (S.trans (s1.trans (s2.trans (s3.trans s4))))
   | @within dx nm lo hi hx =>
     rw[Jq]at hD;have hx2:=S _ _ hx;refine⟨rfl,?_⟩;refine Or.inr <| Or.inl ⟨_,rfl,x,dx,_,rfl,hx2,rfl,_,rfl,qj (Nat.le_of_ble_eq_true rfl),fun k0 fk0=>?_⟩;generalize hG:upd H2 k0 _=A1;obtain⟨s1,e1⟩:=qo hG fk0;clear hG;refine Or.inr <| Or.inl ⟨_,rfl,x,dx,_,rfl,s1 _ _ hx2,rfl,_,rfl,fun k1 fk1=>?_⟩;generalize hG:upd A1 k1 _=A2;obtain⟨s2,e2⟩:=qo hG fk1;clear hG;refine .inr (.inl ⟨k0,k1,_,_,rfl,rfl,s2 _ _ e1,e2,qj (Nat.le_of_ble_eq_true rfl),fun k2 fk2=>?_⟩);generalize hG:upd A2 k2 _=A3;obtain⟨s3,e3⟩:=qo hG fk2;clear hG;refine⟨_,rfl,.inr (.inl ⟨k2,D,_,_,rfl,rfl,e3,(s1.trans (s2.trans s3)) _ _ hD,qj (Nat.le_of_ble_eq_true rfl),fun k3 fk3=>?_⟩)⟩;generalize hG:upd A3 k3 _=A4;obtain⟨s4,e4⟩:=qo hG fk3;clear hG;refine⟨_,k3,["within",ckT lo,ckT hi],rfl,rfl,SqL.of e4,?_,?_⟩
     · have h1:=q9 bd.sl;have h2:=q9 bd.sh;have h3:=bd.p;simp only[List.map_cons,List.map_nil,List.sum_cons,List.sum_nil,List.length_cons,List.length_nil];have e6:(Str.ofString " ").length=1:=rfl;have e7:(Str.ofString "within").length=6:=rfl;omega
     · rw[qec "" lo hi];exact kk _ (S.trans (s1.trans (s2.trans (s3.trans s4))))
   | @at_ dx nm lo hx =>
     rw[qdR]at hD;have hx2:=S _ _ hx;refine⟨rfl,?_⟩;refine Or.inr <| Or.inr <| Or.inl ⟨_,rfl,x,dx,_,rfl,hx2,rfl,_,rfl,qj (Nat.le_of_ble_eq_true rfl),fun k0 fk0=>?_⟩;generalize hG:upd H2 k0 _=A1;obtain⟨s1,e1⟩:=qo hG fk0;clear hG;refine Or.inr <| Or.inr <| Or.inl ⟨_,rfl,x,dx,_,rfl,s1 _ _ hx2,rfl,_,rfl,fun k1 fk1=>?_⟩;generalize hG:upd A1 k1 _=A2;obtain⟨s2,e2⟩:=qo hG fk1;clear hG;refine .inr (.inl ⟨k0,k1,_,_,rfl,rfl,s2 _ _ e1,e2,qj (Nat.le_of_ble_eq_true rfl),fun k2 fk2=>?_⟩);generalize hG:upd A2 k2 _=A3;obtain⟨s3,e3⟩:=qo hG fk2;clear hG;refine⟨_,rfl,.inr (.inl ⟨k2,D,_,_,rfl,rfl,e3,(s1.trans (s2.trans s3)) _ _ hD,qj (Nat.le_of_ble_eq_true rfl),fun k3 fk3=>?_⟩)⟩;generalize hG:upd A3 k3 _=A4;obtain⟨s4,e4⟩:=qo hG fk3;clear hG;refine⟨_,k3,["at",ckT lo],rfl,rfl,SqL.of e4,?_,?_⟩
     · have h1:=q9 bd.sl;have h2:=q9 bd.sh;have h3:=bd.p;simp only[List.map_cons,List.map_nil,List.sum_cons,List.sum_nil,List.length_cons,List.length_nil];have e6:(Str.ofString " ").length=1:=rfl;have e7:(Str.ofString "at").length=2:=rfl;omega
     · rw[qiK "" lo lo];exact kk _ (S.trans (s1.trans (s2.trans (s3.trans s4))))
   | @between dx nm pl lo hi hx =>
     rw[jI]at hD;have hx2:=S _ _ hx;refine⟨rfl,?_⟩;refine Or.inr <| Or.inr <| Or.inr <| Or.inl ⟨_,rfl,x,dx,_,rfl,hx2,rfl,_,rfl,qj (Nat.le_of_ble_eq_true rfl),fun k0 fk0=>?_⟩;generalize hG:upd H2 k0 _=A1;obtain⟨s1,e1⟩:=qo hG fk0;clear hG;refine Or.inr <| Or.inr <| Or.inr <| Or.inl ⟨_,rfl,x,dx,_,rfl,s1 _ _ hx2,rfl,x,_,dx,nm,pl,lo,_,rfl,s1 _ _ hx2,T.cl_Between,T.n_Between_place,fun k1 fk1=>?_⟩;generalize hG:upd A1 k1 _=A2;obtain⟨s2,e2⟩:=qo hG fk1;clear hG;refine .inr (.inl ⟨k0,k1,_,_,rfl,rfl,s2 _ _ e1,e2,qj (Nat.le_of_ble_eq_true rfl),fun k2 fk2=>?_⟩);generalize hG:upd A2 k2 _=A3;obtain⟨s3,e3⟩:=qo hG fk2;clear hG;refine⟨_,rfl,.inr (.inl ⟨k2,D,_,_,rfl,rfl,e3,(s1.trans (s2.trans s3)) _ _ hD,qj (Nat.le_of_ble_eq_true rfl),fun k3 fk3=>?_⟩)⟩;generalize hG:upd A3 k3 _=A4;obtain⟨s4,e4⟩:=qo hG fk3;clear hG;refine⟨_,k3,["between",pl,ckT lo,ckT hi],rfl,rfl,SqL.of e4,?_,?_⟩
     · have h1:=q9 bd.sl;have h2:=q9 bd.sh;have h3:=bd.p;simp only[List.map_cons,List.map_nil,List.sum_cons,List.sum_nil,List.length_cons,List.length_nil];have e6:(Str.ofString " ").length=1:=rfl;have e7:(Str.ofString "between").length=7:=rfl;omega
     · rw[qcY pl lo hi];exact kk _ (S.trans (s1.trans (s2.trans (s3.trans s4))))
   | @read dx nm pl lo hx =>
     rw[qbq]at hD;have hx2:=S _ _ hx;refine⟨rfl,?_⟩;refine Or.inr <| Or.inr <| Or.inr <| Or.inr <| ⟨_,rfl,x,dx,_,rfl,hx2,rfl,_,rfl,qj (Nat.le_of_ble_eq_true rfl),fun k0 fk0=>?_⟩;generalize hG:upd H2 k0 _=A1;obtain⟨s1,e1⟩:=qo hG fk0;clear hG;refine Or.inr <| Or.inr <| Or.inr <| Or.inr <| ⟨_,rfl,x,dx,_,rfl,s1 _ _ hx2,rfl,x,_,dx,nm,pl,lo,_,rfl,s1 _ _ hx2,T.cl_Read,T.n_Read_place,fun k1 fk1=>?_⟩;generalize hG:upd A1 k1 _=A2;obtain⟨s2,e2⟩:=qo hG fk1;clear hG;refine .inr (.inl ⟨k0,k1,_,_,rfl,rfl,s2 _ _ e1,e2,qj (Nat.le_of_ble_eq_true rfl),fun k2 fk2=>?_⟩);generalize hG:upd A2 k2 _=A3;obtain⟨s3,e3⟩:=qo hG fk2;clear hG;refine⟨_,rfl,.inr (.inl ⟨k2,D,_,_,rfl,rfl,e3,(s1.trans (s2.trans s3)) _ _ hD,qj (Nat.le_of_ble_eq_true rfl),fun k3 fk3=>?_⟩)⟩;generalize hG:upd A3 k3 _=A4;obtain⟨s4,e4⟩:=qo hG fk3;clear hG;refine⟨_,k3,["read",pl,ckT lo],rfl,rfl,SqL.of e4,?_,?_⟩
     · have h1:=q9 bd.sl;have h2:=q9 bd.sh;have h3:=bd.p;simp only[List.map_cons,List.map_nil,List.sum_cons,List.sum_nil,List.length_cons,List.length_nil];have e6:(Str.ofString " ").length=1:=rfl;have e7:(Str.ofString "read").length=4:=rfl;omega
     · rw[qgI pl lo lo];exact kk _ (S.trans (s1.trans (s2.trans (s3.trans s4))))
end
structure Ent where
 x:Addr
 wd:Str
 nm:Str
 pl:Str
 lo:Int
 hi:Int
abbrev EnE (a:Ad) (H:Hp) (e:Ent):Prop:=En a H e.x e.wd e.nm e.pl e.lo e.hi
abbrev BdE (e:Ent):Prop:=Bd e.pl e.lo e.hi
abbrev fE (e:Ent):Str:=fT e.wd e.pl e.lo e.hi
inductive Pn (a:Ad) (H:Hp) (x:Addr):Str->Bool->Prop
 | en {wd nm pl:Str}{lo hi:Int}:En a H x wd nm pl lo hi->Pn a H x nm false
 | sf {nm:Str}:Sfd a H x nm->Pn a H x nm true
theorem Pn.mp {a:Ad}{H H':Hp}{x:Addr}{nm:Str}{b:Bool} (h:Pn a H x nm b) (k:∀ C d fs,H x=some (.ins C d fs)->fs≠[]->H' x=some (.ins C d fs)):Pn a H' x nm b:=by
 cases h with
 | en h=>exact .en (h.mp k)
 | sf h=>obtain⟨dx,p,f,hx⟩:=h;exact .sf ⟨dx,p,f,k _ _ _ hx (by simp)⟩
theorem Pn.same {a:Ad}{H H':Hp}{x:Addr}{nm:Str}{b:Bool} (h:Pn a H x nm b) (s:Same H H'):Pn a H' x nm b:=h.mp fun _ _ _ e _=>s _ _ e
theorem Pn.pt {a:Ad}{H:Hp}{x:Addr}{nm:Str}{b:Bool} (h:Pn a H x nm b):Pt a H x:=by
 cases h with
 | en h=>exact .en h
 | sf h=>exact .sf h
inductive PnF (K:Frag) (a:Ad) (H:Hp) (x:Addr) (nm:Str) (b:Bool):Prop
 | mk (C dx:Addr) (fs:List (Str×V)) (hx:H x=some (.ins C dx fs)) (ty:qa0 K H (.ref x) (.ref C)) (j:kitOne K (.ref C) (.ref a.c_Joint)=some false) (s:kitOne K (.ref C) (.ref a.c_Sifted)=some b) (e:kitOne K (.ref C) (.ref a.c_Entry)=some true) (cl:Cls K C) (na:NoAttr K C "name") (lk:fs.lookup ("name":Str)=some (.str nm)):PnF K a H x nm b
theorem qiv {K:Frag}{mg:Str->Option Value}{a:Ad} (T:Txt K mg a) {H:Hp}{x:Addr}{nm:Str}{b:Bool} (h:Pn a H x nm b):PnF K a H x nm b:=by
 cases h with
 | en h =>
   cases h with
   | @any dx _ hx=>exact⟨_,_,_,hx,T.io_Entry.ty hx,z0 T,QZ T,z4 T,T.cl_Entry,T.n_Entry_name,rfl⟩
   | @within dx _ _ _ hx=>exact⟨_,_,_,hx,T.io_Within.ty hx,zK T,Qv T,zL T,T.cl_Within,T.n_Within_name,rfl⟩
   | @at_ dx _ _ hx=>exact⟨_,_,_,hx,T.io_At.ty hx,Zw T,jL T,Zx T,T.cl_At,T.n_At_name,rfl⟩
   | @between dx _ _ _ _ hx=>exact⟨_,_,_,hx,T.io_Between.ty hx,zt T,Qe T,zu T,T.cl_Between,T.n_Between_name,rfl⟩
   | @read dx _ _ _ hx=>exact⟨_,_,_,hx,T.io_Read.ty hx,Qk T,Zo T,Ql T,T.cl_Read,T.n_Read_name,rfl⟩
 | sf h =>
   obtain⟨dx,p,f,hx⟩:=h;exact⟨_,_,_,hx,T.io_Sifted.ty hx,QV T,jU T,QW T,T.cl_Sifted,T.n_Sifted_name,rfl⟩
inductive Th (a:Ad) (H:Hp) (x:Addr):Str->Bool->List Addr->Prop
 | one {nm:Str}{b:Bool}:Pn a H x nm b->Th a H x nm false [x]
 | jn {nm:Str}{dx l:Addr}{xs:List Addr}:H x=some (.ins a.c_Joint dx (fsJ nm l))->H l=some (.lst (rfs xs))->Th a H x nm true xs
theorem Th.same {a:Ad}{H H':Hp}{x:Addr}{nm:Str}{j:Bool}{xs:List Addr} (h:Th a H x nm j xs) (s:Same H H'):Th a H' x nm j xs:=by
 cases h with
 | one h=>exact .one (h.same s)
 | jn h1 h2=>exact .jn (s _ _ h1) (s _ _ h2)
inductive ThF (K:Frag) (a:Ad) (H:Hp) (x:Addr) (nm:Str) (j:Bool):Prop
 | mk (C dx:Addr) (fs:List (Str×V)) (hx:H x=some (.ins C dx fs)) (ty:qa0 K H (.ref x) (.ref C)) (k:kitOne K (.ref C) (.ref a.c_Joint)=some j) (cl:Cls K C) (na:NoAttr K C "name") (lk:fs.lookup ("name":Str)=some (.str nm)):ThF K a H x nm j
theorem qiS {K:Frag}{mg:Str->Option Value}{a:Ad} (T:Txt K mg a) {H:Hp}{x:Addr}{nm:Str}{j:Bool}{xs:List Addr} (h:Th a H x nm j xs):ThF K a H x nm j:=by
 cases h with
 | one h=>obtain⟨C,dx,fs,hx,ty,k,_,_,cl,na,lk⟩:=qiv T h;exact⟨C,dx,fs,hx,ty,k,cl,na,lk⟩
 | jn hx _=>exact⟨_,_,_,hx,T.io_Joint.ty hx,Zp T,T.cl_Joint,T.n_Joint_name,rfl⟩
def jT (j:Bool) (t:Str):Str:=if j=true then "joint "++t else t
def Pns (a:Ad) (H:Hp) (xs:List Addr) (bs:List Bool):Prop:=xs.length=bs.length∧∀ (i:Nat) (x:Addr) (b:Bool),xs[i]?=some x->bs[i]?=some b->∃ nm,Pn a H x nm b
theorem Pns.same {a:Ad}{H H':Hp}{xs:List Addr}{bs:List Bool} (h:Pns a H xs bs) (s:Same H H'):Pns a H' xs bs:=⟨h.1,fun i x b e1 e2=>let ⟨nm,q⟩:=h.2 i x b e1 e2;⟨nm,q.same s⟩⟩
def fJs (es:List Ent):Str:=Txt.join " & " (es.map fE)
inductive Za (a:Ad) (vs:List V) (H:Hp) (Q:VK) (E:XK):Prop
 | mk (x:Addr) (nm:Str) (j:Bool) (xs:List Addr) (h1:vs=[.ref x]) (h2:Th a H x nm j xs) (h3:xs.length≤8) (h4:((∃ es:List Ent,xs=es.map Ent.x∧(∀ e∈es,EnE a H e∧BdE e)∧∀ H',Same H H'->Q (.str (jT j (fJs es))) H')∨(∃ bs:List Bool,Pns a H xs bs∧bs.any id=true∧Rz a.c_Unwritten "name" (.str nm) H E))):Za a vs H Q E
def QD (a:Ad):Sp:=fun vs H Q E=>Za a vs H Q E
theorem qee {es:List Ent} (h:∀ e∈es,BdE e) (n:es.length≤8):(fJs es).length≤984∧((es.map fE).map (·.length)).sum+(es.map fE).length * (Str.ofString " & ").length≤16777216:=by
 have h1:∀ y∈es.map fE,y.length≤120:=fun y m=>by
   obtain⟨e,me,rfl⟩:=List.mem_map.mp m;exact qhO (h e me)
 have h2:=qg5 h1;have h3:=StrLaws.join_length_le (Str.ofString " & ") (es.map fE);have e3:(Str.ofString " & ").length=3:=rfl;rw[e3]at h3 ⊢;rw[List.length_map]at h2 h3 ⊢;unfold fJs;rw[jf];constructor<;>omega
theorem qhJ (t:Str):Str.empty++Str.ofString "joint "++t=jT true t:=by
 unfold jT;rw[if_pos rfl];apply qaw;simp only[qG];(try rfl)
theorem qhR {α:Type} (l:List α):(l.map fun _=>false).any id=false:=by
 induction l with
 | nil=>rfl
 | cons a l ih=>rw[List.map_cons,List.any_cons,ih];rfl
theorem qdE {a:Ad}{H:Hp}{es:List Ent} (h:∀ e∈es,EnE a H e∧BdE e):Pns a H (es.map Ent.x) (es.map fun _=>false):=by
 refine⟨by rw[List.length_map,List.length_map],fun i x b e1 e2=>?_⟩;rw[List.getElem?_map]at e1 e2;obtain⟨e,he,rfl⟩:=Option.map_eq_some_iff.mp e1;rw[he]at e2;cases e2;exact⟨_,.en (h e (List.mem_of_getElem? he)).1⟩
section
variable {P:Program}{w:World}{K:Frag}{mg:Str->Option Value}{base:Heap}
theorem jF {a:Ad} (T:Txt K mg a):qB P w K mg base (CX1 P w) 5 a.f_m a.fd_m ["entry"] (QD a):=by
 have G_i:=Zn (P:=P) (w:=w) (base:=base) T;have G_X:=jd (P:=P) (w:=w) (base:=base) T;have G_Q:=qaK (P:=P) (w:=w) (base:=base) T;refine T.d_m.F.okX sc_form_text (fun vs H Q E h=>?_) (fun cdv A outer s H vs Q E hr h=>?_)
 · obtain⟨x,nm,j,xs,rfl,th,n8,kk⟩:=h;rfl
 · obtain⟨x,nm,j,xs,rfl,th,n8,kk⟩:=h;have h_i:Room (1) _:=hr.mono (by decide);have h_X:Room (3+1) _:=hr.mono (by decide);have h_Q:Room (3) _:=hr.mono (by decide)
   refine⟨_,(qc (qA (i:=1) sc_form_text.nd rfl (Or.inl rfl) (qck (qM (qp (r:=qa1 K) qS (by rfl) T.n_isinstance qg (qa (pv 0) (qa (qH (v:=.ref a.c_Joint) rfl T.g_Joint rfl) qb)))) (qO (pv 0) T.cl_Joint T.d_i.mt G_i h_i T.d_i.b .nil qv) (qZ (qa (pv 0) qb))))
     (qc (qP (qM (qp (r:=qi8 K) (qen rfl) (by rfl) T.n_any qet (qa (jc rfl (CompOk.defX ["part"] [none]) (QQ (pv 1)) (fun _ _ _ _ _=>(qE (i:=0) (show List.Nodup (["part"]:List Str) by decide +kernel) rfl (Or.inl rfl))) (fun _ _ _ _ _=>jb) (fun _ _ _ _ _=>(qp (r:=qa1 K) qS (by rfl) T.n_isinstance qg (qa (pv 0) (qa (qH (v:=.ref a.c_Sifted) rfl T.g_Sifted rfl) qb))))) qb)))
       (qf (qeQ qdg rfl (qeU T.X_Unwritten G_X h_X rfl T.g_Unwritten T.d_X.b (qa (zG (pv 0) rfl) qb))))
       qw)
     (qc (qA (i:=2) sc_form_text.nd rfl (Or.inl rfl) (Jk PySem.F.plainAttrs_str PySem.F.slot_str_join PySem.F.type_str_join qaR qt (qa (jc rfl (CompOk.defX ["part"] [none]) (QQ (pv 1)) (fun _ _ _ _ _=>(qE (i:=0) (show List.Nodup (["part"]:List Str) by decide +kernel) rfl (Or.inl rfl))) (fun _ _ _ _ _=>jb) (fun _ _ _ _ _=>(qq G_Q h_Q rfl T.d_Q.m T.d_Q.k T.d_Q.b .nil qv (qa (pv 0) qb)))) qb)))
     (qf (qu (qck (qM (qp (r:=qa1 K) qS (by rfl) T.n_isinstance qg (qa (pv 0) (qa (qH (v:=.ref a.c_Joint) rfl T.g_Joint rfl) qb)))) (qbn (Zu qt (Zu (qcl (pv 2)) qfC))) (pv 2))))))),?_⟩
   try dsimp only [zc,Cx.nox]
   obtain⟨bs,pn,hbs⟩:∃ bs:List Bool,Pns a H xs bs∧((∃ es:List Ent,xs=es.map Ent.x∧(∀ e∈es,EnE a H e∧BdE e)∧bs.any id=false∧∀ H',Same H H'->Q (.str (jT j (fJs es))) H')∨(bs.any id=true∧Rz a.c_Unwritten "name" (.str nm) H E)):=by
     rcases kk with ⟨es,rfl,he,kk⟩|⟨bs,pn,ha,kz⟩
     · exact⟨_,qdE he,.inl ⟨es,rfl,he,qhR es,kk⟩⟩
     · exact⟨bs,pn,.inr ⟨ha,kz⟩⟩
   refine qY (t:=qg4 _ _) (fun σ' H'=>∃ q:Addr,σ'=[some (.ref x),some (.ref q),none]∧Same H H'∧H' q=some (.lst (rfs xs))) (fun N hN=>?_) ?_
   · cases th with
     | @one b h =>
       obtain⟨C,dx,fs,hx,ty,k,_,_,cl,na,lk⟩:=qiv T h;exact⟨_,rfl,_,_,_,_,rfl,ty,k,false,rfl,Zq ⟨_,rfl,qj (Nat.le_of_ble_eq_true rfl),fun q fq=>hN _ _ ⟨q,rfl,Same.new _ fq,qe⟩⟩⟩
     | @jn dx l' _ hx hl =>
       exact⟨_,rfl,_,_,_,_,rfl,T.io_Joint.ty hx,Zp T,true,rfl,Q6 ⟨_,rfl,x,dx,_,rfl,hx,rfl,x,dx,l',nm,xs,rfl,hx,hl,fun q fq=>hN _ _ ⟨q,rfl,Same.new _ fq,qe⟩⟩⟩
   rintro σ H1 ⟨q,rfl,S1,hq⟩;refine⟨_,rfl,q,rfl,⟨_,SqL.of hq⟩,fun D fD=>?_⟩;refine Q1 (K:=K) (a:=q) (xs:=rfs xs) (D:=D) (fun i σ H2=>∃ c0:Option V,σ=[c0]∧Same H1 H2∧H2 D=some (.lst ((bs.take i).map V.bl))) ⟨none,rfl,Same.new _ fD,by rw[qe];rfl⟩ (fun i σ H2 _ ⟨_,_,S,_⟩=>SqL.of (S _ _ hq)) ?_ ?_
   · rintro i z σ H2 hz ⟨c0,rfl,S2,hD⟩;obtain⟨y,hy,rfl⟩:=Jt hz;have ib:i < bs.length:=by rw[← pn.1];exact(List.getElem?_eq_some_iff.mp hy).1
     obtain⟨nm',p⟩:=pn.2 i y bs[i] hy (List.getElem?_eq_getElem ib);obtain⟨C,dx,fs,hx,ty,_,k,_,cl,na,lk⟩:=qiv T (p.same (S1.trans S2));refine⟨_,rfl,_,_,_,_,rfl,ty,k,_,hD,qj ?_,_,rfl,S2.put fD _,?_⟩
     · rw[List.length_map,List.length_take];have:=pn.1;omega
     · rw[qe,List.take_add_one,List.getElem?_eq_getElem ib,List.map_append];rfl
   rintro σ H2 ⟨c0,rfl,S2,hD⟩;rw[List.length_map,pn.1,List.take_length]at hD;have S:=S1.trans S2;refine⟨D,bs,rfl,SqL.of hD,_,rfl,?_⟩;rcases hbs with ⟨es,rfl,he,an,kk⟩|⟨an,kz⟩
   case inr =>
     rw[an];refine Q6 ?_;obtain⟨C,dx,fs,hx,ty,k,cl,na,lk⟩:=qiS T (th.same S);refine⟨_,rfl,x,_,dx,_,_,rfl,hx,cl,na,lk,Nat.le_of_ble_eq_true rfl,fun ea fea=>⟨ea,_,rfl,qe,fun dx' fdx ne=>?_⟩⟩;rw[qi ne]at fdx;exact⟨rfl,ea,_,_,rfl,T.X_Unwritten.c.xi,(qi (Ne.symm ne)).trans qe,Rz.sure (kz.same S) fea fdx ne⟩
   rw[an];refine Zq ?_;(try unfold qy);(try dsimp only);refine⟨rfl,_,rfl,q,rfl,⟨_,SqL.of (S2 _ _ hq)⟩,fun D2 fD2=>?_⟩;refine Q1 (K:=K) (a:=q) (xs:=rfs (es.map Ent.x)) (D:=D2) (fun i σ H3=>∃ c0:Option V,σ=[c0]∧Same H2 H3∧H3 D2=some (.lst ((((es.take i).map fE)).map V.str))) ⟨none,rfl,Same.new _ fD2,by rw[qe];rfl⟩ (fun i σ H3 _ ⟨_,_,S3,_⟩=>SqL.of ((S2.trans S3) _ _ hq)) ?_ ?_
   · rintro i z σ H3 hz ⟨c0,rfl,S3,hD3⟩;obtain⟨y,hy,rfl⟩:=Jt hz;rw[List.getElem?_map]at hy;obtain⟨e,hei,rfl⟩:=Option.map_eq_some_iff.mp hy;obtain⟨h1,h2⟩:=he e (List.mem_of_getElem? hei);refine⟨_,rfl,e.x,e.wd,e.nm,e.pl,e.lo,e.hi,rfl,h1.mp (fun _ _ _ z _=>(S.trans S3) _ _ z),h2,fun H4 S4=>⟨_,S4 _ _ hD3,qj ?_,_,rfl,(S3.trans S4).put fD2 _,?_⟩⟩
     · rw[List.length_map,List.length_map,List.length_take];rw[List.length_map]at n8;omega
     · rw[qe,List.take_add_one,hei,List.map_append,List.map_append];rfl
   rintro σ H3 ⟨c0,rfl,S3,hD3⟩;have l1:(rfs (es.map Ent.x)).length=es.length:=by rw[List.length_map,List.length_map]
   rw[l1,List.take_length]at hD3;rw[List.length_map]at n8;obtain⟨f1,f2⟩:=qee (fun e m=>(he e m).2) n8;refine⟨_,D2,es.map fE,rfl,rfl,SqL.of hD3,f2,?_⟩;have S5:=S.trans S3;obtain⟨C,dx,fs,hx,ty,k,cl,na,lk⟩:=qiS T (th.same S5);refine⟨_,rfl,_,_,_,_,rfl,ty,k,j,rfl,?_⟩;have kk:=kk H3 S5
   cases j with
   | false=>exact Zq ⟨_,rfl,kk⟩
   | true =>
     refine Q6 ⟨_,rfl,Z4 (n:=0) (m:=6) (by decide) (by decide) (by decide),_,rfl,.inr ⟨_,rfl,Nat.le_of_lt (qR (by show (fJs es).length≤1000;omega)),_,rfl,?_,?_,?_⟩⟩
     · exact Z4 (qx (n:=0) (m:=6) (by decide) (by decide)) f1 (by decide)
     · exact Nat.le_trans (qx (qx (n:=0) (m:=6) (by decide) (by decide)) f1) (Nat.le_of_lt (qR (by decide)))
     · rw[← qhJ]at kk;exact kk
end
theorem qi9:∀ n:Nat,n < 60->(if (Str.ofString (toString (n:Int))).length < 2 then Str.ofString "0"++Str.ofString (toString (n:Int)) else Str.ofString (toString (n:Int))).cps.toList=qc3 n:=by decide +kernel
theorem qco:∀ n:Nat,n < 60->(Str.ofString (toString (n:Int))).length≤2:=by decide +kernel
inductive j5 (vs:List V) (H:Hp) (Q:VK):Prop
 | mk (n:Int) (h1:vs=[.int n]) (h2:Sm n) (h3:Q (.str (ckT n)) H):j5 vs H Q
def qa9:Sp:=fun vs H Q _=>j5 vs H Q
inductive j1 (vs:List V) (H:Hp) (Q:VK):Prop
 | mk (i:Int) (h1:vs=[.int i]) (h2:Q (.bl true) H):j1 vs H Q
def qa4:Sp:=fun vs H Q _=>j1 vs H Q
inductive qcb (a:Ad) (vs:List V) (H:Hp) (Q:VK):Prop
 | mk (x:Addr) (nm:Str) (j:Bool) (es:List Ent) (t:Str) (h1:vs=[.ref x,.str t]) (h2:Th a H x nm j (es.map Ent.x)) (h3:es.length≤8) (h4:(∀ e∈es,EnE a H e∧BdE e)) (h5:t=jT j (fJs es)) (h6:∀ H',Same H H'->Q (.bl true) H'):qcb a vs H Q
def qdp (a:Ad):Sp:=fun vs H Q _=>qcb a vs H Q
inductive ZJ (a:Ad) (vs:List V) (H:Hp) (Q:VK):Prop
 | mk (x:Addr) (nm:Str) (j:Bool) (xs:List Addr) (bs:List Bool) (h1:vs=[.ref x,.str nm]) (h2:Th a H x nm j xs) (h3:xs.length≤8) (h4:Pns a H xs bs) (h5:bs.any id=true) (h6:∀ H',Same H H'->Q (.bl true) H'):ZJ a vs H Q
def Zt (a:Ad):Sp:=fun vs H Q _=>ZJ a vs H Q
section
variable {P:Program}{w:World}{K:Frag}{mg:Str->Option Value}{base:Heap}
theorem qdO {a:Ad} (T:Txt K mg a):qB P w K mg base CX0 1 a.f_c a.fd_c ["_law_number"] qa9:=by
 refine T.d_c.F.ok sc_Lclock (fun vs H Q E h=>?_) (fun cdv A outer s H vs Q E hr h=>?_)
 · obtain⟨n,rfl,sn,kk⟩:=h;rfl
 · obtain⟨n,rfl,sn,kk⟩:=h;have hU:=hr.units
   refine⟨_,(qc (qA (i:=1) sc_Lclock.nd rfl (Or.inl rfl) (qm zb (pv 0) qd))
     (qc (qA (i:=2) sc_Lclock.nd rfl (Or.inl rfl) (zH zT (by rfl) T.n_str zN (qa (qm qaJ (pv 1) qd) qb)))
     (qc (qA (i:=3) sc_Lclock.nd rfl (Or.inl rfl) (zH zT (by rfl) T.n_str zN (qa (qm zb (pv 1) qd) qb)))
     (qc (qP (qD qcN (qp zd (by rfl) T.n_len qW (qa (pv 2) qb)) qd (qF _))
       (qf (qA (i:=2) sc_Lclock.nd rfl (Or.inl rfl) (qm zk qt (pv 2))))
       qw)
     (qc (qP (qD qcN (qp zd (by rfl) T.n_len qW (qa (pv 3) qb)) qd (qF _))
       (qf (qA (i:=3) sc_Lclock.nd rfl (Or.inl rfl) (qm zk qt (pv 3))))
       qw)
     (qf (qu (qm zk (qm zk (qm zk (qm zk (zH zT (by rfl) T.n_str zN (qa (qm qaJ (pv 0) qd) qb)) qt) (pv 2)) qt) (pv 3))))))))),?_⟩
   try dsimp only [zc,Cx.nox]
   obtain⟨n0,n1⟩:=id sn;refine⟨_,rfl,_,_,rfl,rfl,(by show (0:Int) < 1440;decide),?_⟩;generalize er:n % 1440=r;have r0:0≤r:=by omega
   have r1:r < 1440:=by omega
   try unfold qy
   try dsimp only
   refine⟨_,rfl,_,_,rfl,rfl,⟨by decide,by decide⟩,_,rfl,Sm.log ⟨by omega,by omega⟩,?_⟩;obtain⟨h,eh,h24⟩:∃ h:Nat,r / 60=(h:Int)∧h < 24:=⟨(r / 60).toNat,by omega,by omega⟩
   rw[eh];(try unfold qy);(try dsimp only);refine⟨_,rfl,_,_,rfl,rfl,(by show (0:Int) < 60;decide),_,rfl,Sm.log ⟨by omega,by omega⟩,?_⟩;obtain⟨m,em,m60⟩:∃ m:Nat,r % 60=(m:Int)∧m < 60:=⟨(r % 60).toNat,by omega,by omega⟩
   rw[em];(try unfold qy);(try dsimp only);refine qY (t:=qeI _ _ _) (fun σ' H'=>∃ hx:Str,σ'=[some (.int n),some (.int r),some (.str hx),some (.str (Str.ofString (toString (m:Int))))]∧H'=H∧hx.cps.toList=qc3 h) (fun N hN=>?_) ?_
   · have ll:=qco h (by omega);have pp:=qi9 h (by omega);refine⟨_,rfl,_,_,rfl,⟨qj (by omega),rfl⟩,_,_,rfl,rfl,_,rfl,Zz (fun g=>?_) (fun g=>?_)⟩
     · rw[if_pos (by omega)]at pp;refine⟨_,rfl,.inr (.inr ⟨_,_,rfl,rfl,Z4 (n:=1) (m:=2) (by decide) ll (by decide),?_⟩)⟩;exact hN _ _ ⟨_,rfl,rfl,pp⟩
     · rw[if_neg (by omega)]at pp;exact hN _ _ ⟨_,rfl,rfl,pp⟩
   rintro _ H2_ ⟨hx,rfl,eH_,ehx⟩;rw[eH_];clear eH_ H2_;have lhx:hx.length≤2:=by rw[← zi,ehx];exact Nat.le_refl _
   try unfold qy
   try dsimp only
   refine qY (t:=qeI _ _ _) (fun σ' H'=>∃ mx:Str,σ'=[some (.int n),some (.int r),some (.str hx),some (.str mx)]∧H'=H∧mx.cps.toList=qc3 m) (fun N hN=>?_) ?_
   · have ll:=qco m (by omega);have pp:=qi9 m (by omega);refine⟨_,rfl,_,_,rfl,⟨qj (by omega),rfl⟩,_,_,rfl,rfl,_,rfl,Zz (fun g=>?_) (fun g=>?_)⟩
     · rw[if_pos (by omega)]at pp;refine⟨_,rfl,.inr (.inr ⟨_,_,rfl,rfl,Z4 (n:=1) (m:=2) (by decide) ll (by decide),?_⟩)⟩;exact hN _ _ ⟨_,rfl,rfl,pp⟩
     · rw[if_neg (by omega)]at pp;exact hN _ _ ⟨_,rfl,rfl,pp⟩
   rintro _ H2_ ⟨mx,rfl,eH_,emx⟩;rw[eH_];clear eH_ H2_;have lmx:mx.length≤2:=by rw[← zi,emx];exact Nat.le_refl _
   try unfold qy
   try dsimp only
   have l1:(Str.ofString (toString (n / 1440))).length≤31:=Sm.len ⟨by omega,by omega⟩;refine⟨_,rfl,_,_,rfl,rfl,⟨by decide,by decide⟩,_,rfl,Sm.log ⟨by omega,by omega⟩,.inr (.inr ⟨_,_,rfl,rfl,Z4 l1 (show (Str.ofString ".").length≤1 by decide +kernel) (by decide),?_⟩)⟩;refine⟨_,rfl,.inr (.inr ⟨_,_,rfl,rfl,Z4 (qx l1 (show (Str.ofString ".").length≤1 by decide +kernel)) lhx (by decide),.inr (.inr ⟨_,_,rfl,rfl,Z4 (qx (qx l1 (show (Str.ofString ".").length≤1 by decide +kernel)) lhx) (show (Str.ofString ".").length≤1 by decide +kernel) (by decide),?_⟩)⟩)⟩;refine⟨_,rfl,.inr (.inr ⟨_,_,rfl,rfl,Z4 (qx (qx (qx l1 (show (Str.ofString ".").length≤1 by decide +kernel)) lhx) (show (Str.ofString ".").length≤1 by decide +kernel)) lmx (by decide),?_⟩)⟩
   have e:=qhv (x:=Str.ofString (toString (n / 1440))++Str.ofString "."++hx++Str.ofString "."++mx) (n:=n) (by
     rw[qG,qG,qG,qG,ehx,emx,qcC];unfold clL;have q1:(n % 1440 / 60).toNat=h:=by omega
     have q2:(n % 60).toNat=m:=by omega
     rw[q1,q2];show qfN (n / 1440)++[46]++qc3 h++[46]++qc3 m=_
     simp)
   rw[show Str.ofString (toString (n / 1440))++Str.ofString "."++hx++Str.ofString "."++mx=ckT n from e];exact kk
theorem qdJ {a:Ad} (T:Txt K mg a):qB P w K mg base CX0 1 a.f_A a.fd_A ["_law_found"] qa4:=by
 refine T.d_A.F.ok qdr (fun vs H Q E h=>?_) (fun cdv A outer s H vs Q E hr h=>?_)
 · obtain⟨i,rfl,kk⟩:=h;rfl
 · obtain⟨i,rfl,kk⟩:=h;refine⟨_,(qf (qu (zR (qp zn (by rfl) T.n_isinstance qg (qa (pv 0) (qa (zX (v:=.ty "int") rfl T.n_int qbC rfl) qb))) (Zj (qfE (qp zn (by rfl) T.n_isinstance qg (qa (pv 0) (qa (zX (v:=.ty "bool") rfl T.n_bool qau rfl) qb)))))))),?_⟩;(try dsimp only [zc,Cx.nox]);refine⟨_,rfl,_,_,_,rfl,(by decide),rfl,true,rfl,Q6 ?_⟩;exact⟨_,rfl,_,_,_,rfl,(by decide),rfl,false,rfl,kk⟩
theorem qfG {a:Ad} (T:Txt K mg a):qB P w K mg base CX0 6 a.f_a a.fd_a ["_law_entry","_law_due"] (qdp a):=by
 have G_m:=jF (P:=P) (w:=w) (base:=base) T;refine T.d_a.F.ok sc_Lis (fun vs H Q E h=>?_) (fun cdv A outer s H vs Q E hr h=>?_)
 · obtain⟨x,nm,j,es,t,rfl,th,n8,he,et,kk⟩:=h;rfl
 · obtain⟨x,nm,j,es,t,rfl,th,n8,he,et,kk⟩:=h;have hU:=hr.units;have h_m:Room (5) _:=hr.mono (by decide)
   refine⟨_,(qc (qA (i:=2) sc_Lis.nd rfl (Or.inl rfl) (qq G_m h_m rfl T.d_m.m T.d_m.k T.d_m.b .nil qiL (qa (pv 0) qb)))
     (qf (qu (zR (qp zn (by rfl) T.n_isinstance qg (qa (pv 2) (qa (zX (v:=.ty "str") rfl T.n_str zN rfl) qb))) (Zj (Qi (uEq hU) (pv 2) (pv 1) (qF _))))))),?_⟩
   try dsimp only [zc,Cx.nox]
   refine⟨_,rfl,x,nm,j,_,rfl,th,(by rw[List.length_map];exact n8),.inl ⟨es,rfl,he,fun H1 S1=>?_⟩⟩;(try unfold qy);(try dsimp only);refine⟨_,rfl,_,_,_,rfl,(by decide),rfl,true,rfl,Q6 ?_⟩;refine⟨_,rfl,_,rfl,.inl ⟨rfl,?_⟩⟩;rw[et,decide_eq_true rfl];exact kk H1 S1
theorem Jo {a:Ad} (T:Txt K mg a):qB P w K mg base CX0 6 a.f_g a.fd_g ["_law_entry","_law_name_here"] (Zt a):=by
 have G_m:=jF (P:=P) (w:=w) (base:=base) T;refine T.d_g.F.ok sc_Lrefused (fun vs H Q E h=>?_) (fun cdv A outer s H vs Q E hr h=>?_)
 · obtain⟨x,nm,j,xs,bs,rfl,th,n8,pn,an,kk⟩:=h;rfl
 · obtain⟨x,nm,j,xs,bs,rfl,th,n8,pn,an,kk⟩:=h;have hU:=hr.units;have h_m:Room (5) _:=hr.mono (by decide)
   refine⟨_,(qc (qhj (i:=2) rfl rfl (by exact(qgl (qeS G_m h_m rfl T.d_m.m T.d_m.k T.d_m.b (qa (pv 0) qb))))
       rfl T.g_Unwritten T.X_Unwritten.c.xi sc_Lrefused.nd rfl (Or.inl rfl) rfl (fun ea=>(by exact
       (qf (qu (zR (qp (r:=qi4 K) qfl (by rfl) T.n_isinstance qg (qa (pv 2) (qa (qH (v:=.ref a.c_LogError) rfl T.g_LogError rfl) qb))) (zR (qp zn (by rfl) T.n_isinstance qg (qa (show PE _ _ (qf8 K _ "name") from qdF (pv 2) rfl) (qa (zX (v:=.ty "str") rfl T.n_str zN rfl) qb))) (Zj (Qi (uEq hU) (show PE _ _ (qf8 K _ "name") from qdF (pv 2) rfl) (pv 1) (qF _))))))))))
     (qf (qu jQ))),?_⟩
   try dsimp only [zc,Cx.nox]
   refine⟨_,rfl,x,nm,j,xs,rfl,th,n8,.inr ⟨bs,pn,an,?_⟩⟩;intro ea dx H1 S1 fe fdx hd xa;refine⟨_,ea,rfl,rfl,T.X_Unwritten.c.xi,qh6 T.X_Unwritten.c.xi,?_⟩;refine⟨_,rfl,ea,_,dx,_,_,_,rfl,xa,hd,T.X_Unwritten.c,T.is_Unwritten_LogError,true,rfl,Q6 ?_⟩;refine⟨_,rfl,ea,_,dx,_,_,rfl,xa,hd,T.X_Unwritten.c,T.n_Unwritten_name,rfl,_,_,_,rfl,(by decide),rfl,true,rfl,Q6 ?_⟩;refine⟨_,rfl,ea,_,dx,_,_,rfl,xa,hd,T.X_Unwritten.c,T.n_Unwritten_name,rfl,_,rfl,.inl ⟨rfl,?_⟩⟩;rw[decide_eq_true rfl];exact kk H1 S1
end
theorem qfe {i:Nat}{v:V}{σ:L2.St}{H:Hp}{Q:L2.St->Hp->Prop} (h:Q (σ.set i (some v)) H):qd8 i v σ H Q:=h
theorem qgi {i:Nat}{v:V}{u:TS}{D:qc5}{σ:L2.St}{H:Hp} (h:u D (σ.set i (some v)) H):qid (qg4 (tC v) (qd8 i)) u D σ H:=h
def Dr (ms ds:List Int):Prop:=ds.length=ms.length∧∀ (i:Nat) (m d:Int),ms[i]?=some m->ds[i]?=some d->0≤d∧d < m
theorem jh {ms ds:List Int} (h:Dr ms ds) (i:Nat) {m:Int} (e:ms[i]?=some m) {k:Int} (hk:k=(i:Int)):∃ d,ds[i]?=some d∧atI (ds.map V.int) k=some (.int d)∧0≤d∧d < m:=by
 have lt:i < ds.length:=by rw[h.1];exact(List.getElem?_eq_some_iff.mp e).1
 have e2:ds[i]?=some ds[i]:=List.getElem?_eq_getElem lt;obtain⟨h1,h2⟩:=h.2 i m _ e e2;refine⟨_,e2,?_,h1,h2⟩;subst hk;unfold atI;rw[List.length_map,qd1 lt];show (ds.map V.int)[i]?=_;rw[List.getElem?_map,e2];rfl
theorem Dr.snoc {ms ds:List Int}{i:Nat}{m d:Int} (hm:ms[i]?=some m) (hd:0≤d∧d < m) (h:Dr (ms.take i) ds):Dr (ms.take (i+1)) (ds++[d]):=by
 have li:i < ms.length:=(List.getElem?_eq_some_iff.mp hm).1;have ld:ds.length=i:=by rw[h.1,List.length_take];omega
 refine⟨by rw[List.length_append,ld,List.length_take];simp;omega,fun j m' d' e1 e2=>?_⟩;rw[List.take_add_one,hm]at e1;by_cases lt:j < i
 · rw[List.getElem?_append_left (by rw[List.length_take];omega)]at e1;rw[List.getElem?_append_left (by omega)]at e2;exact h.2 j m' d' e1 e2
 · have jl:=(List.getElem?_eq_some_iff.mp e2).1;rw[List.length_append,ld]at jl
   have:j=i:=by simp at jl;omega
   subst this;rw[List.getElem?_append_right (by rw[List.length_take];omega)]at e1;rw[List.getElem?_append_right (by omega)]at e2;rw[List.length_take,Nat.min_eq_left (by omega),Nat.sub_self]at e1;rw[ld,Nat.sub_self]at e2;cases e1;cases e2;exact hd
def mm6:List Int:=[5,5,1000000001,1000000001,20000000001,20000000001]
inductive ZK (K:Frag) (vs:List V) (H:Hp) (Q:VK):Prop
 | mk (sa:Addr) (ns:List Int) (k:Int) (h1:vs=[.ref sa,.int k]) (h2:SqL K H sa (ns.map V.int)) (h3:0≤k) (h4:∀ c:Int,Q (.int c) H):ZK K vs H Q
def j6 (K:Frag):Sp:=fun vs H Q _=>ZK K vs H Q
def qa6:Sp:=fun vs H Q _=>vs=[]∧∀ l,H l=none->Q (.ref l) (upd H l (.lst (mm6.map V.int)))
inductive j4 (vs:List V) (H:Hp) (Q:VK):Prop
 | mk (c:Int) (l:Addr) (ms:List Int) (h1:vs=[.int c,.ref l]) (h2:H l=some (.lst (ms.map V.int))) (h3:ms.length≤100) (h4:(∀ m∈ms,0 < m∧m≤20000000001)) (h5:∀ (d:Addr) (ds:List Int) (H':Hp),H d=none->Same H H'->H' d=some (.lst (ds.map V.int))->Dr ms ds->Q (.ref d) H'):j4 vs H Q
def qa8:Sp:=fun vs H Q _=>j4 vs H Q
section
variable {P:Program}{w:World}{K:Frag}{mg:Str->Option Value}{base:Heap}
theorem qdL {a:Ad} (T:Txt K mg a):qB P w K mg base CX0 1 a.f_T a.fd_T [] qa6:=by
 refine T.d_T.F.ok qds (fun vs H Q E h=>?_) (fun cdv A outer s H vs Q E hr h=>?_)
 · obtain⟨rfl,kk⟩:=h;rfl
 · obtain⟨rfl,kk⟩:=h;refine⟨_,(qf (qu (qZ (qa qd (qa qd (qa (qm zk (qm zo qd qd) qd) (qa (qm zk (qm zo qd qd) qd) (qa (qm zk (qm zp qd (qm zo qd qd)) qd) (qa (qm zk (qm zp qd (qm zo qd qd)) qd) qb))))))))),?_⟩;(try dsimp only [zc,Cx.nox]);have E:∀ i j:Int,i=j->V.int i=V.int j:=fun _ _ e=>by rw[e]
   refine⟨_,_,rfl,rfl,⟨by decide,by decide,by decide⟩,.inl ⟨_,_,rfl,rfl,?_⟩⟩;refine⟨_,_,rfl,rfl,⟨by decide,by decide,by decide⟩,.inl ⟨_,_,rfl,rfl,?_⟩⟩;refine⟨_,_,rfl,rfl,⟨by decide,by decide,by decide⟩,_,_,rfl,rfl,.inl ⟨by decide,by decide⟩,.inl ⟨_,_,rfl,rfl,?_⟩⟩;refine⟨_,_,rfl,rfl,⟨by decide,by decide,by decide⟩,_,_,rfl,rfl,.inl ⟨by decide,by decide⟩,.inl ⟨_,_,rfl,rfl,?_⟩⟩;exact⟨qj (Nat.le_of_ble_eq_true rfl),fun l fl=>kk l fl⟩
theorem qbT {a:Ad} (T:Txt K mg a):qB P w K mg base CX0 1 a.f_R a.fd_R ["_law_script","_law_k"] (j6 K):=by
 refine T.d_R.F.ok qbQ (fun vs H Q E h=>?_) (fun cdv A outer s H vs Q E hr h=>?_)
 · obtain⟨sa,ns,k,rfl,hS,k0,kk⟩:=h;rfl
 · obtain⟨sa,ns,k,rfl,hS,k0,kk⟩:=h;have hU:=hr.units
   refine⟨_,(qc (qP (qD qcN (pv 1) (qp zd (by rfl) T.n_len qW (qa (pv 0) qb)) (qF _))
       (qf (qu (qL (r:=rIx K) qC (pv 0) (pv 1) (fun _ _=>rfl))))
       qw)
     (qf (qu qd))),?_⟩
   try dsimp only [zc,Cx.nox]
   refine⟨_,rfl,_,rfl,_,_,rfl,.inl ⟨_,hS,rfl⟩,_,_,rfl,rfl,_,rfl,?_⟩;refine Zz (fun g=>?_) (fun g=>kk _);rw[List.length_map]at g;obtain⟨v,hv,mv⟩:=qfY (xs:=ns.map V.int) k0 (by rw[List.length_map];omega);obtain⟨c,_,rfl⟩:=List.mem_map.mp mv;exact⟨_,rfl,_,rfl,.inl ⟨sa,_,_,_,rfl,rfl,hS,hv,kk c⟩⟩
theorem qdN {a:Ad} (T:Txt K mg a):qB P w K mg base CX0 1 a.f_S a.fd_S ["_law_cell","_law_menus_here"] qa8:=by
 refine T.d_S.F.ok sc_Ldraws (fun vs H Q E h=>?_) (fun cdv A outer s H vs Q E hr h=>?_)
 · obtain⟨c,l,ms,rfl,hl,few,hm,kk⟩:=h;rfl
 · obtain⟨c,l,ms,rfl,hl,few,hm,kk⟩:=h;have hU:=hr.units
   refine⟨_,(qc (qA (i:=2) sc_Ldraws.nd rfl (Or.inl rfl) (qZ qb))
     (qc (qA (i:=3) sc_Ldraws.nd rfl (Or.inl rfl) qd)
     (qc (qP (qD qhr (pv 0) (qm zo qd qd) (qF _))
       (qf (qA (i:=3) sc_Ldraws.nd rfl (Or.inl rfl) (pv 0)))
       qw)
     (qc (Jj PassesOwn.never rfl (ZU rfl T.n_range (qa (qp zd (by rfl) T.n_len qW (qa (pv 1) qb)) qb)) (qE (i:=4) (sc_Ldraws.nd) rfl (Or.inl rfl))
       (qf (qP (qD qgt (pv 3) qd (qF _))
         (qc (qN (Jk PySem.F.plainAttrs_list PySem.F.slot_list_append PySem.F.type_list_append zq (pv 2) (qa (qm zb (pv 3) (qL (r:=rIx K) qC (pv 1) (pv 4) (fun _ _=>rfl))) qb)))
         (qf (qA (i:=3) sc_Ldraws.nd rfl (Or.inl rfl) (qm qeX (pv 3) (qL (r:=rIx K) qC (pv 1) (pv 4) (fun _ _=>rfl))))))
         (qc (qA (i:=5) sc_Ldraws.nd rfl (Or.inl rfl) (qm zb (qm zp (qm zk (qm zk (pv 0) (qm zp qd (pv 4))) qd) qd) qd))
         (qc (qA (i:=5) sc_Ldraws.nd rfl (Or.inl rfl) (qm zb (qm zk (qm zk (qm zp (pv 5) (pv 5)) (qm zp qd (pv 5))) (pv 4)) qd))
         (qc (qA (i:=5) sc_Ldraws.nd rfl (Or.inl rfl) (qm zb (qm zk (qm zk (qm zp (pv 5) (pv 5)) (qm zp qd (pv 5))) (qm zp qd (pv 4))) qd))
         (qf (qN (Jk PySem.F.plainAttrs_list PySem.F.slot_list_append PySem.F.type_list_append zq (pv 2) (qa (qm zb (pv 5) (qL (r:=rIx K) qC (pv 1) (pv 4) (fun _ _=>rfl))) qb))))))))))
     (qf (qu (pv 2))))))),?_⟩
   try dsimp only [zc,Cx.nox]
   refine⟨Nat.zero_le _,fun q fq=>?_⟩;generalize hG:upd H q _=H1;obtain⟨S1,e1⟩:=qo hG fq;clear hG;(try unfold qy);(try dsimp only);refine qfe ?_;refine qgi ?_;refine qY (t:=qeI _ _ _) (fun σ' H'=>∃ left:Int,σ'=[some (.int c),some (.ref l),some (.ref q),some (.int left),none,none]∧H'=H1) (fun N hN=>?_) ?_
   · refine⟨_,rfl,_,_,rfl,rfl,⟨by decide,by decide,by decide⟩,_,_,rfl,rfl,_,rfl,Zz (fun g=>?_) (fun g=>?_)⟩
     · exact⟨_,rfl,hN _ _ ⟨c,rfl,rfl⟩⟩
     · exact hN _ _ ⟨0,rfl,rfl⟩
   rintro _ H2_ ⟨left,rfl,eH_⟩;rw[eH_];clear eH_ H2_;refine⟨_,rfl,_,_,rfl,.inl ⟨_,SqL.of (S1 _ _ hl),rfl⟩,_,rfl,?_,?_,JC (lo:=0) (D:={ nx:=qh1 (qh0 2) { nx:=fun _ H'=>Q .non H',rt:=Q },rt:=Q }) (fun i σ H2=>∃ (left:Int) (s4 s5:Option V) (ds:List Int),σ=[some (.int c),some (.ref l),some (.ref q),some (.int left),s4,s5]∧Same H H2∧H2 q=some (.lst (ds.map V.int))∧Dr (ms.take i) ds) ⟨left,none,none,[],rfl,S1,e1,rfl,fun _ _ _ z=>nomatch z⟩ ?_ ?_⟩
   · omega
   · rw[List.length_map];omega
   · rintro i σ H2 hi ⟨left,s4,s5,ds,rfl,S2,hq,dr⟩;rw[List.length_map]at hi;have hmi:ms[i]?=some ms[i]:=List.getElem?_eq_getElem hi;obtain⟨m0,m1⟩:=hm _ (List.mem_of_getElem? hmi)
     have hat:atI (ms.map V.int) ((0:Int)+(i:Nat))=some (.int ms[i]):=by
       rw[Int.zero_add];exact Zy (by rw[List.getElem?_map,hmi];rfl)
     generalize ms[i]=m at *;have ql:ds.length≤100:=by rw[dr.1,List.length_take];omega
     have nq:l≠q:=qk hl fq;have hl2:=S2 _ _ hl;have put:∀ d:Int,0≤d->d < m->Same H (upd H2 q (.lst (ds.map V.int++[.int d])))∧(upd H2 q (.lst (ds.map V.int++[.int d]))) q=some (.lst ((ds++[d]).map V.int))∧Dr (ms.take (i+1)) (ds++[d]):=fun d d0 d1=>⟨S2.put fq _,by rw[qe,List.map_append];rfl,dr.snoc hmi ⟨d0,d1⟩⟩
     refine⟨_,rfl,_,_,rfl,rfl,_,rfl,Zz (fun g=>?_) (fun g=>?_)⟩
     · refine⟨_,rfl,.inl ⟨rfl,_,SqL.of hq⟩,_,rfl,_,rfl,_,rfl,.inl ⟨l,_,_,_,rfl,rfl,SqL.of hl2,hat,_,_,rfl,rfl,m0,?_⟩⟩;obtain⟨p1,p2,p3⟩:=put (left % m) (Int.emod_nonneg _ (by omega)) (Int.emod_lt_of_pos _ m0);refine⟨q,_,_,rfl,rfl,hq,qR (by rw[List.length_map];omega),?_⟩;refine⟨_,rfl,_,rfl,_,rfl,.inl ⟨l,_,_,_,rfl,rfl,SqL.of (p1 _ _ hl),hat,_,_,rfl,rfl,⟨m0,by omega⟩,?_⟩⟩;exact⟨_,_,_,_,rfl,p1,p2,p3⟩
     · skip
       have k0:(0:Int)≤(0:Int)+(i:Nat):=by omega
       have k1:(0:Int)+(i:Nat)≤100:=by omega
       generalize (0:Int)+(i:Nat)=k at *;refine⟨_,rfl,_,rfl,_,_,rfl,rfl,.inl ⟨by decide,by decide⟩,.inl ⟨_,_,rfl,rfl,.inl ⟨_,_,rfl,rfl,_,_,rfl,rfl,.inr ⟨by decide,by decide⟩,_,_,rfl,rfl,(by show (0:Int) < _;decide),?_⟩⟩⟩;(try dsimp only);generalize hn:(c+7919 * k+1) * 48271 % 2147483647=n;have n0:0≤n:=by omega
       have n1:n < 2147483647:=by omega
       refine⟨_,rfl,_,rfl,_,_,rfl,rfl,.inl ⟨by omega,by omega⟩,_,rfl,_,_,rfl,rfl,.inl ⟨by decide,by decide⟩,.inl ⟨_,_,rfl,rfl,_,rfl,.inl ⟨_,_,rfl,rfl,_,_,rfl,rfl,(by show (0:Int) < _;decide),?_⟩⟩⟩;(try dsimp only);generalize ho:(n * n+69621 * n+k) % 2147483629=o;have o0:0≤o:=by rw[← ho];exact Int.emod_nonneg _ (by decide)
       have o1:o < 2147483629:=by rw[← ho];exact Int.emod_lt_of_pos _ (by decide)
       refine⟨_,rfl,_,rfl,_,_,rfl,rfl,.inl ⟨by omega,by omega⟩,_,rfl,_,_,rfl,rfl,.inl ⟨by decide,by decide⟩,.inl ⟨_,_,rfl,rfl,_,rfl,_,_,rfl,rfl,.inl ⟨by decide,by decide⟩,.inl ⟨_,_,rfl,rfl,_,_,rfl,rfl,(by show (0:Int) < _;decide),?_⟩⟩⟩;(try dsimp only);generalize hz:(o * o+40692 * o+7 * k) % 2147483587=z;refine⟨_,rfl,.inl ⟨rfl,_,SqL.of hq⟩,_,rfl,_,rfl,_,rfl,.inl ⟨l,_,_,_,rfl,rfl,SqL.of hl2,hat,_,_,rfl,rfl,m0,?_⟩⟩;obtain⟨p1,p2,p3⟩:=put (z % m) (Int.emod_nonneg _ (by omega)) (Int.emod_lt_of_pos _ m0);refine⟨q,_,_,rfl,rfl,hq,qR (by rw[List.length_map];omega),?_⟩;exact⟨_,_,_,_,rfl,p1,p2,p3⟩
   · rintro σ H2 ⟨left,s4,s5,ds,rfl,S2,hq,dr⟩;rw[List.length_map,Int.toNat_natCast,List.take_length]at dr;exact⟨_,rfl,kk q ds H2 fq S2 hq dr⟩
end
abbrev abc:Str:="abcdefghijklmnopqrstuvwxyz"
theorem qhS:∀ n:Nat,n < 26->atI abc.cps.toList (n:Int)=some (97+n):=by decide +kernel
theorem qgg:∀ n:Nat,n < 26->sgn (97+n)=true:=by decide +kernel
theorem qfZ {d:Int} (h0:0≤d) (h1:d < 26):∃ c:Nat,atI abc.cps.toList d=some c∧sgn c=true:=by
 obtain⟨n,rfl⟩:=Int.eq_ofNat_of_zero_le h0;exact⟨97+n,qhS n (by omega),qgg n (by omega)⟩
theorem qdU {x:Str} (h1:1≤x.cps.toList.length) (h8:x.cps.toList.length≤8) (h:∀ c∈x.cps.toList,sgn c=true):zg (.str x)=true:=by
 rw[zi]at h1 h8;simp only[zg,Bool.and_eq_true,decide_eq_true_eq];exact⟨⟨h1,h8⟩,List.all_eq_true.mpr h⟩
theorem qcs {x:Str} (h:zg (.str x)=true):x.length≤8:=by
 simp only[zg,Bool.and_eq_true,decide_eq_true_eq]at h;exact h.1.2
theorem qfJ:Str.ofString "m"=⟨#[109]⟩:=by decide +kernel
theorem qfF:Str.ofString "p"=⟨#[112]⟩:=by decide +kernel
theorem qg9:sgn 109=true:=by decide +kernel
abbrev sm12:List Str:=["any","at","read","joint","entry","bond","clock","within","between","a","reada","atat"]
theorem qgf:∀ x∈sm12,zg (.str x)=true:=by decide +kernel
def qfI:List Int:=[4,12,8,26,26,26,26,26,26,26,26]
theorem qgw:∀ i:Nat,i < 8->qfI[3+i]?=some 26:=by decide +kernel
inductive JX (vs:List V) (H:Hp) (Q:VK):Prop
 | mk (d:Addr) (ds:List Int) (h1:vs=[.ref d]) (h2:H d=some (.lst (ds.map V.int))) (h3:Dr qfI ds) (h4:∀ (x:Str) (H':Hp),Same H H'->zg (.str x)=true->Q (.str x) H'):JX vs H Q
def qca:Sp:=fun vs H Q _=>JX vs H Q
theorem jg (cs:List Nat):(Txt.join "" (cs.map fun c=>(⟨#[c]⟩:Str))).cps.toList=cs:=by
 rw[jf]
 induction cs with
 | nil=>rfl
 | cons c r ih =>
   cases r with
   | nil=>rfl
   | cons d r =>
     show ((⟨#[c]⟩:Str)++Str.ofString ""++Str.join "" (((d::r).map fun c=>(⟨#[c]⟩:Str)))).cps.toList=_;rw[qG,qG,ih];rfl
theorem qb8:∀ cs:List Nat,((cs.map fun c=>(⟨#[c]⟩:Str)).map (·.length)).sum=cs.length
 | []=>rfl
 | c::r=>by
   rw[List.map_cons,List.map_cons,List.sum_cons,qb8 r,List.length_cons];show 1+r.length=_;omega
section
variable {P:Program}{w:World}{K:Frag}{mg:Str->Option Value}{base:Heap}
theorem qeY {a:Ad} (T:Txt K mg a):qB P w K mg base CX0 1 a.f_B a.fd_B ["_law_draws_here"] qca:=by
 refine T.d_B.F.ok sc_Lname (fun vs H Q E h=>?_) (fun cdv A outer s H vs Q E hr h=>?_)
 · obtain⟨d,ds,rfl,hd,dr,kk⟩:=h;rfl
 · obtain⟨d,ds,rfl,hd,dr,kk⟩:=h;have hU:=hr.units
   refine⟨_,(@qc _ _ _ _ _ (by exact(@qA _ _ 1 _ _ _ _ (by exact sc_Lname.nd) (by rfl) (by exact Or.inl rfl) (by exact(@qZ _ _ _ _ (by exact(@qa _ _ _ _ _ (by exact qt) (by exact(@qa _ _ _ _ _ (by exact qt) (by exact(@qa _ _ _ _ _ (by exact qt) (by exact(@qa _ _ _ _ _ (by exact qt) (by exact(@qa _ _ _ _ _ (by exact qt) (by exact(@qa _ _ _ _ _ (by exact qt) (by exact(@qa _ _ _ _ _ (by exact qt) (by exact(@qa _ _ _ _ _ (by exact qt) (by exact(@qa _ _ _ _ _ (by exact qt) (by exact(@qa _ _ _ _ _ (by exact qt) (by exact(@qa _ _ _ _ _ (by exact qt) (by exact(@qa _ _ _ _ _ (by exact qt) (by exact(@qb _)) (by rfl))) (by rfl))) (by rfl))) (by rfl))) (by rfl))) (by rfl))) (by rfl))) (by rfl))) (by rfl))) (by rfl))) (by rfl))) (by rfl))))) (by rfl) (by exact .inl rfl)))
     (by exact(qc (qP (qD (uEq hU) (qL (r:=rIx K) qC (pv 0) qd (fun _ _=>rfl)) qd (qF _))
       (qf (qu (qL (r:=rIx K) qC (pv 1) (qL (r:=rIx K) qC (pv 0) qd (fun _ _=>rfl)) (fun _ _=>rfl))))
       qw)
     (qc (qA (i:=2) sc_Lname.nd rfl (Or.inr rfl) qt)
     (qc (qP (qD (uEq hU) (qL (r:=rIx K) qC (pv 0) qd (fun _ _=>rfl)) qd (qF _))
       (qc (qA (i:=3) sc_Lname.nd rfl (Or.inl rfl) (qm zb (qL (r:=rIx K) qC (pv 0) qd (fun _ _=>rfl)) (qm zk qd (qL (r:=rIx K) qC (pv 0) qd (fun _ _=>rfl)))))
       (qf (qu (qm zk (qm zk (qm qaI qt (pv 3)) (qL (r:=rIx K) qC (pv 2) (qL (r:=rIx K) qC (pv 0) qd (fun _ _=>rfl)) (fun _ _=>rfl))) (qm qaI qt (qm Zk (qL (r:=rIx K) qC (pv 0) qd (fun _ _=>rfl)) (pv 3)))))))
       qw)
     (qf (qu (Jk PySem.F.plainAttrs_str PySem.F.slot_str_join PySem.F.type_str_join qaR qt (qa (jc rfl (CompOk.def ["_law_k","_law_letters","_law_draws_here"] [none,some 2,some 0]) (ZU rfl T.n_range (qa (qm zk qd (qL (r:=rIx K) qC (pv 0) qd (fun _ _=>rfl))) qb)) (fun _ _ _ _ _=>(qE (i:=0) (show List.Nodup (["_law_k","_law_letters","_law_draws_here"]:List Str) by decide +kernel) rfl (Or.inl rfl))) (fun _ _ _ _ _=>jb) (fun _ _ _ _ _=>(qL (r:=rIx K) qC (pv 1) (qL (r:=rIx K) qC (pv 2) (qm zk qd (pv 0)) (fun _ _=>rfl)) (fun _ _=>rfl)))) qb))))))))),?_⟩
   try dsimp only [zc,Cx.nox]
   obtain⟨d0,i0,a0,b0,c0⟩:=jh dr 0 rfl (k:=0) rfl;obtain⟨d1,i1,a1,b1,c1⟩:=jh dr 1 rfl (k:=1) rfl;obtain⟨d2,i2,a2,b2,c2⟩:=jh dr 2 rfl (k:=2) rfl;obtain⟨d3,i3,a3,b3,c3⟩:=jh dr 3 rfl (k:=3) rfl;refine⟨qj (Nat.le_of_ble_eq_true rfl),fun s fs=>?_⟩;generalize hG:upd H s _=H1;obtain⟨S1,es⟩:=qo hG fs;clear hG;have hd1:=S1 _ _ hd;(try unfold qy);(try dsimp only);refine⟨_,rfl,.inl ⟨d,_,_,_,rfl,rfl,SqL.of hd1,a0,.inl ⟨rfl,_,rfl,Zz (fun g=>?_) (fun g=>?_)⟩⟩⟩
   · obtain⟨v,hv,mv⟩:=qfY (xs:=sm12.map V.str) b1 c1;obtain⟨x,mx,rfl⟩:=List.mem_map.mp mv;refine⟨_,rfl,_,rfl,.inl ⟨d,_,_,_,rfl,rfl,SqL.of hd1,a1,.inl ⟨s,_,_,_,rfl,rfl,SqL.of es,hv,?_⟩⟩⟩;exact kk x H1 S1 (qgf x mx)
   try unfold qy
   try dsimp only
   refine⟨_,rfl,.inl ⟨d,_,_,_,rfl,rfl,SqL.of hd1,a0,.inl ⟨rfl,_,rfl,Zz (fun g=>?_) (fun g=>?_)⟩⟩⟩
   · obtain⟨c,hc,sc⟩:=qfZ b3 c3;refine⟨_,rfl,.inl ⟨d,_,_,_,rfl,rfl,SqL.of hd1,a1,_,rfl,.inl ⟨d,_,_,_,rfl,rfl,SqL.of hd1,a2,.inl ⟨_,_,rfl,rfl,_,_,rfl,rfl,(by show (0:Int) < _;omega),?_⟩⟩⟩⟩;have t0:=Int.emod_nonneg d1 (b:=1+d2) (by omega);have t1:=Int.emod_lt_of_pos d1 (b:=1+d2) (by omega);generalize d1 % (1+d2)=t at *;have L1:∀ n:Nat,(⟨(List.replicate n 109).toArray⟩:Str).length=n:=fun n=>by show ((List.replicate n 109).toArray).size=n;simp
     refine⟨_,rfl,109,t,congrArg V.str qfJ,rfl,t0,by omega,_,rfl,_,rfl,.inl ⟨d,_,_,_,rfl,rfl,SqL.of hd1,a3,.inr (.inr ⟨abc,_,c,rfl,rfl,(by decide),hc,.inr (.inr ⟨_,_,rfl,rfl,?_,?_⟩)⟩)⟩⟩
     · exact Z4 (n:=8) (m:=1) (by rw[L1];omega) (Nat.le_refl 1) (by decide)
     refine⟨_,rfl,.inl ⟨d,_,_,_,rfl,rfl,SqL.of hd1,a2,_,rfl,_,_,rfl,rfl,109,d2 - t,congrArg V.str qfJ,rfl,by omega,by omega,.inr (.inr ⟨_,_,rfl,rfl,?_,?_⟩)⟩⟩
     · exact Z4 (n:=9) (m:=8) (qx (n:=8) (m:=1) (by rw[L1];omega) (Nat.le_refl 1)) (by rw[L1];omega) (by decide)
     have el:((⟨(List.replicate t.toNat 109).toArray⟩:Str)++(⟨#[c]⟩:Str)++(⟨(List.replicate (d2 - t).toNat 109).toArray⟩:Str)).cps.toList=List.replicate t.toNat 109++[c]++List.replicate (d2 - t).toNat 109:=by
       rw[qG,qG]
     refine kk _ H1 S1 (qdU ?_ ?_ ?_)
     · rw[el];simp;omega
     · rw[el];simp;omega
     · rw[el];intro y my;simp only[List.mem_append,List.mem_singleton,List.mem_replicate]at my;rcases my with (⟨_,rfl⟩|rfl)|⟨_,rfl⟩
       · exact qg9
       · exact sc
       · exact qg9
   try unfold qy
   try dsimp only
   refine⟨rfl,_,rfl,.inl ⟨d,_,_,_,rfl,rfl,SqL.of hd1,a2,.inl ⟨_,_,rfl,rfl,_,rfl,?_,?_,fun D fD=>?_⟩⟩⟩
   · omega
   · omega
   refine qcZ (D:=D) (lo:=0) (fun i σ H2=>∃ (c0:Option V) (cs:List Nat),σ=[c0,some (.str abc),some (.ref d)]∧Same H1 H2∧H2 D=some (.lst ((cs.map fun c=>(⟨#[c]⟩:Str)).map V.str))∧cs.length=i∧∀ c∈cs,sgn c=true) ⟨none,[],rfl,Same.new _ fD,qe,rfl,fun _ z=>nomatch z⟩ ?_ ?_
   · rintro i σ H2 hi ⟨s0,cs,rfl,S2,hD,lc,hc⟩;obtain⟨dk,ik,ak,bk,ck⟩:=jh dr (3+i) (qgw i (by omega)) (k:=3+((0:Int)+(i:Nat))) (by omega);obtain⟨c,ec,sc⟩:=qfZ bk ck;refine⟨_,rfl,_,rfl,_,rfl,.inl ⟨_,_,rfl,rfl,.inl ⟨d,_,_,_,rfl,rfl,SqL.of (S2 _ _ hd1),ak,.inr (.inr ⟨abc,_,c,rfl,rfl,(by decide),ec,_,hD,qj ?_,_,cs++[c],rfl,S2.put fD _,?_,?_,?_⟩)⟩⟩⟩
     · rw[List.length_map,List.length_map];omega
     · rw[qe,List.map_append,List.map_append];rfl
     · rw[List.length_append,lc];rfl
     · intro y my;rcases List.mem_append.mp my with my|my
       · exact hc y my
       · rw[List.mem_singleton.mp my];exact sc
   rintro σ H2 ⟨s0,cs,rfl,S2,hD,lc,hc⟩;have c8:cs.length≤8:=by omega
   have c1':1≤cs.length:=by omega
   refine⟨_,D,cs.map fun c=>(⟨#[c]⟩:Str),rfl,rfl,SqL.of hD,?_,?_⟩
   · rw[qb8,List.length_map];show cs.length+cs.length * 0≤_;omega
   refine kk _ H2 (S1.trans S2) (qdU ?_ ?_ ?_)
   · rw[jg];exact c1'
   · rw[jg];exact c8
   · rw[jg];exact hc
end
theorem dr6 {ds:List Int} (h:Dr mm6 ds):∃ k n lo hi fa mo:Int,ds=[k,n,lo,hi,fa,mo]∧(0≤k∧k < 5)∧(0≤n∧n < 5)∧(0≤lo∧lo < 1000000001)∧(0≤hi∧hi < 1000000001)∧(0≤fa∧fa < 20000000001)∧(0≤mo∧mo < 20000000001):=by
 obtain⟨l,h⟩:=h;obtain _|⟨k,_|⟨n,_|⟨lo,_|⟨hi,_|⟨fa,_|⟨mo,_|⟨z,t⟩⟩⟩⟩⟩⟩⟩:=ds
 all_goals first|(exact⟨k,n,lo,hi,fa,mo,rfl,h 0 _ _ rfl rfl,h 1 _ _ rfl rfl,h 2 _ _ rfl rfl,h 3 _ _ rfl rfl,h 4 _ _ rfl rfl,h 5 _ _ rfl rfl⟩)|(simp[mm6]at l)
def flV (e:Ent):List V:=if e.wd="any" then [.str "any"] else if e.wd="within"∨e.wd="at" then [.str e.wd,.int e.lo,.int e.hi] else [.str e.wd,.int e.lo,.int e.hi,.str e.pl]
theorem qeb (x:Addr) (nm pl:Str) (lo hi:Int):flV ⟨x,"any",nm,pl,lo,hi⟩=[.str "any"]:=if_pos rfl
theorem qaq (x:Addr) (nm pl:Str) (lo hi:Int):flV ⟨x,"within",nm,pl,lo,hi⟩=[.str "within",.int lo,.int hi]:=by unfold flV;dsimp only;rw[if_neg (by decide),if_pos (by decide)]
theorem qfR (x:Addr) (nm pl:Str) (lo hi:Int):flV ⟨x,"at",nm,pl,lo,hi⟩=[.str "at",.int lo,.int hi]:=by unfold flV;dsimp only;rw[if_neg (by decide),if_pos (by decide)]
theorem JD (x:Addr) (nm pl:Str) (lo hi:Int):flV ⟨x,"between",nm,pl,lo,hi⟩=[.str "between",.int lo,.int hi,.str pl]:=by unfold flV;dsimp only;rw[if_neg (by decide),if_neg (by decide)]
theorem qcz (x:Addr) (nm pl:Str) (lo hi:Int):flV ⟨x,"read",nm,pl,lo,hi⟩=[.str "read",.int lo,.int hi,.str pl]:=by unfold flV;dsimp only;rw[if_neg (by decide),if_neg (by decide)]
structure Sg (a:Ad) (H:Hp) (e:Ent) (fl:Addr):Prop where
 en:EnE a H e
 bd:BdE e
 fl:H fl=some (.tup (flV e))
theorem Sg.mp {a:Ad}{H H':Hp}{e:Ent}{fl:Addr} (h:Sg a H e fl) (k:∀ C d fs,H e.x=some (.ins C d fs)->fs≠[]->H' e.x=some (.ins C d fs)) (kf:H fl=some (.tup (flV e))->H' fl=some (.tup (flV e))):Sg a H' e fl:=⟨h.en.mp k,h.bd,kf h.fl⟩
theorem Sg.same {a:Ad}{H H':Hp}{e:Ent}{fl:Addr} (h:Sg a H e fl) (s:Same H H'):Sg a H' e fl:=h.mp (fun _ _ _ z _=>s _ _ z) (s _ _)
inductive jp (a:Ad) (vs:List V) (H:Hp) (Q:VK):Prop
 | mk (nm pl:Str) (d:Addr) (ds:List Int) (h1:vs=[.str nm,.str pl,.ref d]) (h2:H d=some (.lst (ds.map V.int))) (h3:Dr mm6 ds) (h4:zg (.str nm)=true) (h5:zg (.str pl)=true) (h6:∀ (t fl:Addr) (e:Ent) (H':Hp),Same H H'->e.nm=nm->Sg a H' e fl->H' t=some (.tup [.ref e.x,.str (fE e),.ref fl])->Q (.ref t) H'):jp a vs H Q
def Z6 (a:Ad):Sp:=fun vs H Q _=>jp a vs H Q
section
variable {P:Program}{w:World}{K:Frag}{mg:Str->Option Value}{base:Heap}
theorem qah {a:Ad} (T:Txt K mg a):qB P w K mg base CX0 9 a.f_e a.fd_e ["_law_name_here","_law_place","_law_draws_here"] (Z6 a):=by
 have G_v:=jH (P:=P) (w:=w) (base:=base) T;have G_b:=zf (P:=P) (w:=w) (base:=base) T;have G_c:=qdO (P:=P) (w:=w) (base:=base) T;have G_h:=zY (P:=P) (w:=w) (base:=base) T;have G_u:=qaj (P:=P) (w:=w) (base:=base) T;have G_r:=QS (P:=P) (w:=w) (base:=base) T;refine T.d_e.F.ok sc_Lsingle (fun vs H Q E h=>?_) (fun cdv A outer s H vs Q E hr h=>?_)
 · obtain⟨nm,pl,d,ds,rfl,hd,dr,okn,okp,kk⟩:=h;rfl
 · obtain⟨nm,pl,d,ds,rfl,hd,dr,okn,okp,kk⟩:=h;have hU:=hr.units;have h_v:Room (7+1) _:=hr.mono (by decide);have h_b:Room (3+1) _:=hr.mono (by decide);have h_c:Room (1) _:=hr.mono (by decide);have h_h:Room (5+1) _:=hr.mono (by decide);have h_u:Room (7+1) _:=hr.mono (by decide);have h_r:Room (5+1) _:=hr.mono (by decide)
   refine⟨_,(qc (qac (pv 2) (qhl rfl (qI (qE (i:=3) (sc_Lsingle.nd) rfl (Or.inl rfl)) (qI (qE (i:=4) (sc_Lsingle.nd) rfl (Or.inl rfl)) (qI (qE (i:=5) (sc_Lsingle.nd) rfl (Or.inl rfl)) (qI (qE (i:=6) (sc_Lsingle.nd) rfl (Or.inl rfl)) (qI (qE (i:=7) (sc_Lsingle.nd) rfl (Or.inl rfl)) (qI (qE (i:=8) (sc_Lsingle.nd) rfl (Or.inl rfl)) Zv))))))))
     (qc (qA (i:=9) sc_Lsingle.nd rfl (Or.inl rfl) (qm Zk (pv 7) (qm zo qd qd)))
     (qc (qA (i:=10) sc_Lsingle.nd rfl (Or.inl rfl) (qm Zk (pv 8) (qm zo qd qd)))
     (qc (qP (qD (uEq hU) (qm zb (pv 4) qd) qd (qF _))
       (qf (qA (i:=6) sc_Lsingle.nd rfl (Or.inl rfl) (qp (qbz rfl) (by rfl) T.n_min qbB (qa (qm zo qd qd) (qa (qm zk (pv 5) (qm zb (pv 6) qd)) qb)))))
       qw)
     (qc (qP (qD qhr (pv 4) qd (qF _))
       (qc (qA (i:=9) sc_Lsingle.nd rfl (Or.inl rfl) (qm Zk (qm zk (pv 5) (qm zb (pv 7) qd)) qd))
       (qf (qA (i:=10) sc_Lsingle.nd rfl (Or.inl rfl) (qm Zk (qm zk (pv 6) (qm zb (pv 8) qd)) qd))))
       qw)
     (qc (qP (qD (uEq hU) (pv 4) qd (qF _))
       (qc (qA (i:=5) sc_Lsingle.nd rfl (Or.inl rfl) (qm zp (qm zb (pv 5) qd) (qm zo qd qd)))
       (qc (qA (i:=6) sc_Lsingle.nd rfl (Or.inl rfl) (qm zp (qm zb (pv 6) qd) (qm zo qd qd)))
       (qc (qA (i:=9) sc_Lsingle.nd rfl (Or.inl rfl) (qm Zk (qm zp (qm zp (qm zb (pv 7) qd) qd) (qm zo qd qd)) (qm zo qd qd)))
       (qf (qA (i:=10) sc_Lsingle.nd rfl (Or.inl rfl) (qm Zk (qm zp (qm zp (qm zb (pv 8) qd) qd) (qm zo qd qd)) (qm zo qd qd)))))))
       qw)
     (qc (qP (qD (uEq hU) (pv 3) qd (qF _))
       (qf (qu (zE (qa (zF T.M_Entry G_b h_b rfl T.g_Entry T.d_b.b .nil qv (qa (pv 0) qb)) (qa qt (qa (zE (qa qt qb)) qb))))))
       qw)
     (qc (qP (qD (uEq hU) (pv 3) qd (qF _))
       (qc (qA (i:=11) sc_Lsingle.nd rfl (Or.inl rfl) (qm zk (qm zk (qm zk qt (qq G_c h_c rfl T.d_c.m T.d_c.k T.d_c.b .nil qv (qa (pv 5) qb))) qt) (qq G_c h_c rfl T.d_c.m T.d_c.k T.d_c.b .nil qv (qa (pv 6) qb))))
       (qf (qu (zE (qa (zF T.M_Within G_h h_h rfl T.g_Within T.d_h.b .nil qv (qa (pv 0) (qa (pv 5) (qa (pv 6) qb)))) (qa (pv 11) (qa (zE (qa qt (qa (pv 5) (qa (pv 6) qb)))) qb)))))))
       qw)
     (qc (qP (qD (uEq hU) (pv 3) qd (qF _))
       (qf (qu (zE (qa (zF T.M_At G_u h_u rfl T.g_At T.d_u.b .nil qv (qa (pv 0) (qa (pv 5) qb))) (qa (qm zk qt (qq G_c h_c rfl T.d_c.m T.d_c.k T.d_c.b .nil qv (qa (pv 5) qb))) (qa (zE (qa qt (qa (pv 5) (qa (pv 5) qb)))) qb))))))
       qw)
     (qc (qP (qD (uEq hU) (pv 3) qd (qF _))
       (qc (qA (i:=11) sc_Lsingle.nd rfl (Or.inl rfl) (qm zk (qm zk (qm zk (qm zk (qm zk qt (pv 1)) qt) (qq G_c h_c rfl T.d_c.m T.d_c.k T.d_c.b .nil qv (qa (pv 9) qb))) qt) (qq G_c h_c rfl T.d_c.m T.d_c.k T.d_c.b .nil qv (qa (pv 10) qb))))
       (qf (qu (zE (qa (zF T.M_Between G_r h_r rfl T.g_Between T.d_r.b .nil qv (qa (pv 0) (qa (pv 1) (qa (pv 9) (qa (pv 10) qb))))) (qa (pv 11) (qa (zE (qa qt (qa (pv 9) (qa (pv 10) (qa (pv 1) qb))))) qb)))))))
       qw)
     (qf (qu (zE (qa (zF T.M_Read G_v h_v rfl T.g_Read T.d_v.b .nil qv (qa (pv 0) (qa (pv 1) (qa (pv 9) qb)))) (qa (qm zk (qm zk (qm zk qt (pv 1)) qt) (qq G_c h_c rfl T.d_c.m T.d_c.k T.d_c.b .nil qv (qa (pv 9) qb))) (qa (zE (qa qt (qa (pv 9) (qa (pv 9) (qa (pv 1) qb))))) qb)))))))))))))))),?_⟩
   try dsimp only [zc,Cx.nox]
   obtain⟨k,n,lo,hi,fa,mo,rfl,⟨k0,k1⟩,⟨n0,n1⟩,⟨lo0,lo1⟩,⟨hi0,hi1⟩,⟨fa0,fa1⟩,⟨mo0,mo1⟩⟩:=dr6 dr;have e10:((10:Int) ^ (10:Int).toNat)=10000000000:=by decide
   have e9:((10:Int) ^ (9:Int).toNat)=1000000000:=by decide
   refine⟨_,rfl,d,_,rfl,SqL.of hd,rfl,_,_,rfl,_,_,rfl,_,_,rfl,_,_,rfl,_,_,rfl,_,_,rfl,rfl,?_⟩;refine⟨_,rfl,_,_,rfl,rfl,⟨by decide,by decide,by decide⟩,_,_,rfl,rfl,?_⟩;(try unfold qy);(try dsimp only);refine⟨_,rfl,_,_,rfl,rfl,⟨by decide,by decide,by decide⟩,_,_,rfl,rfl,?_⟩;rw[e10];(try unfold qy);(try dsimp only);refine qY (t:=qeI _ _ _) (fun σ' H'=>∃ lo hi fi la:Int,σ'=[some (.str nm),some (.str pl),some (.ref d),some (.int k),some (.int n),some (.int lo),some (.int hi),some (.int fa),some (.int mo),some (.int fi),some (.int la),none]∧H'=H∧(0≤lo∧lo < 1000000001)∧(0≤hi∧hi < 1000000001)∧(-10000000000≤fi∧fi≤10000000000)∧(-10000000000≤la∧la≤10000000000)) (fun N hN=>?_) ?_
   · refine⟨_,rfl,_,_,rfl,rfl,(by show (0:Int) < _;decide),.inl ⟨rfl,_,rfl,Zz (fun g=>?_) (fun g=>?_)⟩⟩
     · refine⟨_,_,rfl,rfl,⟨by decide,by decide,by decide⟩,_,rfl,_,rfl,_,_,rfl,rfl,(by show (0:Int) < _;decide),.inl ⟨_,_,rfl,rfl,_,_,rfl,?_⟩⟩;rw[e9];refine hN _ _ ⟨lo,_,_,_,rfl,rfl,⟨by omega,by omega⟩,?_,⟨by omega,by omega⟩,⟨by omega,by omega⟩⟩;split<;>omega
     · exact hN _ _ ⟨lo,hi,_,_,rfl,rfl,⟨by omega,by omega⟩,⟨by omega,by omega⟩,⟨by omega,by omega⟩,⟨by omega,by omega⟩⟩
   rintro _ H2_ ⟨lo,hi,fi,la,rfl,eH_,⟨lo0,lo1⟩,⟨hi0,hi1⟩,⟨fi0,fi1⟩,⟨la0,la1⟩⟩;rw[eH_];clear eH_ H2_;(try unfold qy);(try dsimp only);refine qY (t:=qeI _ _ _) (fun σ' H'=>∃ lo hi fi la:Int,σ'=[some (.str nm),some (.str pl),some (.ref d),some (.int k),some (.int n),some (.int lo),some (.int hi),some (.int fa),some (.int mo),some (.int fi),some (.int la),none]∧H'=H∧(0≤lo∧lo < 1000000001)∧(0≤hi∧hi < 1000000001)∧(-10000000000≤fi∧fi≤10000000000)∧(-10000000000≤la∧la≤10000000000)) (fun N hN=>?_) ?_
   · refine⟨_,rfl,_,_,rfl,rfl,_,rfl,Zz (fun g=>?_) (fun g=>?_)⟩
     · refine⟨_,rfl,_,rfl,_,_,rfl,rfl,(by show (0:Int) < _;decide),.inl ⟨_,_,rfl,rfl,_,_,rfl,rfl,?_⟩⟩;(try unfold qy);(try dsimp only);refine⟨_,rfl,_,rfl,_,_,rfl,rfl,(by show (0:Int) < _;decide),.inl ⟨_,_,rfl,rfl,_,_,rfl,rfl,?_⟩⟩;exact hN _ _ ⟨lo,hi,_,_,rfl,rfl,⟨by omega,by omega⟩,⟨by omega,by omega⟩,⟨by omega,by omega⟩,⟨by omega,by omega⟩⟩
     · exact hN _ _ ⟨lo,hi,_,_,rfl,rfl,⟨by omega,by omega⟩,⟨by omega,by omega⟩,⟨by omega,by omega⟩,⟨by omega,by omega⟩⟩
   rintro _ H2_ ⟨lo,hi,fi,la,rfl,eH_,⟨lo0,lo1⟩,⟨hi0,hi1⟩,⟨fi0,fi1⟩,⟨la0,la1⟩⟩;rw[eH_];clear eH_ H2_;(try unfold qy);(try dsimp only);refine qY (t:=qeI _ _ _) (fun σ' H'=>∃ lo hi fi la:Int,σ'=[some (.str nm),some (.str pl),some (.ref d),some (.int k),some (.int n),some (.int lo),some (.int hi),some (.int fa),some (.int mo),some (.int fi),some (.int la),none]∧H'=H∧(0≤lo∧lo < 1000000001)∧(0≤hi∧hi < 1000000001)∧(-10000000000≤fi∧fi≤10000000000)∧(-10000000000≤la∧la≤10000000000)) (fun N hN=>?_) ?_
   · refine⟨_,rfl,.inl ⟨rfl,_,rfl,Zz (fun g=>?_) (fun g=>?_)⟩⟩
     · refine⟨_,rfl,_,_,rfl,rfl,(by show (0:Int) < _;decide),_,_,rfl,rfl,⟨by decide,by decide,by decide⟩,_,_,rfl,rfl,.inl ⟨by omega,by omega⟩,?_⟩;(try unfold qy);(try dsimp only);refine⟨_,rfl,_,_,rfl,rfl,(by show (0:Int) < _;decide),_,_,rfl,rfl,⟨by decide,by decide,by decide⟩,_,_,rfl,rfl,.inl ⟨by omega,by omega⟩,?_⟩;rw[e9];(try unfold qy);(try dsimp only);refine⟨_,rfl,_,_,rfl,rfl,(by show (0:Int) < _;decide),_,_,rfl,rfl,.inl ⟨by omega,by omega⟩,_,_,rfl,rfl,⟨by decide,by decide,by decide⟩,_,_,rfl,rfl,.inl ⟨by omega,by omega⟩,_,_,rfl,rfl,⟨by decide,by decide,by decide⟩,_,_,rfl,rfl,?_⟩;(try unfold qy);(try dsimp only);refine⟨_,rfl,_,_,rfl,rfl,(by show (0:Int) < _;decide),_,_,rfl,rfl,.inl ⟨by omega,by omega⟩,_,_,rfl,rfl,⟨by decide,by decide,by decide⟩,_,_,rfl,rfl,.inl ⟨by omega,by omega⟩,_,_,rfl,rfl,⟨by decide,by decide,by decide⟩,_,_,rfl,rfl,?_⟩;rw[e10];exact hN _ _ ⟨_,_,_,_,rfl,rfl,⟨by omega,by omega⟩,⟨by omega,by omega⟩,⟨by omega,by omega⟩,⟨by omega,by omega⟩⟩
     · exact hN _ _ ⟨lo,hi,_,_,rfl,rfl,⟨by omega,by omega⟩,⟨by omega,by omega⟩,⟨by omega,by omega⟩,⟨by omega,by omega⟩⟩
   rintro _ H2_ ⟨lo,hi,fi,la,rfl,eH_,⟨lo0,lo1⟩,⟨hi0,hi1⟩,⟨fi0,fi1⟩,⟨la0,la1⟩⟩;rw[eH_];clear eH_ H2_;(try unfold qy);(try dsimp only);refine⟨_,rfl,.inl ⟨rfl,_,rfl,Zz (fun g=>?_) (fun g=>?_)⟩⟩
   · refine⟨_,rfl,fun x dx f1 f2 ne=>⟨x,_,dx,nm,rfl,qe,okn,T.cl_Entry,T.n_Entry_name,fun H1 B1 h1=>⟨rfl,qj (Nat.le_of_ble_eq_true rfl),fun fl ffl=>⟨qj (Nat.le_of_ble_eq_true rfl),fun t ft=>?_⟩⟩⟩⟩;have S1:=qV f1 f2 B1;have S2:=Same.new (.tup [.str "any"]) ffl;have S3:=Same.new (.tup [.ref x,.str (Str.ofString "any"),.ref fl]) ft;refine kk t fl ⟨x,"any",nm,"",0,1000000000⟩ _ (S1.trans (S2.trans S3)) rfl ⟨.any ((S2.trans S3) _ _ h1),(⟨⟨by decide,by decide⟩,⟨by decide,by decide⟩,by decide⟩:Bd "" 0 1000000000),?_⟩ ?_
     · rw[qeb];exact S3 _ _ qe
     · show _=some (HO.tup [.ref x,.str (fT "any" _ _ _),.ref fl]);rw[qfS];exact qe
   try unfold qy
   try dsimp only
   refine⟨_,rfl,.inl ⟨rfl,_,rfl,Zz (fun g=>?_) (fun g=>?_)⟩⟩
   · refine⟨_,rfl,lo,rfl,(⟨by omega,by omega⟩:Sm lo),.inr (.inr ⟨_,_,rfl,rfl,Z4 (n:=7) (m:=37) (by decide) (q9 (n:=lo) ⟨by omega,by omega⟩) (by decide),.inr (.inr ⟨_,_,rfl,rfl,Z4 (n:=44) (m:=1) (qx (n:=7) (m:=37) (by decide) (q9 (n:=lo) ⟨by omega,by omega⟩)) (by decide) (by decide),_,rfl,hi,rfl,(⟨by omega,by omega⟩:Sm hi),.inr (.inr ⟨_,_,rfl,rfl,Z4 (n:=45) (m:=37) (qx (n:=44) (m:=1) (qx (n:=7) (m:=37) (by decide) (q9 (n:=lo) ⟨by omega,by omega⟩)) (by decide)) (q9 (n:=hi) ⟨by omega,by omega⟩) (by decide),?_⟩)⟩)⟩)⟩;refine⟨_,rfl,_,rfl,_,rfl,fun x dx f1 f2 ne=>⟨x,_,dx,nm,lo,hi,rfl,qe,okn,⟨by omega,by omega⟩,⟨by omega,by omega⟩,T.cl_Within,T.n_Within_name,T.n_Within_low,T.n_Within_high,fun H1 B1 h1=>⟨rfl,_,rfl,_,rfl,_,rfl,qj (Nat.le_of_ble_eq_true rfl),fun fl ffl=>⟨qj (Nat.le_of_ble_eq_true rfl),fun t ft=>?_⟩⟩⟩⟩;have S1:=qV f1 f2 B1;have S2:=Same.new (.tup [.str "within",.int lo,.int hi]) ffl;have S3:=Same.new (.tup [.ref x,.str (Str.ofString "within "++ckT lo++Str.ofString " "++ckT hi),.ref fl]) ft;refine kk t fl ⟨x,"within",nm,"",lo,hi⟩ _ (S1.trans (S2.trans S3)) rfl ⟨.within ((S2.trans S3) _ _ h1),(⟨⟨by omega,by omega⟩,⟨by omega,by omega⟩,by decide⟩:Bd "" lo hi),?_⟩ ?_
     · rw[qaq];exact S3 _ _ qe
     · show _=some (HO.tup [.ref x,.str (fT "within" _ _ _),.ref fl]);rw[qbx];exact qe
   try unfold qy
   try dsimp only
   refine⟨_,rfl,.inl ⟨rfl,_,rfl,Zz (fun g=>?_) (fun g=>?_)⟩⟩
   · refine⟨_,rfl,_,rfl,fun x dx f1 f2 ne=>⟨x,dx,nm,lo,rfl,qe,okn,⟨by omega,by omega⟩,fun H1 B1 h1=>⟨rfl,_,rfl,lo,rfl,(⟨by omega,by omega⟩:Sm lo),.inr (.inr ⟨_,_,rfl,rfl,Z4 (n:=3) (m:=37) (by decide) (q9 (n:=lo) ⟨by omega,by omega⟩) (by decide),_,rfl,_,rfl,qj (Nat.le_of_ble_eq_true rfl),fun fl ffl=>⟨qj (Nat.le_of_ble_eq_true rfl),fun t ft=>?_⟩⟩)⟩⟩⟩;have S1:=qV f1 f2 B1;have S2:=Same.new (.tup [.str "at",.int lo,.int lo]) ffl;have S3:=Same.new (.tup [.ref x,.str (Str.ofString "at "++ckT lo),.ref fl]) ft;refine kk t fl ⟨x,"at",nm,"",lo,lo⟩ _ (S1.trans (S2.trans S3)) rfl ⟨.at_ ((S2.trans S3) _ _ h1),(⟨⟨by omega,by omega⟩,⟨by omega,by omega⟩,by decide⟩:Bd "" lo lo),?_⟩ ?_
     · rw[qfR];exact S3 _ _ qe
     · show _=some (HO.tup [.ref x,.str (fT "at" _ _ _),.ref fl]);rw[qhP];exact qe
   try unfold qy
   try dsimp only
   refine⟨_,rfl,.inl ⟨rfl,_,rfl,Zz (fun g=>?_) (fun g=>?_)⟩⟩
   · have lp:=qcs okp;refine⟨_,rfl,.inr (.inr ⟨_,_,rfl,rfl,Z4 (n:=8) (m:=8) (by decide) lp (by decide),.inr (.inr ⟨_,_,rfl,rfl,Z4 (n:=16) (m:=1) (qx (n:=8) (m:=8) (by decide) lp) (by decide) (by decide),_,rfl,fi,rfl,(⟨by omega,by omega⟩:Sm fi),.inr (.inr ⟨_,_,rfl,rfl,Z4 (n:=17) (m:=37) (qx (n:=16) (m:=1) (qx (n:=8) (m:=8) (by decide) lp) (by decide)) (q9 (n:=fi) ⟨by omega,by omega⟩) (by decide),.inr (.inr ⟨_,_,rfl,rfl,Z4 (n:=54) (m:=1) (qx (n:=17) (m:=37) (qx (n:=16) (m:=1) (qx (n:=8) (m:=8) (by decide) lp) (by decide)) (q9 (n:=fi) ⟨by omega,by omega⟩)) (by decide) (by decide),_,rfl,la,rfl,(⟨by omega,by omega⟩:Sm la),.inr (.inr ⟨_,_,rfl,rfl,Z4 (n:=55) (m:=37) (qx (n:=54) (m:=1) (qx (n:=17) (m:=37) (qx (n:=16) (m:=1) (qx (n:=8) (m:=8) (by decide) lp) (by decide)) (q9 (n:=fi) ⟨by omega,by omega⟩)) (by decide)) (q9 (n:=la) ⟨by omega,by omega⟩) (by decide),?_⟩)⟩)⟩)⟩)⟩)⟩;refine⟨_,rfl,_,rfl,_,rfl,_,rfl,fun x dx f1 f2 ne=>⟨x,_,dx,nm,pl,fi,la,rfl,qe,okn,okp,⟨by omega,by omega⟩,⟨by omega,by omega⟩,T.cl_Between,T.n_Between_name,T.n_Between_place,T.n_Between_low,T.n_Between_high,fun H1 B1 h1=>⟨rfl,_,rfl,_,rfl,_,rfl,_,rfl,qj (Nat.le_of_ble_eq_true rfl),fun fl ffl=>⟨qj (Nat.le_of_ble_eq_true rfl),fun t ft=>?_⟩⟩⟩⟩;have S1:=qV f1 f2 B1;have S2:=Same.new (.tup [.str "between",.int fi,.int la,.str pl]) ffl;have S3:=Same.new (.tup [.ref x,.str (Str.ofString "between "++pl++Str.ofString " "++ckT fi++Str.ofString " "++ckT la),.ref fl]) ft;refine kk t fl ⟨x,"between",nm,pl,fi,la⟩ _ (S1.trans (S2.trans S3)) rfl ⟨.between ((S2.trans S3) _ _ h1),(⟨⟨by omega,by omega⟩,⟨by omega,by omega⟩,lp⟩:Bd pl fi la),?_⟩ ?_
     · rw[JD];exact S3 _ _ qe
     · show _=some (HO.tup [.ref x,.str (fT "between" _ _ _),.ref fl]);rw[qar];exact qe
   try unfold qy
   try dsimp only
   have lp:=qcs okp;refine⟨_,rfl,_,rfl,_,rfl,fun x dx f1 f2 ne=>⟨x,dx,nm,pl,fi,rfl,qe,okn,okp,⟨by omega,by omega⟩,fun H1 B1 h1=>⟨rfl,_,rfl,.inr (.inr ⟨_,_,rfl,rfl,Z4 (n:=5) (m:=8) (by decide) lp (by decide),.inr (.inr ⟨_,_,rfl,rfl,Z4 (n:=13) (m:=1) (qx (n:=5) (m:=8) (by decide) lp) (by decide) (by decide),_,rfl,fi,rfl,(⟨by omega,by omega⟩:Sm fi),.inr (.inr ⟨_,_,rfl,rfl,Z4 (n:=14) (m:=37) (qx (n:=13) (m:=1) (qx (n:=5) (m:=8) (by decide) lp) (by decide)) (q9 (n:=fi) ⟨by omega,by omega⟩) (by decide),_,rfl,_,rfl,_,rfl,qj (Nat.le_of_ble_eq_true rfl),fun fl ffl=>⟨qj (Nat.le_of_ble_eq_true rfl),fun t ft=>?_⟩⟩)⟩)⟩)⟩⟩⟩;have S1:=qV f1 f2 B1;have S2:=Same.new (.tup [.str "read",.int fi,.int fi,.str pl]) ffl;have S3:=Same.new (.tup [.ref x,.str (Str.ofString "read "++pl++Str.ofString " "++ckT fi),.ref fl]) ft;refine kk t fl ⟨x,"read",nm,pl,fi,fi⟩ _ (S1.trans (S2.trans S3)) rfl ⟨.read ((S2.trans S3) _ _ h1),(⟨⟨by omega,by omega⟩,⟨by omega,by omega⟩,lp⟩:Bd pl fi fi),?_⟩ ?_
   · rw[qcz];exact S3 _ _ qe
   · show _=some (HO.tup [.ref x,.str (fT "read" _ _ _),.ref fl]);rw[qed];exact qe
end
inductive JY (a:Ad) (vs:List V) (H:Hp) (Q:VK):Prop
 | mk (e:Ent) (fl:Addr) (h1:vs=[.ref e.x,.str e.nm,.ref fl]) (h2:Sg a H e fl) (h3:∀ H',Same H H'->Q (.bl true) H'):JY a vs H Q
def qax (a:Ad):Sp:=fun vs H Q _=>JY a vs H Q
theorem qbU (v:V):(!decide (v=v))=false:=by rw[decide_eq_true rfl];rfl
theorem qh4 (i j:Int):PyData.eqv (.tuple [.int i,.int j]) (.tuple [.int i,.int j])=true:=by simp[PyData.eqv,PyData.eqvAll]
section
variable {P:Program}{w:World}{K:Frag}{mg:Str->Option Value}{base:Heap}
theorem qcp {a:Ad} (T:Txt K mg a):qB P w K mg base CX0 2 a.f_f a.fd_f ["_law_entry","_law_name_here","_law_fields"] (qax a):=by
 have G_A:=qdJ (P:=P) (w:=w) (base:=base) T;have G_n:=ZX (P:=P) (w:=w) (base:=base) T;have G_p:=Zl (P:=P) (w:=w) (base:=base) T;have G_q:=qai (P:=P) (w:=w) (base:=base) T;have G_s:=QR (P:=P) (w:=w) (base:=base) T;have G_t:=jG (P:=P) (w:=w) (base:=base) T;refine T.d_f.F.ok sc_Llike (fun vs H Q E h=>?_) (fun cdv A outer s H vs Q E hr h=>?_)
 · obtain⟨e,fl,rfl,sg,kk⟩:=h;rfl
 · obtain⟨e,fl,rfl,sg,kk⟩:=h;have hU:=hr.units;have h_A:Room (1) _:=hr.mono (by decide);have h_n:Room (1) _:=hr.mono (by decide);have h_p:Room (1) _:=hr.mono (by decide);have h_q:Room (1) _:=hr.mono (by decide);have h_s:Room (1) _:=hr.mono (by decide);have h_t:Room (1) _:=hr.mono (by decide)
   refine⟨_,(qc (qA (i:=3) sc_Llike.nd rfl (Or.inl rfl) (qL (r:=rIx K) qC (pv 2) qd (fun _ _=>rfl)))
     (qc (qP (PW.pt (ZS (ze (qM (qp (r:=qa1 K) qS (by rfl) T.n_isinstance qg (qa (pv 0) (qa (qH (v:=.ref a.c_Entry) rfl T.g_Entry rfl) qb))))) (ZS (qM (qp (r:=qa1 K) qS (by rfl) T.n_isinstance qg (qa (pv 0) (qa (qH (v:=.ref a.c_Joint) rfl T.g_Joint rfl) qb)))) (ZS (qD (uNe hU) (PE.or (qO (pv 0) T.cl_Entry T.d_n.mt G_n h_n T.d_n.b .nil qv) (PE.or (qO (pv 0) T.cl_Within T.d_p.mt G_p h_p T.d_p.b .nil qv) (PE.or (qO (pv 0) T.cl_At T.d_q.mt G_q h_q T.d_q.b .nil qv) (PE.or (qO (pv 0) T.cl_Between T.d_s.mt G_s h_s T.d_s.b .nil qv) (qO (pv 0) T.cl_Read T.d_t.mt G_t h_t T.d_t.b .nil qv))))) (pv 3) (qF _)) (Zi (qD (uNe hU) (zG (pv 0) rfl) (pv 1) (qF _)))))))
       (qf (qu jQ))
       qw)
     (qc (qP (PW.pt (ZS (qD (uNe hU) (qp (r:=qa1 K) qS (by rfl) T.n_isinstance qg (qa (pv 0) (qa (qH (v:=.ref a.c_At) rfl T.g_At rfl) qb))) (Qi (uEq hU) (pv 3) qt (qF _)) (qF _)) (Zi (qD (uNe hU) (qp (r:=qa1 K) qS (by rfl) T.n_isinstance qg (qa (pv 0) (qa (qH (v:=.ref a.c_Read) rfl T.g_Read rfl) qb))) (Qi (uEq hU) (pv 3) qt (qF _)) (qF _)))))
       (qf (qu jQ))
       qw)
     (qc (qP (qM (qp (r:=qa1 K) qS (by rfl) T.n_isinstance qg (qa (pv 0) (qa (qH (v:=.ref a.c_Within) rfl T.g_Within rfl) qb))))
       (qc (qA (i:=4) sc_Llike.nd rfl (Or.inl rfl) (zE (qa (zG (pv 0) rfl) (qa (zG (pv 0) rfl) qb))))
       (qf (qP (qD (r:=rIn K true) jD (pv 3) (qZ (qa qt (qa qt qb))) (by with_unfolding_all rfl))
         (qf (qu jQ))
         qw)))
       (qf (qP (qM (qp (r:=qa1 K) qS (by rfl) T.n_isinstance qg (qa (pv 0) (qa (qH (v:=.ref a.c_Between) rfl T.g_Between rfl) qb))))
         (qc (qA (i:=4) sc_Llike.nd rfl (Or.inl rfl) (zE (qa (zG (pv 0) rfl) (qa (zG (pv 0) rfl) qb))))
         (qf (qP (PW.pt (ZS (qD (r:=rIn K true) jD (pv 3) (qZ (qa qt (qa qt qb))) (by with_unfolding_all rfl)) (Zi (qD (uNe hU) (zG (pv 0) rfl) (qL (r:=rIx K) qC (pv 2) qd (fun _ _=>rfl)) (qF _)))))
           (qf (qu jQ))
           qw)))
         (qf (qu (Qi (uEq hU) (pv 3) qt (qF _)))))))
     (qf (qu (zR (qq G_A h_A rfl T.d_A.m T.d_A.k T.d_A.b .nil qv (qa (qL (r:=rIx K) qC (pv 4) qd (fun _ _=>rfl)) qb)) (zR (qq G_A h_A rfl T.d_A.m T.d_A.k T.d_A.b .nil qv (qa (qL (r:=rIx K) qC (pv 4) qd (fun _ _=>rfl)) qb)) (Zj (Qi (uEq hU) (pv 4) (zw (r:=qiX K) qg7 (pv 2) (za qd) (za qd)) (qF _))))))))))),?_⟩
   try dsimp only [zc,Cx.nox]
   obtain⟨en,bd,hf⟩:=sg;obtain⟨x,wd,nm,pl,lo,hi⟩:=e;dsimp only at en bd kk ⊢
   cases en with
   | @any dx _ hx =>
     have hf:H fl=some (.tup [.str "any"]):=hf.trans (congrArg (fun l=>some (HO.tup l)) (qeb _ _ _ _ _));refine⟨_,rfl,.inr (.inl ⟨fl,_,_,_,rfl,rfl,SqT.of hf,rfl,?_⟩)⟩;(try unfold qy);(try dsimp only);refine⟨_,rfl,_,_,_,_,rfl,T.io_Entry.ty hx,z4 T,true,rfl,qK rfl ⟨_,rfl,_,_,_,_,rfl,T.io_Entry.ty hx,z0 T,false,rfl,Zq ?_⟩⟩;refine Or.inl ⟨_,rfl,x,dx,_,rfl,hx,rfl,_,rfl,_,rfl,.inl ⟨rfl,_,rfl,qK (by decide) ?_⟩⟩;refine⟨_,rfl,x,_,dx,_,_,rfl,hx,T.cl_Entry,T.n_Entry_name,rfl,_,rfl,.inl ⟨rfl,_,rfl,qK (qbU _) ?_⟩⟩;(try unfold qy);(try dsimp only);refine⟨_,rfl,_,_,_,_,rfl,T.io_Entry.ty hx,Jy T,_,rfl,.inl ⟨rfl,.inl ⟨rfl,_,rfl,qK (by decide) ?_⟩⟩⟩;refine⟨_,rfl,_,_,_,_,rfl,T.io_Entry.ty hx,ZY T,_,rfl,.inl ⟨rfl,.inl ⟨rfl,_,rfl,qK (by decide) ?_⟩⟩⟩;(try unfold qy);(try dsimp only);refine⟨_,rfl,_,_,_,_,rfl,T.io_Entry.ty hx,QY T,false,rfl,Zq ⟨_,rfl,_,_,_,_,rfl,T.io_Entry.ty hx,Qw T,false,rfl,Zq ?_⟩⟩;refine⟨_,rfl,.inl ⟨rfl,?_⟩⟩;rw[decide_eq_true rfl];exact kk H (Same.refl H)
   | @within dx _ _ _ hx =>
     have hf:H fl=some (.tup [.str "within",.int lo,.int hi]):=hf.trans (congrArg (fun l=>some (HO.tup l)) (qaq _ _ _ _ _));refine⟨_,rfl,.inr (.inl ⟨fl,_,_,_,rfl,rfl,SqT.of hf,rfl,?_⟩)⟩;(try unfold qy);(try dsimp only);refine⟨_,rfl,_,_,_,_,rfl,T.io_Within.ty hx,zL T,true,rfl,qK rfl ⟨_,rfl,_,_,_,_,rfl,T.io_Within.ty hx,zK T,false,rfl,Zq ?_⟩⟩;refine Or.inr <| Or.inl ⟨_,rfl,x,dx,_,rfl,hx,rfl,_,rfl,_,rfl,.inl ⟨rfl,_,rfl,qK (by decide) ?_⟩⟩;refine⟨_,rfl,x,_,dx,_,_,rfl,hx,T.cl_Within,T.n_Within_name,rfl,_,rfl,.inl ⟨rfl,_,rfl,qK (qbU _) ?_⟩⟩;(try unfold qy);(try dsimp only);refine⟨_,rfl,_,_,_,_,rfl,T.io_Within.ty hx,jJ T,_,rfl,.inl ⟨rfl,.inl ⟨rfl,_,rfl,qK (by decide) ?_⟩⟩⟩;refine⟨_,rfl,_,_,_,_,rfl,T.io_Within.ty hx,zZ T,_,rfl,.inl ⟨rfl,.inl ⟨rfl,_,rfl,qK (by decide) ?_⟩⟩⟩;(try unfold qy);(try dsimp only);refine⟨_,rfl,_,_,_,_,rfl,T.io_Within.ty hx,zr T,true,rfl,Q6 ?_⟩;refine⟨_,rfl,x,_,dx,_,_,rfl,hx,T.cl_Within,T.n_Within_low,rfl,_,rfl,x,_,dx,_,_,rfl,hx,T.cl_Within,T.n_Within_high,rfl,qj (Nat.le_of_ble_eq_true rfl),fun t ft=>?_⟩;generalize hG:upd H t _=H1;obtain⟨S1,et⟩:=qo hG ft;clear hG;have hf1:=S1 _ _ hf;have hx1:=S1 _ _ hx;(try unfold qy);(try dsimp only);refine⟨_,rfl,qj (Nat.le_of_ble_eq_true rfl),fun q fq=>?_⟩;generalize hG:upd H1 q _=H2;obtain⟨S2,eq⟩:=qo hG fq;clear hG;refine⟨q,_,rfl,.inl (SqL.of eq),rfl,rfl,_,rfl,Zq ?_⟩;have hf2:=S2 _ _ hf1;have hx2:=S2 _ _ hx1;have et2:=S2 _ _ et;(try unfold qy);(try dsimp only);refine⟨_,rfl,.inr (.inl ⟨t,_,_,_,rfl,rfl,SqT.of et2,rfl,_,rfl,true,rfl,Q6 ?_⟩)⟩;refine⟨_,rfl,.inr (.inl ⟨t,_,_,_,rfl,rfl,SqT.of et2,rfl,_,rfl,true,rfl,Q6 ?_⟩)⟩;refine⟨_,rfl,_,rfl,_,rfl,_,rfl,fl,_,rfl,SqT.of hf2,(by intro z;have z1:HT.sIx 3 0 (some 1)=0:=z.1;exact absurd z1 (by decide)),fun p fp=>?_⟩;refine .inr ⟨_,_,.tup (.inl ((Same.new _ fp) _ _ et2)) (.cons (.int lo) (.cons (.int hi) .nil)),.tup (.inl qe) (.cons (.int lo) (.cons (.int hi) .nil)),rfl,rfl,?_⟩;rw[qh4];exact kk _ (S1.trans (S2.trans (Same.new _ fp)))
   | @at_ dx _ _ hx =>
     have hf:H fl=some (.tup [.str "at",.int lo,.int lo]):=hf.trans (congrArg (fun l=>some (HO.tup l)) (qfR _ _ _ _ _));refine⟨_,rfl,.inr (.inl ⟨fl,_,_,_,rfl,rfl,SqT.of hf,rfl,?_⟩)⟩;(try unfold qy);(try dsimp only);refine⟨_,rfl,_,_,_,_,rfl,T.io_At.ty hx,Zx T,true,rfl,qK rfl ⟨_,rfl,_,_,_,_,rfl,T.io_At.ty hx,Zw T,false,rfl,Zq ?_⟩⟩;refine Or.inr <| Or.inr <| Or.inl ⟨_,rfl,x,dx,_,rfl,hx,rfl,_,rfl,_,rfl,.inl ⟨rfl,_,rfl,qK (by decide) ?_⟩⟩;refine⟨_,rfl,x,_,dx,_,_,rfl,hx,T.cl_At,T.n_At_name,rfl,_,rfl,.inl ⟨rfl,_,rfl,qK (qbU _) ?_⟩⟩;(try unfold qy);(try dsimp only);refine⟨_,rfl,_,_,_,_,rfl,T.io_At.ty hx,qcu T,_,rfl,.inl ⟨rfl,.inl ⟨rfl,_,rfl,qK (by decide) ?_⟩⟩⟩;refine⟨_,rfl,_,_,_,_,rfl,T.io_At.ty hx,qan T,_,rfl,.inl ⟨rfl,.inl ⟨rfl,_,rfl,qK (by decide) ?_⟩⟩⟩;(try unfold qy);(try dsimp only);refine⟨_,rfl,_,_,_,_,rfl,T.io_At.ty hx,jK T,true,rfl,Q6 ?_⟩;refine⟨_,rfl,x,_,dx,_,_,rfl,hx,T.cl_At,T.n_At_low,rfl,_,rfl,x,_,dx,_,_,rfl,hx,T.cl_At,T.n_At_high,rfl,qj (Nat.le_of_ble_eq_true rfl),fun t ft=>?_⟩;generalize hG:upd H t _=H1;obtain⟨S1,et⟩:=qo hG ft;clear hG;have hf1:=S1 _ _ hf;have hx1:=S1 _ _ hx;(try unfold qy);(try dsimp only);refine⟨_,rfl,qj (Nat.le_of_ble_eq_true rfl),fun q fq=>?_⟩;generalize hG:upd H1 q _=H2;obtain⟨S2,eq⟩:=qo hG fq;clear hG;refine⟨q,_,rfl,.inl (SqL.of eq),rfl,rfl,_,rfl,Zq ?_⟩;have hf2:=S2 _ _ hf1;have hx2:=S2 _ _ hx1;have et2:=S2 _ _ et;(try unfold qy);(try dsimp only);refine⟨_,rfl,.inr (.inl ⟨t,_,_,_,rfl,rfl,SqT.of et2,rfl,_,rfl,true,rfl,Q6 ?_⟩)⟩;refine⟨_,rfl,.inr (.inl ⟨t,_,_,_,rfl,rfl,SqT.of et2,rfl,_,rfl,true,rfl,Q6 ?_⟩)⟩;refine⟨_,rfl,_,rfl,_,rfl,_,rfl,fl,_,rfl,SqT.of hf2,(by intro z;have z1:HT.sIx 3 0 (some 1)=0:=z.1;exact absurd z1 (by decide)),fun p fp=>?_⟩;refine .inr ⟨_,_,.tup (.inl ((Same.new _ fp) _ _ et2)) (.cons (.int lo) (.cons (.int lo) .nil)),.tup (.inl qe) (.cons (.int lo) (.cons (.int lo) .nil)),rfl,rfl,?_⟩;rw[qh4];exact kk _ (S1.trans (S2.trans (Same.new _ fp)))
   | @between dx _ _ _ _ hx =>
     have hf:H fl=some (.tup [.str "between",.int lo,.int hi,.str pl]):=hf.trans (congrArg (fun l=>some (HO.tup l)) (JD _ _ _ _ _));refine⟨_,rfl,.inr (.inl ⟨fl,_,_,_,rfl,rfl,SqT.of hf,rfl,?_⟩)⟩;(try unfold qy);(try dsimp only);refine⟨_,rfl,_,_,_,_,rfl,T.io_Between.ty hx,zu T,true,rfl,qK rfl ⟨_,rfl,_,_,_,_,rfl,T.io_Between.ty hx,zt T,false,rfl,Zq ?_⟩⟩;refine Or.inr <| Or.inr <| Or.inr <| Or.inl ⟨_,rfl,x,dx,_,rfl,hx,rfl,_,rfl,_,rfl,.inl ⟨rfl,_,rfl,qK (by decide) ?_⟩⟩;refine⟨_,rfl,x,_,dx,_,_,rfl,hx,T.cl_Between,T.n_Between_name,rfl,_,rfl,.inl ⟨rfl,_,rfl,qK (qbU _) ?_⟩⟩;(try unfold qy);(try dsimp only);refine⟨_,rfl,_,_,_,_,rfl,T.io_Between.ty hx,ZZ T,_,rfl,.inl ⟨rfl,.inl ⟨rfl,_,rfl,qK (by decide) ?_⟩⟩⟩;refine⟨_,rfl,_,_,_,_,rfl,T.io_Between.ty hx,Q0 T,_,rfl,.inl ⟨rfl,.inl ⟨rfl,_,rfl,qK (by decide) ?_⟩⟩⟩;(try unfold qy);(try dsimp only);refine⟨_,rfl,_,_,_,_,rfl,T.io_Between.ty hx,Qd T,false,rfl,Zq <| ⟨_,rfl,_,_,_,_,rfl,T.io_Between.ty hx,zS T,true,rfl,Q6 ?_⟩⟩;refine⟨_,rfl,x,_,dx,_,_,rfl,hx,T.cl_Between,T.n_Between_low,rfl,_,rfl,x,_,dx,_,_,rfl,hx,T.cl_Between,T.n_Between_high,rfl,qj (Nat.le_of_ble_eq_true rfl),fun t ft=>?_⟩;generalize hG:upd H t _=H1;obtain⟨S1,et⟩:=qo hG ft;clear hG;have hf1:=S1 _ _ hf;have hx1:=S1 _ _ hx;(try unfold qy);(try dsimp only);refine⟨_,rfl,qj (Nat.le_of_ble_eq_true rfl),fun q fq=>?_⟩;generalize hG:upd H1 q _=H2;obtain⟨S2,eq⟩:=qo hG fq;clear hG;refine⟨q,_,rfl,.inl (SqL.of eq),rfl,rfl,_,rfl,Zq ?_⟩;have hf2:=S2 _ _ hf1;have hx2:=S2 _ _ hx1;have et2:=S2 _ _ et;refine⟨_,rfl,x,_,dx,_,_,rfl,hx2,T.cl_Between,T.n_Between_place,rfl,_,rfl,.inr (.inl ⟨fl,_,_,_,rfl,rfl,SqT.of hf2,rfl,.inl ⟨rfl,_,rfl,qK (qbU _) ?_⟩⟩)⟩;(try unfold qy);(try dsimp only);refine⟨_,rfl,.inr (.inl ⟨t,_,_,_,rfl,rfl,SqT.of et2,rfl,_,rfl,true,rfl,Q6 ?_⟩)⟩;refine⟨_,rfl,.inr (.inl ⟨t,_,_,_,rfl,rfl,SqT.of et2,rfl,_,rfl,true,rfl,Q6 ?_⟩)⟩;refine⟨_,rfl,_,rfl,_,rfl,_,rfl,fl,_,rfl,SqT.of hf2,(by intro z;have z1:HT.sIx 4 0 (some 1)=0:=z.1;exact absurd z1 (by decide)),fun p fp=>?_⟩;refine .inr ⟨_,_,.tup (.inl ((Same.new _ fp) _ _ et2)) (.cons (.int lo) (.cons (.int hi) .nil)),.tup (.inl qe) (.cons (.int lo) (.cons (.int hi) .nil)),rfl,rfl,?_⟩;rw[qh4];exact kk _ (S1.trans (S2.trans (Same.new _ fp)))
   | @read dx _ _ _ hx =>
     have hf:H fl=some (.tup [.str "read",.int lo,.int lo,.str pl]):=hf.trans (congrArg (fun l=>some (HO.tup l)) (qcz _ _ _ _ _));refine⟨_,rfl,.inr (.inl ⟨fl,_,_,_,rfl,rfl,SqT.of hf,rfl,?_⟩)⟩;(try unfold qy);(try dsimp only);refine⟨_,rfl,_,_,_,_,rfl,T.io_Read.ty hx,Ql T,true,rfl,qK rfl ⟨_,rfl,_,_,_,_,rfl,T.io_Read.ty hx,Qk T,false,rfl,Zq ?_⟩⟩;refine Or.inr <| Or.inr <| Or.inr <| Or.inr <| ⟨_,rfl,x,dx,_,rfl,hx,rfl,_,rfl,_,rfl,.inl ⟨rfl,_,rfl,qK (by decide) ?_⟩⟩;refine⟨_,rfl,x,_,dx,_,_,rfl,hx,T.cl_Read,T.n_Read_name,rfl,_,rfl,.inl ⟨rfl,_,rfl,qK (qbU _) ?_⟩⟩;(try unfold qy);(try dsimp only);refine⟨_,rfl,_,_,_,_,rfl,T.io_Read.ty hx,qam T,_,rfl,.inl ⟨rfl,.inl ⟨rfl,_,rfl,qK (by decide) ?_⟩⟩⟩;refine⟨_,rfl,_,_,_,_,rfl,T.io_Read.ty hx,QX T,_,rfl,.inl ⟨rfl,.inl ⟨rfl,_,rfl,qK (by decide) ?_⟩⟩⟩;(try unfold qy);(try dsimp only);refine⟨_,rfl,_,_,_,_,rfl,T.io_Read.ty hx,JT T,false,rfl,Zq <| ⟨_,rfl,_,_,_,_,rfl,T.io_Read.ty hx,Jx T,true,rfl,Q6 ?_⟩⟩;refine⟨_,rfl,x,_,dx,_,_,rfl,hx,T.cl_Read,T.n_Read_low,rfl,_,rfl,x,_,dx,_,_,rfl,hx,T.cl_Read,T.n_Read_high,rfl,qj (Nat.le_of_ble_eq_true rfl),fun t ft=>?_⟩;generalize hG:upd H t _=H1;obtain⟨S1,et⟩:=qo hG ft;clear hG;have hf1:=S1 _ _ hf;have hx1:=S1 _ _ hx;(try unfold qy);(try dsimp only);refine⟨_,rfl,qj (Nat.le_of_ble_eq_true rfl),fun q fq=>?_⟩;generalize hG:upd H1 q _=H2;obtain⟨S2,eq⟩:=qo hG fq;clear hG;refine⟨q,_,rfl,.inl (SqL.of eq),rfl,rfl,_,rfl,Zq ?_⟩;have hf2:=S2 _ _ hf1;have hx2:=S2 _ _ hx1;have et2:=S2 _ _ et;refine⟨_,rfl,x,_,dx,_,_,rfl,hx2,T.cl_Read,T.n_Read_place,rfl,_,rfl,.inr (.inl ⟨fl,_,_,_,rfl,rfl,SqT.of hf2,rfl,.inl ⟨rfl,_,rfl,qK (qbU _) ?_⟩⟩)⟩;(try unfold qy);(try dsimp only);refine⟨_,rfl,.inr (.inl ⟨t,_,_,_,rfl,rfl,SqT.of et2,rfl,_,rfl,true,rfl,Q6 ?_⟩)⟩;refine⟨_,rfl,.inr (.inl ⟨t,_,_,_,rfl,rfl,SqT.of et2,rfl,_,rfl,true,rfl,Q6 ?_⟩)⟩;refine⟨_,rfl,_,rfl,_,rfl,_,rfl,fl,_,rfl,SqT.of hf2,(by intro z;have z1:HT.sIx 4 0 (some 1)=0:=z.1;exact absurd z1 (by decide)),fun p fp=>?_⟩;refine .inr ⟨_,_,.tup (.inl ((Same.new _ fp) _ _ et2)) (.cons (.int lo) (.cons (.int lo) .nil)),.tup (.inl qe) (.cons (.int lo) (.cons (.int lo) .nil)),rfl,rfl,?_⟩;rw[qh4];exact kk _ (S1.trans (S2.trans (Same.new _ fp)))
end
theorem TbD.same {a:Ad}{H H':Hp} (h:TbD a H) (s:Same H H'):TbD a H':=by
 obtain⟨ps,h1,h2,h3⟩:=h;exact⟨ps,s _ _ h1,h2,h3.imp id fun⟨c,e1,e2⟩=>⟨c,e1,s _ _ e2⟩⟩
theorem TbD.at_ {a:Ad}{H:Hp} (h:TbD a H):∃ ps,H a.t_on_days=some (.tbl ps):=let ⟨ps,h1,_⟩:=h;⟨ps,h1⟩
theorem up2 {H:Hp}{x dx:Addr}{o o':HO} (f1:H x=none) (f2:H dx=none):Same H (upd (upd H dx o) x o'):=fun b u e=>by
 rw[qi (qk e f1),qi (qk e f2)];exact e
theorem qdD {a:Ad}{H:Hp}{x:Addr}{nm:Str}{b:Bool} (h:Pn a H x nm b):Pns a H [x] [b]:=⟨rfl,fun i y c e1 e2=>by
 cases i with
 | zero=>cases e1;cases e2;exact⟨nm,h⟩
 | succ i=>cases e1⟩
theorem Same.but {H H':Hp} (t:Addr) (s:Same H H'):But t H H':=fun b o e _=>s b o e
theorem qe0:zg (.str "any")=true:=by decide +kernel
theorem qdT:zg (.str "read")=true:=by decide +kernel
theorem qbV:zg (.str "within")=true:=by decide +kernel
theorem qbW:zg (.str "sifted")=true:=by decide +kernel
def qh3:List Int:=(List.replicate 8 mm6).flatten
inductive jq (a:Ad) (vs:List V) (H:Hp) (Q:VK):Prop
 | mk (nm pl:Str) (d:Addr) (ds:List Int) (h1:vs=[.str nm,.str pl,.ref d]) (h2:H d=some (.lst (ds.map V.int))) (h3:Dr qh3 ds) (h4:zg (.str nm)=true) (h5:zg (.str pl)=true) (h6:TbD a H) (h7:∀ H',But a.t_on_days H H'->TbD a H'->Q (.bl true) H'):jq a vs H Q
def JW (a:Ad):Sp:=fun vs H Q _=>jq a vs H Q
section
variable {P:Program}{w:World}{K:Frag}{mg:Str->Option Value}{base:Heap}
theorem qcR {a:Ad} (T:Txt K mg a) (hB:qc6 mg base):qB P w K mg base CX0 9 a.f_V a.fd_V ["_law_name_here","_law_place","_law_draws_here"] (JW a):=by
 have G_v:=jH (P:=P) (w:=w) (base:=base) T;have G_g:=Jo (P:=P) (w:=w) (base:=base) T;have G_h:=zY (P:=P) (w:=w) (base:=base) T;have G_w:=Zm (P:=P) (w:=w) (base:=base) T;have G_j:qB P w K mg base CX0 1 a.f_j a.fd_j ["low","high"] (Z5 a):=qag T hB;refine T.d_V.F.ok sc_Lsifted (fun vs H Q E h=>?_) (fun cdv A outer s H vs Q E hr h=>?_)
 · obtain⟨nm,pl,d,ds,rfl,hd,dr,okn,okp,tb,kk⟩:=h;rfl
 · obtain⟨nm,pl,d,ds,rfl,hd,dr,okn,okp,tb,kk⟩:=h;have hU:=hr.units;have h_v:Room (7+1) _:=hr.mono (by decide);have h_g:Room (6) _:=hr.mono (by decide);have h_h:Room (5+1) _:=hr.mono (by decide);have h_w:Room (7+1) _:=hr.mono (by decide);have h_j:Room (1) _:=hr.mono (by decide)
   refine⟨_,(qc (qA (i:=3) sc_Lsifted.nd rfl (Or.inl rfl) (zF T.M_Read G_v h_v rfl T.g_Read T.d_v.b .nil qv (qa qt (qa (pv 1) (qa (qm Zk (qL (r:=rIx K) qC (pv 2) qd (fun _ _=>rfl)) (qm zo qd qd)) qb)))))
     (qc (qP (qD (uEq hU) (qm zb (qL (r:=rIx K) qC (pv 2) qd (fun _ _=>rfl)) qd) qd (qF _))
       (qc (qA (i:=4) sc_Lsifted.nd rfl (Or.inl rfl) (qp (qbz rfl) (by rfl) T.n_min qbB (qa (qL (r:=rIx K) qC (pv 2) qd (fun _ _=>rfl)) (qa (qm Zk (qm zo qd qd) qd) qb))))
       (qf (qA (i:=3) sc_Lsifted.nd rfl (Or.inl rfl) (zF T.M_Within G_h h_h rfl T.g_Within T.d_h.b .nil qv (qa qt (qa (pv 4) (qa (qm zk (pv 4) (qm zb (qL (r:=rIx K) qC (pv 2) qd (fun _ _=>rfl)) qd)) qb)))))))
       qw)
     (qf (qu (qq G_g h_g rfl T.d_g.m T.d_g.k T.d_g.b .nil qv (qa (zF T.M_Sifted G_w h_w rfl T.g_Sifted T.d_w.b .nil qv (qa (pv 0) (qa (pv 3) (qa (qq G_j h_j rfl T.d_j.m T.d_j.k T.d_j.b .nil qv (qa qd (qa (qm zo qd qd) qb))) qb)))) (qa (pv 0) qb))))))),?_⟩
   try dsimp only [zc,Cx.nox]
   obtain⟨d2,i2,a2,b2,c2⟩:=jh dr 2 (m:=1000000001) rfl (k:=2) rfl;obtain⟨d3,i3,a3,b3,c3⟩:=jh dr 3 (m:=1000000001) rfl (k:=3) rfl;obtain⟨d4,i4,a4,b4,c4⟩:=jh dr 4 (m:=20000000001) rfl (k:=4) rfl;have e10:((10:Int) ^ (10:Int).toNat)=10000000000:=by decide
   have e9:((10:Int) ^ (9:Int).toNat)=1000000000:=by decide
   refine⟨_,rfl,_,rfl,.inl ⟨d,_,_,_,rfl,rfl,SqL.of hd,a4,_,_,rfl,rfl,⟨by decide,by decide,by decide⟩,_,_,rfl,rfl,?_⟩⟩;rw[e10];refine fun x dx f1 f2 ne=>⟨x,dx,"read",pl,d4 - 10000000000,rfl,qe,qdT,okp,⟨by omega,by omega⟩,fun H1 B1 h1=>⟨rfl,?_⟩⟩
   have S1:=qV f1 f2 B1;have hd1:=S1 _ _ hd;(try unfold qy);(try dsimp only);refine qY (t:=qeI _ _ _) (fun σ' H'=>∃ (p:Addr) (wd pn ppl:Str) (lo hi:Int) (s4:Option V),σ'=[some (.str nm),some (.str pl),some (.ref d),some (.ref p),s4]∧Same H H'∧En a H' p wd pn ppl lo hi∧(wd="read"∨((wd="within"∨wd="at")∧hi - lo < 1000))) (fun N hN=>?_) ?_
   · refine⟨_,rfl,.inl ⟨d,_,_,_,rfl,rfl,SqL.of hd1,a2,_,_,rfl,rfl,(by show (0:Int) < _;decide),.inl ⟨rfl,_,rfl,Zz (fun g=>?_) (fun g=>?_)⟩⟩⟩
     · refine⟨_,rfl,.inl ⟨d,_,_,_,rfl,rfl,SqL.of hd1,a2,_,_,rfl,rfl,⟨by decide,by decide,by decide⟩,_,_,rfl,rfl,_,_,rfl,?_⟩⟩;rw[e9];obtain⟨lo,elo,l0,l1⟩:∃ lo:Int,(if (1000000000:Int) - 999 < d2 then (1000000000:Int) - 999 else d2)=lo∧0≤lo∧lo≤999999001:=⟨_,rfl,by split<;>omega,by split<;>omega⟩
       rw[elo];(try unfold qy);(try dsimp only);refine⟨_,rfl,_,rfl,_,rfl,.inl ⟨d,_,_,_,rfl,rfl,SqL.of hd1,a3,_,_,rfl,rfl,(by show (0:Int) < _;decide),.inl ⟨_,_,rfl,rfl,?_⟩⟩⟩;refine fun y dy g1 g2 ne=>⟨y,_,dy,"within",lo,_,rfl,qe,qbV,⟨by omega,by omega⟩,⟨by omega,by omega⟩,T.cl_Within,T.n_Within_name,T.n_Within_low,T.n_Within_high,fun H2 B2 h2=>⟨rfl,?_⟩⟩
       exact hN _ _ ⟨y,_,_,_,_,_,_,rfl,S1.trans (qV g1 g2 B2),.within h2,.inr ⟨.inl rfl,by omega⟩⟩
     · exact hN _ _ ⟨x,_,_,_,_,_,_,rfl,S1,.read h1,.inl rfl⟩
   rintro _ H2 ⟨p,wd,pn,ppl,lo,hi,s4,rfl,S2,en,hw⟩;(try unfold qy);(try dsimp only);refine⟨_,rfl,_,rfl,_,_,rfl,rfl,⟨by decide,by decide,by decide⟩,_,_,rfl,tb.same S2,fun f H3 ff B3 tb3=>?_⟩;obtain⟨ps,hps⟩:=(tb.same S2).at_;have en3:=en.mp (qic hps B3);refine fun y dy g1 g2 ne=>⟨y,dy,p,f,nm,wd,pn,ppl,lo,hi,rfl,qe,okn,en3.mp (fun _ _ _ e _=>up2 g1 g2 _ _ e),hw,fun H4 B4 h4=>⟨rfl,?_⟩⟩
   have S4:=qV g1 g2 B4;refine⟨_,rfl,y,nm,false,[y],[true],rfl,.one (.sf ⟨dy,p,f,h4⟩),Nat.le_of_ble_eq_true rfl,qdD (.sf ⟨dy,p,f,h4⟩),rfl,fun H5 S5=>?_⟩;exact kk H5 ((((Same.but _ S2).trans B3).same S4).same S5) ((tb3.same S4).same S5)
end
def Kl (H H':Hp):Prop:=∀ b o,H b=some o->(∀ xs,o≠.lst xs)->H' b=some o
theorem Kl.up {H:Hp}{q:Addr}{ys:List V} (h:H q=some (.lst ys)) (o:HO):Kl H (upd H q o):=fun b u e n=>by
 rw[qi (fun z=>by rw[z,h]at e;cases e;exact n _ rfl)];exact e
theorem Kl.trans {H H' H'':Hp} (h:Kl H H') (k:Kl H' H''):Kl H H'':=fun b o e n=>k b o (h b o e n) n
theorem Sg.kl {a:Ad}{H H':Hp}{e:Ent}{fl:Addr} (h:Sg a H e fl) (k:Kl H H'):Sg a H' e fl:=h.mp (fun _ _ _ z _=>k _ _ z (by intro xs z;cases z)) (fun z=>k _ _ z (by intro xs z;cases z))
def pN (j:Nat):Str:=⟨(List.replicate (1+j) 112).toArray⟩
theorem qiw:∀ j:Nat,j < 8->zg (.str (pN j))=true:=by decide +kernel
theorem qho {i:Nat}{k:Int} (h:k=(i:Int)):(⟨(List.replicate (1+k).toNat 112).toArray⟩:Str)=pN i:=by
 subst h;unfold pN;rw[show (1+(i:Int)).toNat=1+i by omega]
structure Js (a:Ad) (H:Hp) (q3 q4 q5:Addr) (es:List Ent) (fls:List Addr) (n:Nat):Prop where
 h3:H q3=some (.lst (rfs (es.map Ent.x)))
 h4:H q4=some (.lst ((es.map fE).map V.str))
 h5:H q5=some (.lst (rfs fls))
 l1:es.length=n
 l2:fls.length=n
 sg:∀ (j:Nat) (e:Ent) (f:Addr),es[j]?=some e->fls[j]?=some f->Sg a H e f∧e.nm=pN j
theorem Js.same {a:Ad}{H H':Hp}{q3 q4 q5:Addr}{es:List Ent}{fls:List Addr}{n:Nat} (h:Js a H q3 q4 q5 es fls n) (s:Same H H'):Js a H' q3 q4 q5 es fls n :=
 ⟨s _ _ h.h3,s _ _ h.h4,s _ _ h.h5,h.l1,h.l2,fun j e f e1 e2=>let ⟨x,y⟩:=h.sg j e f e1 e2;⟨x.same s,y⟩⟩
theorem Js.kn {a:Ad}{H H':Hp}{q3 q4 q5:Addr}{es:List Ent}{fls:List Addr}{n:Nat} (h:Js a H q3 q4 q5 es fls n) (k:∀ b o,H b=some o->(∀ ps,o≠.tbl ps)->H' b=some o):Js a H' q3 q4 q5 es fls n :=
 ⟨k _ _ h.h3 (by intro ps z;cases z),k _ _ h.h4 (by intro ps z;cases z),k _ _ h.h5 (by intro ps z;cases z),h.l1,h.l2,fun j e f e1 e2=>let ⟨x,y⟩:=h.sg j e f e1 e2;⟨x.mp (fun _ _ _ z _=>k _ _ z (by intro ps z;cases z)) (fun z=>k _ _ z (by intro ps z;cases z)),y⟩⟩
theorem qiD {H H':Hp}{t:Addr}{ps:Array Value} (ht:H t=some (.tbl ps)) (b:But t H H'):∀ c o,H c=some o->(∀ ps,o≠.tbl ps)->H' c=some o:=fun c o e n=>b c o e fun z=>by rw[z,ht]at e;cases e;exact n _ rfl
theorem TbD.kl {a:Ad}{H H':Hp} (h:TbD a H) (s:Kl H H'):TbD a H':=by
 obtain⟨ps,h1,h2,h3⟩:=h;exact⟨ps,s _ _ h1 (by intro xs z;cases z),h2,h3.imp id fun⟨c,e1,e2⟩=>⟨c,e1,s _ _ e2 (by intro xs z;cases z)⟩⟩
theorem Js.en {a:Ad}{H:Hp}{q3 q4 q5:Addr}{es:List Ent}{fls:List Addr}{n:Nat} (h:Js a H q3 q4 q5 es fls n) {e:Ent} (m:e∈es):EnE a H e∧BdE e:=by
 obtain⟨j,hj,rfl⟩:=List.mem_iff_getElem.mp m;obtain⟨s,_⟩:=h.sg j es[j] (fls[j]'(by rw[h.l2,← h.l1];exact hj)) (List.getElem?_eq_getElem hj) (List.getElem?_eq_getElem _);exact⟨s.en,s.bd⟩
theorem Js.push {a:Ad}{G:Hp}{q3 q4 q5:Addr}{es:List Ent}{fls:List Addr}{n:Nat} (h:Js a G q3 q4 q5 es fls n) (n34:q3≠q4) (n35:q3≠q5) (n45:q4≠q5) {e:Ent}{fl:Addr} (s:Sg a G e fl) (en:e.nm=pN n) :
   Js a (upd (upd (upd G q3 (.lst (rfs (es.map Ent.x)++[.ref e.x]))) q4 (.lst ((es.map fE).map V.str++[.str (fE e)]))) q5 (.lst (rfs fls++[.ref fl]))) q3 q4 q5 (es++[e]) (fls++[fl]) (n+1):=by
 have k:Kl G (upd (upd (upd G q3 (.lst (rfs (es.map Ent.x)++[.ref e.x]))) q4 (.lst ((es.map fE).map V.str++[.str (fE e)]))) q5 (.lst (rfs fls++[.ref fl]))) :=
   (Kl.up h.h3 _).trans ((Kl.up (by rw[qi n34.symm];exact h.h4) _).trans (Kl.up (by rw[qi n45.symm,qi n35.symm];exact h.h5) _))
 refine⟨by rw[qi n35,qi n34,qe];show _=some (HO.lst (List.map V.ref (List.map Ent.x (es++[e]))));rw[List.map_append,List.map_append];rfl,by rw[qi n45,qe,List.map_append,List.map_append];rfl,by rw[qe];show _=some (HO.lst (List.map V.ref (fls++[fl])));rw[List.map_append];rfl,by rw[List.length_append,h.l1];rfl,by rw[List.length_append,h.l2];rfl,fun j e' f' e1 e2=>?_⟩;by_cases lt:j < n
 · rw[List.getElem?_append_left (by rw[h.l1];exact lt)]at e1;rw[List.getElem?_append_left (by rw[h.l2];exact lt)]at e2;obtain⟨x,y⟩:=h.sg j e' f' e1 e2;exact⟨x.kl k,y⟩
 · have jl:=(List.getElem?_eq_some_iff.mp e1).1;rw[List.length_append,h.l1]at jl;have ej:j=n:=by simp at jl;omega
   subst ej;rw[List.getElem?_append_right (by rw[h.l1];omega),h.l1,Nat.sub_self]at e1;rw[List.getElem?_append_right (by rw[h.l2];omega),h.l2,Nat.sub_self]at e2;cases e1;cases e2;exact⟨s.kl k,en⟩
theorem qgq {a:Ad}{H:Hp}{xs:List Addr}{bs:List Bool}{x:Addr}{nm:Str}{b:Bool} (h:Pns a H xs bs) (p:Pn a H x nm b) (j:Nat):Pns a H (xs.set j x) (bs.set j b):=by
 refine⟨by rw[List.length_set,List.length_set];exact h.1,fun i y c e1 e2=>?_⟩;by_cases z:j=i
 · subst z;have l1:j < xs.length:=by have:=(List.getElem?_eq_some_iff.mp e1).1;rwa [List.length_set]at this
   rw[List.getElem?_set_self l1]at e1;rw[List.getElem?_set_self (by rw[← h.1];exact l1)]at e2;cases e1;cases e2;exact⟨nm,p⟩
 · rw[List.getElem?_set_ne z]at e1 e2;exact h.2 i y c e1 e2
theorem qgM {bs:List Bool}{j:Nat} (h:j < bs.length):(bs.set j true).any id=true:=List.any_eq_true.mpr ⟨true,List.mem_of_getElem? (List.getElem?_set_self h),rfl⟩
theorem Pns.pt {a:Ad}{H:Hp}{xs:List Addr}{bs:List Bool} (h:Pns a H xs bs):∀ x∈xs,Pt a H x:=fun x m=>by
 obtain⟨j,hj,rfl⟩:=List.mem_iff_getElem.mp m;obtain⟨nm,p⟩:=h.2 j _ (bs[j]'(by rw[← h.1];exact hj)) (List.getElem?_eq_getElem hj) (List.getElem?_eq_getElem _);exact p.pt
theorem Pns.mp {a:Ad}{H H':Hp}{xs:List Addr}{bs:List Bool} (h:Pns a H xs bs) (k:∀ x C d fs,H x=some (.ins C d fs)->fs≠[]->H' x=some (.ins C d fs)):Pns a H' xs bs:=⟨h.1,fun i x b e1 e2=>let ⟨nm,q⟩:=h.2 i x b e1 e2;⟨nm,q.mp (k x)⟩⟩
def jn50:List Int:=[8,24]++qh3
theorem qgB:∀ k:Nat,k < 8->(jn50.drop (2+6 * k)).take 6=mm6:=by decide +kernel
theorem Dr.cut {ms ds:List Int} (h:Dr ms ds) (i n:Nat):Dr ((ms.drop i).take n) ((ds.drop i).take n):=by
 refine⟨by rw[List.length_take,List.length_take,List.length_drop,List.length_drop,h.1],fun j m d e1 e2=>?_⟩;rw[List.getElem?_take]at e1 e2;split at e1
 · rw[if_pos (by assumption)]at e2;rw[List.getElem?_drop]at e1 e2;exact h.2 _ m d e1 e2
 · cases e1
theorem qby {ds:List Int}{lo hi:Int}{i j:Nat} (e1:lo=(i:Int)) (e2:hi=(j:Int)) (h:j≤ds.length) (hij:i≤j):qc4 (ds.map V.int) (some lo) (some hi)=((ds.drop i).take (j - i)).map V.int:=by
 subst e1 e2;unfold qc4;rw[HT.sIx_nat,HT.sIx_nat,List.length_map,Nat.min_eq_left h,Nat.min_eq_left (Nat.le_trans hij h),List.map_take,List.map_drop]
theorem qfT (e:Ent):fE e=jT false (fJs [e]):=by
 unfold jT;rw[if_neg (by decide)];exact(qfM _ _).symm
inductive j3 (a:Ad) (vs:List V) (H:Hp) (Q:VK):Prop
 | mk (nm pl:Str) (d:Addr) (ds:List Int) (h1:vs=[.str nm,.str pl,.ref d]) (h2:H d=some (.lst (ds.map V.int))) (h3:Dr jn50 ds) (h4:zg (.str nm)=true) (h5:zg (.str pl)=true) (h6:TbD a H) (h7:∀ H',But a.t_on_days H H'->TbD a H'->Q (.bl true) H'):j3 a vs H Q
def qa7 (a:Ad):Sp:=fun vs H Q _=>j3 a vs H Q
section
variable {P:Program}{w:World}{K:Frag}{mg:Str->Option Value}{base:Heap}
theorem qdM {a:Ad} (T:Txt K mg a) (hB:qc6 mg base):qB P w K mg base CX0 10 a.f_U a.fd_U ["_law_name_here","_law_place","_law_draws_here"] (qa7 a):=by
 have G_W:=qaQ (P:=P) (w:=w) (base:=base) T;have G_e:=qah (P:=P) (w:=w) (base:=base) T;have G_w:=Zm (P:=P) (w:=w) (base:=base) T;have G_u:=qaj (P:=P) (w:=w) (base:=base) T;have G_j:qB P w K mg base CX0 1 a.f_j a.fd_j ["low","high"] (Z5 a):=qag T hB;have G_g:=Jo (P:=P) (w:=w) (base:=base) T;have G_a:=qfG (P:=P) (w:=w) (base:=base) T;have G_f:=qcp (P:=P) (w:=w) (base:=base) T;have G_i:=Zn (P:=P) (w:=w) (base:=base) T;refine T.d_U.F.ok sc_Ljoint (fun vs H Q E h=>?_) (fun cdv A outer s H vs Q E hr h=>?_)
 · obtain⟨nm,pl,d,ds,rfl,hd,dr,okn,okp,tb,kk⟩:=h;rfl
 · obtain⟨nm,pl,d,ds,rfl,hd,dr,okn,okp,tb,kk⟩:=h;have hU:=hr.units;have h_W:Room (5+1) _:=hr.mono (by decide);have h_e:Room (9) _:=hr.mono (by decide);have h_w:Room (7+1) _:=hr.mono (by decide);have h_u:Room (7+1) _:=hr.mono (by decide);have h_j:Room (1) _:=hr.mono (by decide);have h_g:Room (6) _:=hr.mono (by decide);have h_a:Room (6) _:=hr.mono (by decide);have h_f:Room (2) _:=hr.mono (by decide);have h_i:Room (1) _:=hr.mono (by decide)
   refine⟨_,(qc (qA (i:=3) sc_Ljoint.nd rfl (Or.inl rfl) (qZ qb))
     (qc (qA (i:=4) sc_Ljoint.nd rfl (Or.inl rfl) (qZ qb))
     (qc (qA (i:=5) sc_Ljoint.nd rfl (Or.inl rfl) (qZ qb))
     (qc (Jj PassesOwn.never rfl (ZU rfl T.n_range (qa (qm zk qd (qL (r:=rIx K) qC (pv 2) qd (fun _ _=>rfl))) qb)) (qE (i:=6) (sc_Ljoint.nd) rfl (Or.inl rfl))
       (qc (qac (qq G_e h_e rfl T.d_e.m T.d_e.k T.d_e.b .nil qv (qa (qm qaI qt (qm zk qd (pv 6))) (qa (pv 1) (qa (zw uSl (pv 2) (za (qm zk qd (qm zp qd (pv 6)))) (za (qm zk qd (qm zp qd (pv 6))))) qb)))) (qae rfl (qI (qE (i:=7) (sc_Ljoint.nd) rfl (Or.inl rfl)) (qI (qE (i:=8) (sc_Ljoint.nd) rfl (Or.inl rfl)) (qI (qE (i:=9) (sc_Ljoint.nd) rfl (Or.inl rfl)) Zv)))))
       (qc (qN (Jk PySem.F.plainAttrs_list PySem.F.slot_list_append PySem.F.type_list_append zq (pv 3) (qa (pv 7) qb)))
       (qc (qN (Jk PySem.F.plainAttrs_list PySem.F.slot_list_append PySem.F.type_list_append zq (pv 4) (qa (pv 8) qb)))
       (qf (qN (Jk PySem.F.plainAttrs_list PySem.F.slot_list_append PySem.F.type_list_append zq (pv 5) (qa (pv 9) qb))))))))
     (qc (qP (qD qcN (qL (r:=rIx K) qC (pv 2) qd (fun _ _=>rfl)) qd (qF _))
       (qc (qA (i:=10) sc_Ljoint.nd rfl (Or.inl rfl) (qm zb (qL (r:=rIx K) qC (pv 2) qd (fun _ _=>rfl)) (qp zd (by rfl) T.n_len qW (qa (pv 3) qb))))
       (qf (qac (zF T.M_Sifted G_w h_w rfl T.g_Sifted T.d_w.b .nil qv (qa qt (qa (zF T.M_At G_u h_u rfl T.g_At T.d_u.b .nil qv (qa qt (qa (qL (r:=rIx K) qC (pv 2) (qm zk qd qd) (fun _ _=>rfl)) qb))) (qa (qq G_j h_j rfl T.d_j.m T.d_j.k T.d_j.b .nil qv (qa qd (qa (qL (r:=rIx K) qC (pv 2) qd (fun _ _=>rfl)) qb))) qb)))) (qfD (pv 3) (pv 10) qcc))))
       qw)
     (qc (qA (i:=11) sc_Ljoint.nd rfl (Or.inl rfl) (zF T.M_Joint G_W h_W rfl T.g_Joint T.d_W.b .nil qv (qa (pv 0) (qa (zH (r:=qis K) Q2 (by rfl) T.n_list Qf (qa (pv 3) qb)) qb))))
     (qc (qP (qD qcN (qL (r:=rIx K) qC (pv 2) qd (fun _ _=>rfl)) qd (qF _))
       (qf (qu (zR (qq G_g h_g rfl T.d_g.m T.d_g.k T.d_g.b .nil qv (qa (pv 11) (qa (pv 0) qb))) (Zj (qq G_g h_g rfl T.d_g.m T.d_g.k T.d_g.b .nil qv (qa (qL (r:=rIx K) qC (pv 3) (pv 10) (fun _ _=>rfl)) (qa qt qb)))))))
       qw)
     (qc (qA (i:=12) sc_Ljoint.nd rfl (Or.inl rfl) (qm zk qt (Jk PySem.F.plainAttrs_str PySem.F.slot_str_join PySem.F.type_str_join qaR qt (qa (pv 4) qb))))
     (qc (qP (PW.pt (ZS (ze (qM (qq G_a h_a rfl T.d_a.m T.d_a.k T.d_a.b .nil qv (qa (pv 11) (qa (pv 12) qb))))) (ZS (ze (qM (qq G_a h_a rfl T.d_a.m T.d_a.k T.d_a.b .nil qv (qa (qL (r:=rIx K) qC (pv 3) qd (fun _ _=>rfl)) (qa (qL (r:=rIx K) qC (pv 4) qd (fun _ _=>rfl)) qb))))) (Zi (ze (qM (qq G_a h_a rfl T.d_a.m T.d_a.k T.d_a.b .nil qv (qa (pv 11) (qa (pv 12) qb)))))))))
       (qf (qu jQ))
       qw)
     (qc (Jj PassesOwn.never rfl (ZU rfl T.n_range (qa (qp zd (by rfl) T.n_len qW (qa (pv 3) qb)) qb)) (qE (i:=6) (sc_Ljoint.nd) rfl (Or.inl rfl))
       (qf (qP (ze (qM (qq G_f h_f rfl T.d_f.m T.d_f.k T.d_f.b .nil qv (qa (qL (r:=rIx K) qC (qO (pv 11) T.cl_Joint T.d_i.mt G_i h_i T.d_i.b .nil qv) (pv 6) (fun _ _=>rfl)) (qa (qm qaI qt (qm zk qd (pv 6))) (qa (qL (r:=rIx K) qC (pv 5) (pv 6) (fun _ _=>rfl)) qb))))))
         (qf (qu jQ))
         qw)))
     (qf (qu (zR (Qi (uEq hU) (zG (pv 11) rfl) (pv 0) (qF _)) (Zj (Qi (uEq hU) (qp zd (by rfl) T.n_len qW (qa (qO (pv 11) T.cl_Joint T.d_i.mt G_i h_i T.d_i.b .nil qv) qb)) (qp zd (by rfl) T.n_len qW (qa (pv 3) qb)) (qF _)))))))))))))))),?_⟩
   try dsimp only [zc,Cx.nox]
   obtain⟨d0,i0,a0,b0,c0⟩:=jh dr 0 (m:=8) rfl (k:=0) rfl;obtain⟨d1,i1,a1,b1,c1⟩:=jh dr 1 (m:=24) rfl (k:=1) rfl;obtain⟨d4,i4,a4,b4,c4⟩:=jh dr 4 (m:=1000000001) rfl (k:=2+2) rfl;have dl:ds.length=50:=dr.1;refine⟨Nat.zero_le _,fun q3 fq3=>?_⟩;generalize hG:upd H q3 _=A1;obtain⟨s1,e3⟩:=qo hG fq3;clear hG;(try unfold qy);(try dsimp only);refine⟨Nat.zero_le _,fun q4 fq4=>?_⟩;generalize hG:upd A1 q4 _=A2;obtain⟨s2,e4⟩:=qo hG fq4;clear hG;(try unfold qy);(try dsimp only);refine⟨Nat.zero_le _,fun q5 fq5=>?_⟩;generalize hG:upd A2 q5 _=A3;obtain⟨s3,e5⟩:=qo hG fq5;clear hG;(try unfold qy);(try dsimp only);have n34:q3≠q4:=qk e3 fq4;have n35:q3≠q5:=qk (s2 _ _ e3) fq5;have n45:q4≠q5:=qk e4 fq5;have f4:H q4=none:=s1.none fq4;have f5:H q5=none:=(s1.trans s2).none fq5;have S3:=s1.trans (s2.trans s3);have hd3:=S3 _ _ hd;refine qY (t:=qij _ _ _) (fun σ' H'=>∃ (s6 s7 s8 s9:Option V) (es:List Ent) (fls:List Addr),σ'=[some (.str nm),some (.str pl),some (.ref d),some (.ref q3),some (.ref q4),some (.ref q5),s6,s7,s8,s9,none,none,none]∧Same H H'∧Js a H' q3 q4 q5 es fls (1+d0).toNat) (fun N hN=>?_) ?_
   · refine⟨_,rfl,.inl ⟨d,_,_,_,rfl,rfl,SqL.of hd3,a0,.inl ⟨_,_,rfl,rfl,_,rfl,by omega,by omega,JC (lo:=0) (fun i σ H2=>∃ (s6 s7 s8 s9:Option V) (es:List Ent) (fls:List Addr),σ=[some (.str nm),some (.str pl),some (.ref d),some (.ref q3),some (.ref q4),some (.ref q5),s6,s7,s8,s9,none,none,none]∧Same H H2∧Js a H2 q3 q4 q5 es fls i) ⟨none,none,none,none,[],[],rfl,S3,⟨(s2.trans s3) _ _ e3,s3 _ _ e4,e5,rfl,rfl,fun _ _ _ z=>nomatch z⟩⟩ ?_ ?_⟩⟩⟩
     · rintro i σ H2 hi ⟨s6,s7,s8,s9,es,fls,rfl,S,J⟩;have i8:i < 8:=by omega
       have hd2:=S _ _ hd;have m0:(0:Int)+(i:Nat)=(i:Int):=by omega
       rw[m0];refine⟨_,rfl,.inl ⟨_,_,rfl,rfl,112,_,congrArg V.str qfF,rfl,by omega,by omega,_,rfl,_,rfl,_,rfl,_,_,rfl,rfl,.inl ⟨by decide,by decide⟩,.inl ⟨_,_,rfl,rfl,_,rfl,_,rfl,_,_,rfl,rfl,.inl ⟨by decide,by decide⟩,.inl ⟨_,_,rfl,rfl,_,rfl,.inl ⟨d,_,rfl,SqL.of hd2,fun sl fsl=>?_⟩⟩⟩⟩⟩;rw[qby (i:=2+6 * i) (j:=8+6 * i) (by omega) (by omega) (by omega) (by omega),qho rfl];have dr':=dr.cut (2+6 * i) 6;rw[qgB i i8]at dr';have e6:8+6 * i - (2+6 * i)=6:=by omega
       rw[e6];generalize hG:upd H2 sl _=H3;obtain⟨s4,esl⟩:=qo hG fsl;clear hG;refine⟨pN i,pl,sl,_,rfl,esl,dr',qiw i i8,okp,fun t fl e H4 S4 enm sg ht=>?_⟩;refine⟨t,_,rfl,SqT.of ht,rfl,_,_,rfl,_,_,rfl,_,_,rfl,rfl,?_⟩;have J4:=(J.same s4).same S4;have SH:Same H H4:=(S.trans s4).trans S4;(try unfold qy);(try dsimp only);refine⟨_,rfl,.inl ⟨rfl,_,SqL.of J4.h3⟩,_,rfl,q3,_,_,rfl,rfl,J4.h3,qR ?_,?_⟩
       · rw[List.length_map,List.length_map,J.l1];omega
       refine⟨_,rfl,.inl ⟨rfl,_,SqL.of (by rw[qi n34.symm];exact J4.h4)⟩,_,rfl,q4,_,_,rfl,rfl,(by rw[qi n34.symm];exact J4.h4),qR ?_,?_⟩
       · rw[List.length_map,List.length_map,J.l1];omega
       refine⟨_,rfl,.inl ⟨rfl,_,SqL.of (by rw[qi n45.symm,qi n35.symm];exact J4.h5)⟩,_,rfl,q5,_,_,rfl,rfl,(by rw[qi n45.symm,qi n35.symm];exact J4.h5),qR ?_,?_⟩
       · rw[List.length_map,J.l2];omega
       exact⟨_,_,_,_,es++[e],fls++[fl],rfl,((SH.put fq3 _).put f4 _).put f5 _,J4.push n34 n35 n45 sg enm⟩
     · rintro σ H2 ⟨s6,s7,s8,s9,es,fls,rfl,S,J⟩;exact hN _ _ ⟨s6,s7,s8,s9,es,fls,rfl,S,J⟩
   rintro _ H2 ⟨s6,s7,s8,s9,es,fls,rfl,S,J⟩;generalize hn:(1+d0).toNat=n at J;have n0:0 < n:=by omega
   have n8:n≤8:=by omega
   have hd2:=S _ _ hd;have xl:(es.map Ent.x).length=n:=by rw[List.length_map];exact J.l1
   try unfold qy
   try dsimp only
   refine⟨_,rfl,.inl ⟨d,_,_,_,rfl,rfl,SqL.of hd2,a1,_,_,rfl,rfl,_,rfl,Zz (fun g=>?_) (fun g=>?_)⟩⟩
   · refine⟨_,rfl,.inl ⟨d,_,_,_,rfl,rfl,SqL.of hd2,a1,_,rfl,_,_,rfl,.inl ⟨_,SqL.of J.h3,rfl⟩,_,_,rfl,rfl,(by show (0:Int) < _;rw[List.length_map,xl];omega),?_⟩⟩;rw[List.length_map,xl];obtain⟨j,ej,jn⟩:∃ j:Nat,d1 % (n:Int)=(j:Int)∧j < n:=⟨(d1 % (n:Int)).toNat,by have:=Int.emod_nonneg d1 (b:=(n:Int)) (by omega);omega,by have:=Int.emod_lt_of_pos d1 (b:=(n:Int)) (by omega);omega⟩
     rw[ej];(try unfold qy);(try dsimp only);refine⟨_,rfl,.inl ⟨_,_,rfl,rfl,.inl ⟨d,_,_,_,rfl,rfl,SqL.of hd2,a4,?_⟩⟩⟩;refine fun y dy g1 g2 ne=>⟨y,dy,"any",d4,rfl,qe,qe0,⟨by omega,by omega⟩,fun H3 B3 h3=>⟨rfl,?_⟩⟩
     have T3:=qV g1 g2 B3;have tb3:=(tb.same S).same T3;obtain⟨ps,hps⟩:=tb3.at_;refine⟨_,rfl,.inl ⟨d,_,_,_,rfl,rfl,SqL.of (T3 _ _ hd2),a1,_,_,rfl,tb3,fun f H4 ff B4 tb4=>?_⟩⟩;refine fun x dx f1 f2 ne=>⟨x,dx,y,f,"sifted","at","any","",d4,d4,rfl,qe,qbW,(En.at_ (up2 f1 f2 _ _ (B4 _ _ h3 (fun z=>by rw[z,hps]at h3;cases h3)))),.inr ⟨.inr rfl,by omega⟩,fun H5 B5 h5=>⟨rfl,?_⟩⟩
     have T5:=qV f1 f2 B5;have J5:=((J.same T3).kn (qiD hps B4)).same T5;refine⟨_,rfl,_,rfl,q3,_,_,j,rfl,rfl,J5.h3,qd1 (by rw[List.length_map,xl];exact jn),?_⟩;rw[← List.map_set];have k6:Kl H5 (upd H5 q3 (.lst (((es.map Ent.x).set j x).map V.ref))):=Kl.up J5.h3 _
     have b6:But a.t_on_days H (upd H5 q3 (.lst (((es.map Ent.x).set j x).map V.ref))):=fun b o e nb=>by
       rw[qi (qk e fq3)];exact T5 _ _ (B4 _ _ (T3 _ _ (S _ _ e)) nb)
     have h36:(upd H5 q3 (.lst (((es.map Ent.x).set j x).map V.ref))) q3=some (.lst (rfs ((es.map Ent.x).set j x))):=qe;generalize upd H5 q3 (.lst (((es.map Ent.x).set j x).map V.ref))=H6 at k6 b6 h36 ⊢;have tb6:=(tb4.same T5).kl k6;have px:Pn a H6 x "sifted" true:=.sf ⟨dx,y,f,k6 _ _ h5 (by intro xs z;cases z)⟩;have pn5:Pns a H5 (es.map Ent.x) (es.map fun _=>false):=qdE fun e m=>J5.en m;have pn6:=qgq (pn5.mp fun z C d fs e _=>k6 _ _ e (by intro xs z;cases z)) px j;have hd6:=b6 _ _ hd (fun z=>by rw[z]at hd;obtain⟨ps0,hp0⟩:=tb.at_;rw[hp0]at hd;cases hd);(try unfold qy);(try dsimp only);refine⟨_,rfl,_,rfl,q3,_,rfl,.inl (SqL.of h36),fun lq flq=>?_⟩;generalize hG:upd H6 lq _=H7;obtain⟨T7,elq⟩:=qo hG flq;clear hG;have l6:((es.map Ent.x).set j x).length=n:=by rw[List.length_set];exact xl
     refine fun z dz g1 g2 ne=>⟨z,dz,lq,nm,(es.map Ent.x).set j x,rfl,qe,okn,up2 g1 g2 _ _ elq,by rw[l6];exact n0,by rw[l6];exact n8,((pn6.same T7).same (up2 g1 g2)).pt,fun l' H8 fl' B8 h8 hl8=>⟨rfl,?_⟩⟩
     have T8:=qV g1 g2 B8;have T68:=T7.trans T8;(try unfold qy);(try dsimp only);refine⟨_,rfl,.inl ⟨d,_,_,_,rfl,rfl,SqL.of (T68 _ _ hd6),a1,_,_,rfl,rfl,_,rfl,Zz (fun _=>?_) (fun g'=>absurd g g')⟩⟩;refine⟨_,rfl,_,rfl,z,nm,true,_,_,rfl,.jn h8 hl8,by rw[l6];exact n8,pn6.same T68,qgM (by rw[List.length_map,J.l1];exact jn),fun H9 T9=>⟨true,rfl,Q6 ?_⟩⟩;have T69:=T68.trans T9;have hat:atI (rfs ((es.map Ent.x).set j x)) (j:Int)=some (.ref x):=Zy (by rw[List.getElem?_map,List.getElem?_set_self (by rw[xl];exact jn)];rfl);refine⟨_,rfl,_,rfl,.inl ⟨q3,_,_,_,rfl,rfl,SqL.of (T69 _ _ h36),hat,x,"sifted",false,[x],[true],rfl,.one (px.same T69),Nat.le_of_ble_eq_true rfl,qdD (px.same T69),rfl,fun H10 T10=>?_⟩⟩;exact kk H10 (b6.same (T69.trans T10)) (tb6.same (T69.trans T10))
   try unfold qy
   try dsimp only
   refine⟨_,rfl,_,rfl,q3,_,rfl,.inl (SqL.of J.h3),fun lq flq=>?_⟩;generalize hG:upd H2 lq _=H3;obtain⟨T3,elq⟩:=qo hG flq;clear hG;have pn2:Pns a H2 (es.map Ent.x) (es.map fun _=>false):=qdE fun e m=>J.en m;refine fun z dz g1 g2 ne=>⟨z,dz,lq,nm,es.map Ent.x,rfl,qe,okn,up2 g1 g2 _ _ elq,by rw[xl];exact n0,by rw[xl];exact n8,((pn2.same T3).same (up2 g1 g2)).pt,fun l' H4 fl' B4 h4 hl4=>⟨rfl,?_⟩⟩
   have T24:=T3.trans (qV g1 g2 B4);have J4:=J.same T24;(try unfold qy);(try dsimp only);refine⟨_,rfl,.inl ⟨d,_,_,_,rfl,rfl,SqL.of (T24 _ _ hd2),a1,_,_,rfl,rfl,_,rfl,Zz (fun g'=>absurd g' g) (fun _=>?_)⟩⟩;(try unfold qy);(try dsimp only);obtain⟨w1,w2⟩:=qee (fun e m=>(J.en m).2) (by rw[J.l1];exact n8);refine⟨rfl,_,rfl,_,q4,es.map fE,rfl,rfl,SqL.of J4.h4,w2,.inr (.inr ⟨_,_,rfl,rfl,Z4 (n:=6) (m:=984) (by decide) w1 (by decide),?_⟩)⟩;have ejt:Str.ofString "joint "++Txt.join (Str.ofString " & ") (es.map fE)=jT true (fJs es):=(if_pos rfl).symm;rw[ejt];(try unfold qy);(try dsimp only);refine⟨_,rfl,_,rfl,z,nm,true,es,_,rfl,.jn h4 hl4,by rw[J.l1];exact n8,fun e m=>J4.en m,rfl,fun H5 T5=>⟨true,rfl,qK rfl ?_⟩⟩;have J5:=J4.same T5
   obtain⟨e0,er,ees⟩:∃ e0 er,es=e0::er:=by
     cases es with
     | nil=>have:=J.l1;simp at this;omega
     | cons e0 er=>exact⟨e0,er,rfl⟩
   have at3:atI (rfs (es.map Ent.x)) 0=some (.ref e0.x):=by rw[ees];exact Zy (j:=0) rfl
   have at4:atI ((es.map fE).map V.str) 0=some (.str (fE e0)):=by rw[ees];exact Zy (j:=0) rfl
   have m0:e0∈es:=by rw[ees];exact List.mem_cons_self
   refine⟨_,rfl,.inl ⟨q3,_,_,_,rfl,rfl,SqL.of J5.h3,at3,_,rfl,.inl ⟨q4,_,_,_,rfl,rfl,SqL.of J5.h4,at4,e0.x,e0.nm,false,[e0],fE e0,rfl,.one (.en (J5.en m0).1),Nat.le_of_ble_eq_true rfl,fun e m=>by rw[List.mem_singleton.mp m];exact J5.en m0,qfT e0,fun H6 T6=>⟨true,rfl,qK rfl ?_⟩⟩⟩⟩;have T46:=T5.trans T6;refine⟨_,rfl,_,rfl,z,nm,true,es,_,rfl,.jn (T46 _ _ h4) (T46 _ _ hl4),by rw[J.l1];exact n8,fun e m=>(J5.same T6).en m,rfl,fun H7 T7=>⟨true,rfl,qK rfl ?_⟩⟩;have T47:=T46.trans T7;have J7:=J4.same T47;have h7:=T47 _ _ h4;have hl7:=T47 _ _ hl4;(try unfold qy);(try dsimp only);refine qY (t:=qij _ _ _) (fun σ' H'=>∃ s6:Option V,σ'=[some (.str nm),some (.str pl),some (.ref d),some (.ref q3),some (.ref q4),some (.ref q5),s6,s7,s8,s9,none,some (.ref z),some (.str (jT true (fJs es)))]∧Same H7 H') (fun N hN=>?_) ?_
   · refine⟨_,rfl,_,_,rfl,.inl ⟨_,SqL.of J7.h3,rfl⟩,_,rfl,?_,?_,JC (lo:=0) (fun i σ H8=>∃ s6:Option V,σ=[some (.str nm),some (.str pl),some (.ref d),some (.ref q3),some (.ref q4),some (.ref q5),s6,s7,s8,s9,none,some (.ref z),some (.str (jT true (fJs es)))]∧Same H7 H8) ⟨_,rfl,Same.refl _⟩ ?_ ?_⟩
     · omega
     · rw[List.length_map,xl];omega
     · rintro i σ H8 hi ⟨s6',rfl,T8⟩;rw[List.length_map,xl,Int.toNat_natCast]at hi;have ie:i < es.length:=by rw[J.l1];exact hi
       have ifl:i < fls.length:=by rw[J.l2];exact hi
       have J8:=J7.same T8;obtain⟨sg,enm⟩:=J8.sg i es[i] fls[i] (List.getElem?_eq_getElem ie) (List.getElem?_eq_getElem ifl);have ati:atI (rfs (es.map Ent.x)) (i:Int)=some (.ref es[i].x):=Zy (by rw[List.getElem?_map,List.getElem?_map,List.getElem?_eq_getElem ie];rfl);have at5:atI (rfs fls) (i:Int)=some (.ref fls[i]):=Zy (by rw[List.getElem?_map,List.getElem?_eq_getElem ifl];rfl);have mz:(0:Int)+(i:Nat)=(i:Int):=by omega
       rw[mz];refine⟨_,rfl,z,dz,_,rfl,T8 _ _ h7,rfl,z,dz,l',nm,_,rfl,T8 _ _ h7,T8 _ _ hl7,fun q fq=>?_⟩;have T9:=Same.new (.lst (rfs (es.map Ent.x))) fq;refine⟨_,rfl,.inl ⟨q,_,_,_,rfl,rfl,SqL.of qe,ati,_,rfl,.inl ⟨_,_,rfl,rfl,112,_,congrArg V.str qfF,rfl,by omega,by omega,?_⟩⟩⟩;rw[qho rfl];refine⟨_,rfl,_,rfl,.inl ⟨q5,_,_,_,rfl,rfl,SqL.of (T9 _ _ J8.h5),at5,es[i],fls[i],by rw[enm];rfl,sg.same T9,fun H10 T10=>⟨true,rfl,qK rfl ⟨_,rfl,T8.trans (T9.trans T10)⟩⟩⟩⟩
     · rintro σ H8 ⟨s6',rfl,T8⟩;exact hN _ _ ⟨s6',rfl,T8⟩
   rintro _ H8 ⟨s6',rfl,T8⟩;(try unfold qy);(try dsimp only);refine⟨_,rfl,z,_,dz,_,_,rfl,T8 _ _ h7,T.cl_Joint,T.n_Joint_name,rfl,_,rfl,.inl ⟨rfl,_,rfl,Zz (fun _=>?_) (fun g=>absurd rfl g)⟩⟩;refine⟨_,rfl,z,dz,_,rfl,T8 _ _ h7,rfl,z,dz,l',nm,_,rfl,T8 _ _ h7,T8 _ _ hl7,fun q fq=>?_⟩;have T9:=Same.new (.lst (rfs (es.map Ent.x))) fq;refine⟨_,_,rfl,.inl ⟨_,SqL.of qe,rfl⟩,_,rfl,_,_,rfl,.inl ⟨_,SqL.of ((T8.trans T9) _ _ J7.h3),rfl⟩,.inl ⟨rfl,?_⟩⟩;rw[decide_eq_true rfl];have TT:=(T24.trans T47).trans (T8.trans T9);exact kk _ ((Same.but _ (S.trans TT))) ((tb.same S).same TT)
end
def mA:List Int:=[4]++qfI++qfI++jn50
theorem qiy:∀ m∈mA,0 < m∧m≤20000000001:=by decide +kernel
theorem qjx:(mA.drop 1).take 11=qfI:=by decide +kernel
theorem qiC:(mA.drop 12).take 11=qfI:=by decide +kernel
theorem qiB:(mA.drop 23).take 50=jn50:=by decide +kernel
theorem qiA:(mA.drop 25).take 48=qh3:=by decide +kernel
theorem qhB:(mA.drop 25).take 6=mm6:=by decide +kernel
theorem qiz:(mA.drop 31).take 6=mm6:=by decide +kernel
theorem qhA:mA.length=73:=by decide +kernel
theorem qei {ds:List Int}{lo:Int}{i:Nat} (e1:lo=(i:Int)) (h:i≤ds.length):qc4 (ds.map V.int) (some lo) none=((ds.drop i).take (ds.length - i)).map V.int:=by
 subst e1;unfold qc4;rw[HT.sIx_nat,HT.sIx_none,List.length_map,Nat.min_eq_left h,List.map_take,List.map_drop]
inductive j2 (a:Ad) (vs:List V) (H:Hp) (Q:VK):Prop
 | mk (c:Int) (h1:vs=[.int c]) (h2:TbD a H) (h3:∀ H',But a.t_on_days H H'->TbD a H'->Q (.bl true) H'):j2 a vs H Q
def qa5 (a:Ad):Sp:=fun vs H Q _=>j2 a vs H Q
def qeJ (K:Frag) (t:Addr):Sp:=fun vs H Q _=>∃ (sa:Addr) (ns:List Int),vs=[.ref sa]∧SqL K H sa (ns.map V.int)∧ns.length≤63∧qh5 H t qhw ("on_days"++".<locals>."++"<lambda>")∧∀ H',Q (.bl true) H'
section
variable {P:Program}{w:World}{K:Frag}{mg:Str->Option Value}{base:Heap}
theorem qdK {a:Ad} (T:Txt K mg a) (hB:qc6 mg base):qB P w K mg base CX0 11 a.f_C a.fd_C ["_law_cell"] (qa5 a):=by
 have G_S:=qdN (P:=P) (w:=w) (base:=base) T;have G_B:=qeY (P:=P) (w:=w) (base:=base) T;have G_e:=qah (P:=P) (w:=w) (base:=base) T;have G_U:qB P w K mg base CX0 10 a.f_U a.fd_U ["_law_name_here","_law_place","_law_draws_here"] (qa7 a):=qdM T hB;have G_V:qB P w K mg base CX0 9 a.f_V a.fd_V ["_law_name_here","_law_place","_law_draws_here"] (JW a):=qcR T hB;have G_f:=qcp (P:=P) (w:=w) (base:=base) T;have G_a:=qfG (P:=P) (w:=w) (base:=base) T;have G_T:=qdL (P:=P) (w:=w) (base:=base) T;refine T.d_C.F.ok sc_Lright (fun vs H Q E h=>?_) (fun cdv A outer s H vs Q E hr h=>?_)
 · obtain⟨c,rfl,tb,kk⟩:=h;rfl
 · obtain⟨c,rfl,tb,kk⟩:=h;have hU:=hr.units;have h_S:Room (1) _:=hr.mono (by decide);have h_B:Room (1) _:=hr.mono (by decide);have h_e:Room (9) _:=hr.mono (by decide);have h_U:Room (10) _:=hr.mono (by decide);have h_V:Room (9) _:=hr.mono (by decide);have h_f:Room (2) _:=hr.mono (by decide);have h_a:Room (6) _:=hr.mono (by decide);have h_T:Room (1) _:=hr.mono (by decide)
   refine⟨_,(qc (qA (i:=1) sc_Lright.nd rfl (Or.inl rfl) (qq G_S h_S rfl T.d_S.m T.d_S.k T.d_S.b .nil qv (qa (pv 0) (qa (qm zk (qm zk (qm zk (qm zk (qm zk (qm zk (qZ (qa qd qb)) (qZ (qa qd (qa qd (qa qd qb))))) (qm qdI (qZ (qa qd qb)) qd)) (qZ (qa qd (qa qd (qa qd qb))))) (qm qdI (qZ (qa qd qb)) qd)) (qZ (qa qd (qa qd qb)))) (qm qdI (qeW G_T h_T rfl T.d_T.m T.d_T.k T.d_T.b .nil qv) qd)) qb))))
     (qc (qA (i:=2) sc_Lright.nd rfl (Or.inl rfl) (qq G_B h_B rfl T.d_B.m T.d_B.k T.d_B.b .nil qv (qa (zw uSl (pv 1) (za qd) (za qd)) qb)))
     (qc (qA (i:=3) sc_Lright.nd rfl (Or.inl rfl) (qq G_B h_B rfl T.d_B.m T.d_B.k T.d_B.b .nil qv (qa (zw uSl (pv 1) (za qd) (za qd)) qb)))
     (qc (qP (qD (uEq hU) (qL (r:=rIx K) qC (pv 1) qd (fun _ _=>rfl)) qd (qF _))
       (qf (qu (qq G_U h_U rfl T.d_U.m T.d_U.k T.d_U.b .nil qv (qa (pv 2) (qa (pv 3) (qa (zw uSl (pv 1) (za qd) qdC) qb))))))
       qw)
     (qc (qP (PW.pt (qfB (qD (uEq hU) (qL (r:=rIx K) qC (pv 1) qd (fun _ _=>rfl)) qd (qF _)) (qdA (qD qcN (qL (r:=rIx K) qC (pv 1) qd (fun _ _=>rfl)) qd (qF _)))))
       (qf (qu (qq G_V h_V rfl T.d_V.m T.d_V.k T.d_V.b .nil qv (qa (pv 2) (qa (pv 3) (qa (zw uSl (pv 1) (za qd) qdC) qb))))))
       qw)
     (qc (qac (qq G_e h_e rfl T.d_e.m T.d_e.k T.d_e.b .nil qv (qa (pv 2) (qa (pv 3) (qa (zw uSl (pv 1) (za qd) (za qd)) qb)))) (qae rfl (qI (qE (i:=4) (sc_Lright.nd) rfl (Or.inl rfl)) (qI (qE (i:=5) (sc_Lright.nd) rfl (Or.inl rfl)) (qI (qE (i:=6) (sc_Lright.nd) rfl (Or.inl rfl)) Zv)))))
     (qc (qac (qq G_e h_e rfl T.d_e.m T.d_e.k T.d_e.b .nil qv (qa (pv 3) (qa (pv 2) (qa (zw uSl (pv 1) (za qd) (za qd)) qb)))) (qae rfl (qI (qE (i:=7) (sc_Lright.nd) rfl (Or.inl rfl)) (qI (qE (i:=8) (sc_Lright.nd) rfl (Or.inl rfl)) (qI (qE (i:=9) (sc_Lright.nd) rfl (Or.inl rfl)) Zv)))))
     (qc (qP (PW.pt (ZS (ze (qM (qq G_a h_a rfl T.d_a.m T.d_a.k T.d_a.b .nil qv (qa (pv 4) (qa (pv 5) qb))))) (ZS (ze (qM (qq G_a h_a rfl T.d_a.m T.d_a.k T.d_a.b .nil qv (qa (pv 7) (qa (pv 8) qb))))) (Zi (ze (qM (qq G_a h_a rfl T.d_a.m T.d_a.k T.d_a.b .nil qv (qa (pv 4) (qa (pv 5) qb)))))))))
       (qf (qu jQ))
       qw)
     (qf (qu (zR (qq G_f h_f rfl T.d_f.m T.d_f.k T.d_f.b .nil qv (qa (pv 4) (qa (pv 2) (qa (pv 6) qb)))) (Zj (qq G_f h_f rfl T.d_f.m T.d_f.k T.d_f.b .nil qv (qa (pv 7) (qa (pv 3) (qa (pv 9) qb)))))))))))))))),?_⟩
   try dsimp only [zc,Cx.nox]
   refine⟨_,rfl,qj (Nat.le_of_ble_eq_true rfl),fun p1 f1=>⟨qj (Nat.le_of_ble_eq_true rfl),fun p2 f2=>?_⟩⟩;generalize hG:upd H p1 _=A1 at f2 ⊢;obtain⟨s1,e1⟩:=qo hG f1;clear hG;generalize hG:upd A1 p2 _=A2;obtain⟨s2,e2⟩:=qo hG f2;clear hG;refine .inr (.inl ⟨p1,p2,_,_,rfl,rfl,s2 _ _ e1,e2,qj (Nat.le_of_ble_eq_true rfl),fun p3 f3=>?_⟩);generalize hG:upd A2 p3 _=A3;obtain⟨s3,e3⟩:=qo hG f3;clear hG;refine⟨qj (Nat.le_of_ble_eq_true rfl),fun p4 f4=>?_⟩;generalize hG:upd A3 p4 _=A4;obtain⟨s4,e4⟩:=qo hG f4;clear hG;refine⟨p4,_,_,rfl,rfl,e4,by decide,by decide,(by decide),fun p5 f5=>?_⟩;generalize hG:upd A4 p5 _=A5;obtain⟨s5,e5⟩:=qo hG f5;clear hG;refine .inr (.inl ⟨p3,p5,_,_,rfl,rfl,(s4.trans s5) _ _ e3,e5,qj (Nat.le_of_ble_eq_true rfl),fun p6 f6=>?_⟩);generalize hG:upd A5 p6 _=A6;obtain⟨s6,e6⟩:=qo hG f6;clear hG;refine⟨qj (Nat.le_of_ble_eq_true rfl),fun p7 f7=>?_⟩;generalize hG:upd A6 p7 _=A7;obtain⟨s7,e7⟩:=qo hG f7;clear hG;refine .inr (.inl ⟨p6,p7,_,_,rfl,rfl,s7 _ _ e6,e7,qj (Nat.le_of_ble_eq_true rfl),fun p8 f8=>?_⟩);generalize hG:upd A7 p8 _=A8;obtain⟨s8,e8⟩:=qo hG f8;clear hG;refine⟨qj (Nat.le_of_ble_eq_true rfl),fun p9 f9=>?_⟩;generalize hG:upd A8 p9 _=A9;obtain⟨s9,e9⟩:=qo hG f9;clear hG;refine⟨p9,_,_,rfl,rfl,e9,by decide,by decide,(by decide),fun pa fa=>?_⟩;generalize hG:upd A9 pa _=Aa;obtain⟨sa,ea⟩:=qo hG fa;clear hG;refine .inr (.inl ⟨p8,pa,_,_,rfl,rfl,(s9.trans sa) _ _ e8,ea,qj (Nat.le_of_ble_eq_true rfl),fun pb fb=>?_⟩);generalize hG:upd Aa pb _=Ab;obtain⟨sb,eb⟩:=qo hG fb;clear hG;refine⟨qj (Nat.le_of_ble_eq_true rfl),fun pc fc=>?_⟩;generalize hG:upd Ab pc _=Ac;obtain⟨sc,ec⟩:=qo hG fc;clear hG;refine .inr (.inl ⟨pb,pc,_,_,rfl,rfl,sc _ _ eb,ec,qj (Nat.le_of_ble_eq_true rfl),fun pd fd=>?_⟩);generalize hG:upd Ac pd _=A_d;obtain⟨sd,ed⟩:=qo hG fd;clear hG;refine⟨rfl,fun pe fe=>?_⟩;generalize hG:upd A_d pe _=Ae;obtain⟨se,ee⟩:=qo hG fe;clear hG;refine⟨pe,_,_,rfl,rfl,ee,by decide,by decide,(by decide),fun pf ff=>?_⟩;generalize hG:upd Ae pf _=Af;obtain⟨sf,ef⟩:=qo hG ff;clear hG;refine .inr (.inl ⟨pd,pf,_,_,rfl,rfl,(se.trans sf) _ _ ed,ef,Nat.le_of_lt (qR (by decide)),fun pg fg=>?_⟩);generalize hG:upd Af pg _=Ag;obtain⟨sg,eg⟩:=qo hG fg;clear hG;have SA:Same H Ag:=s1.trans (s2.trans (s3.trans (s4.trans (s5.trans (s6.trans (s7.trans (s8.trans (s9.trans (sa.trans (sb.trans (sc.trans (sd.trans (se.trans (sf.trans sg))))))))))))));have hm:Ag pg=some (.lst (mA.map V.int)):=eg.trans (by rfl);refine⟨c,pg,mA,rfl,hm,(by decide),qiy,fun d ds H1 fd' S1 hd dr=>?_⟩;have SH:=SA.trans S1;clear s1 s2 s3 s4 s5 s6 s7 s8 s9 sa sb sc sd se sf sg e1 e2 e3 e4 e5 e6 e7 e8 e9 ea eb ec ed ee ef eg;have dl:ds.length=73:=by rw[dr.1,qhA]
   try unfold qy
   try dsimp only
   have dr1:Dr qfI ((ds.drop 1).take (12 - 1)):=by have:=dr.cut 1 11;rw[qjx]at this;exact this
   refine⟨_,rfl,_,rfl,_,rfl,.inl ⟨d,_,rfl,SqL.of hd,fun n1 fn1=>?_⟩⟩;rw[qby (ds:=ds) (lo:=1) (hi:=12) (i:=1) (j:=12) rfl rfl (by omega) (by decide)];generalize hG:upd H1 n1 _=H2x;obtain⟨s_n1,e_n1⟩:=qo hG fn1;clear hG;refine⟨n1,_,rfl,e_n1,dr1,fun nm H2 S_H2 ok_nm=>?_⟩;have T_H2:=s_n1.trans S_H2;have hd2:=T_H2 _ _ hd;(try unfold qy);(try dsimp only);have dr12:Dr qfI ((ds.drop 12).take (23 - 12)):=by have:=dr.cut 12 11;rw[qiC]at this;exact this
   refine⟨_,rfl,_,rfl,_,rfl,.inl ⟨d,_,rfl,SqL.of hd2,fun n2 fn2=>?_⟩⟩;rw[qby (ds:=ds) (lo:=12) (hi:=23) (i:=12) (j:=23) rfl rfl (by omega) (by decide)];generalize hG:upd H2 n2 _=H3x;obtain⟨s_n2,e_n2⟩:=qo hG fn2;clear hG;refine⟨n2,_,rfl,e_n2,dr12,fun pl H3 S_H3 ok_pl=>?_⟩;have T_H3:=s_n2.trans S_H3;have hd3:=T_H3 _ _ hd2;have S3:Same H H3:=SH.trans (T_H2.trans T_H3);obtain⟨d0,i0,a0,b0,c0⟩:=jh dr 0 (m:=4) rfl (k:=0) rfl;obtain⟨d24,i24,a24,b24,c24⟩:=jh dr 24 (m:=24) rfl (k:=24) rfl;(try unfold qy);(try dsimp only);refine⟨_,rfl,.inl ⟨d,_,_,_,rfl,rfl,SqL.of hd3,a0,.inl ⟨rfl,_,rfl,Zz (fun g=>?_) (fun g=>?_)⟩⟩⟩
   · have dr':Dr jn50 ((ds.drop 23).take (73 - 23)):=by have:=dr.cut 23 50;rw[qiB]at this;exact this
     refine⟨_,rfl,_,rfl,_,rfl,_,rfl,.inl ⟨d,_,rfl,SqL.of hd3,fun sl fsl=>?_⟩⟩;rw[qei (ds:=ds) (lo:=23) (i:=23) rfl (by omega),dl];generalize hG:upd H3 sl _=H4;obtain⟨s4,esl⟩:=qo hG fsl;clear hG;exact⟨nm,pl,sl,_,rfl,esl,dr',ok_nm,ok_pl,tb.same (S3.trans s4),fun H5 B5 tb5=>kk H5 ((Same.but _ (S3.trans s4)).trans B5) tb5⟩
   try unfold qy
   try dsimp only
   refine qY (t:=qeI _ _ _) (fun σ' H'=>σ'=[some (.int c),some (.ref d),some (.str nm),some (.str pl),none,none,none,none,none,none]∧H'=H3) (fun N hN=>?_) ?_
   · refine⟨_,rfl,.inl ⟨d,_,_,_,rfl,rfl,SqL.of hd3,a0,.inl ⟨rfl,_,rfl,Zz (fun g2=>?_) (fun g2=>hN _ _ ⟨rfl,rfl⟩)⟩⟩⟩;refine⟨_,rfl,.inl ⟨d,_,_,_,rfl,rfl,SqL.of hd3,a24,_,_,rfl,rfl,_,rfl,Zz (fun g3=>?_) (fun g3=>hN _ _ ⟨rfl,rfl⟩)⟩⟩;have dr':Dr qh3 ((ds.drop 25).take (73 - 25)):=by have:=dr.cut 25 48;rw[qiA]at this;exact this
     refine⟨_,rfl,_,rfl,_,rfl,_,rfl,.inl ⟨d,_,rfl,SqL.of hd3,fun sl fsl=>?_⟩⟩;rw[qei (ds:=ds) (lo:=25) (i:=25) rfl (by omega),dl];generalize hG:upd H3 sl _=H4;obtain⟨s4,esl⟩:=qo hG fsl;clear hG;exact⟨nm,pl,sl,_,rfl,esl,dr',ok_nm,ok_pl,tb.same (S3.trans s4),fun H5 B5 tb5=>kk H5 ((Same.but _ (S3.trans s4)).trans B5) tb5⟩
   rintro _ H3_ ⟨rfl,eH_⟩;rw[eH_];clear eH_ H3_;(try unfold qy);(try dsimp only);have dr25:Dr mm6 ((ds.drop 25).take (31 - 25)):=by have:=dr.cut 25 6;rw[qhB]at this;exact this
   refine⟨_,rfl,_,rfl,_,rfl,_,rfl,_,rfl,.inl ⟨d,_,rfl,SqL.of hd3,fun m1 fm1=>?_⟩⟩;rw[qby (ds:=ds) (lo:=25) (hi:=31) (i:=25) (j:=31) rfl rfl (by omega) (by decide)];generalize hG:upd H3 m1 _=H4x;obtain⟨s_m1,e_m1⟩:=qo hG fm1;clear hG;refine⟨nm,pl,m1,_,rfl,e_m1,dr25,ok_nm,ok_pl,fun t1 fl1 ea H4 S_H4 n_ea sg_ea h_t1=>?_⟩;have T_H4:=s_m1.trans S_H4;refine⟨t1,_,rfl,SqT.of h_t1,rfl,_,_,rfl,_,_,rfl,_,_,rfl,rfl,?_⟩;have hd4:=T_H4 _ _ hd3;(try unfold qy);(try dsimp only);have dr31:Dr mm6 ((ds.drop 31).take (37 - 31)):=by have:=dr.cut 31 6;rw[qiz]at this;exact this
   refine⟨_,rfl,_,rfl,_,rfl,_,rfl,_,rfl,.inl ⟨d,_,rfl,SqL.of hd4,fun m2 fm2=>?_⟩⟩;rw[qby (ds:=ds) (lo:=31) (hi:=37) (i:=31) (j:=37) rfl rfl (by omega) (by decide)];generalize hG:upd H4 m2 _=H5x;obtain⟨s_m2,e_m2⟩:=qo hG fm2;clear hG;refine⟨pl,nm,m2,_,rfl,e_m2,dr31,ok_pl,ok_nm,fun t2 fl2 eb H5 S_H5 n_eb sg_eb h_t2=>?_⟩;have T_H5:=s_m2.trans S_H5;refine⟨t2,_,rfl,SqT.of h_t2,rfl,_,_,rfl,_,_,rfl,_,_,rfl,rfl,?_⟩;have sga:=sg_ea.same T_H5;have S5:Same H H5:=S3.trans (T_H4.trans T_H5);have lis:∀ {G:Hp}{e:Ent}{fl:Addr},Sg a G e fl->Th a G e.x e.nm false ([e].map Ent.x)∧([e]:List Ent).length≤8∧(∀ e'∈[e],EnE a G e'∧BdE e')∧fE e=jT false (fJs [e]):=fun {G e fl} s=>⟨.one (.en s.en),Nat.le_of_ble_eq_true rfl,fun e' m=>by rw[List.mem_singleton.mp m];exact⟨s.en,s.bd⟩,qfT e⟩
   try unfold qy
   try dsimp only
   obtain⟨u1,u2,u3,u4⟩:=lis sga;refine⟨_,rfl,_,rfl,ea.x,ea.nm,false,[ea],_,rfl,u1,u2,u3,u4,fun H6 S6=>⟨true,rfl,qK rfl ?_⟩⟩;obtain⟨v1,v2,v3,v4⟩:=lis (sg_eb.same S6);refine⟨_,rfl,_,rfl,eb.x,eb.nm,false,[eb],_,rfl,v1,v2,v3,v4,fun H7 S7=>⟨true,rfl,qK rfl ?_⟩⟩;have S67:=S6.trans S7;obtain⟨u1,u2,u3,u4⟩:=lis (sga.same S67);refine⟨_,rfl,_,rfl,ea.x,ea.nm,false,[ea],_,rfl,u1,u2,u3,u4,fun H8 S8=>⟨true,rfl,qK rfl ?_⟩⟩;have S68:=S67.trans S8;(try unfold qy);(try dsimp only);refine⟨_,rfl,_,rfl,_,rfl,ea,fl1,by rw[n_ea];rfl,sga.same S68,fun H9 S9=>⟨true,rfl,Q6 ?_⟩⟩;have S69:=S68.trans S9;refine⟨_,rfl,_,rfl,_,rfl,eb,fl2,by rw[n_eb];rfl,sg_eb.same S69,fun H10 S10=>?_⟩;exact kk H10 (Same.but _ (S5.trans (S69.trans S10))) (tb.same (S5.trans (S69.trans S10)))
theorem qhu {a:Ad} (T:Txt K mg a) (hB:qc6 mg base):qB P w K mg base CX0 12 a.f_Z a.fd_Z ["_law_script"] (qeJ K a.t_on_days):=by
 have G_C:qB P w K mg base CX0 11 a.f_C a.fd_C ["_law_cell"] (qa5 a):=qdK T hB;have G_R:=qbT (P:=P) (w:=w) (base:=base) T;refine T.d_Z.F.ok sc_law (fun vs H Q E h=>?_) (fun cdv A outer s H vs Q E hr h=>?_)
 · obtain⟨sa,ns,rfl,hS,l63,tb,kk⟩:=h;rfl
 · obtain⟨sa,ns,rfl,hS,l63,tb,kk⟩:=h;have h_C:Room (11) _:=hr.mono (by decide);have h_R:Room (1) _:=hr.mono (by decide)
   refine⟨_,(qc (qP (ze (qM (qq G_C h_C rfl T.d_C.m T.d_C.k T.d_C.b .nil qv (qa (qq G_R h_R rfl T.d_R.m T.d_R.k T.d_R.b .nil qv (qa (pv 0) (qa qd qb))) qb))))
       (qf (qu jQ))
       qw)
     (qc (Jj PassesOwn.never rfl (QQ (zw uSl (pv 0) (za qd) (za qd))) (qE (i:=1) (sc_law.nd) rfl (Or.inl rfl))
       (qf (qP (ze (qM (qq G_C h_C rfl T.d_C.m T.d_C.k T.d_C.b .nil qv (qa (pv 1) qb))))
         (qf (qu jQ))
         qw)))
     (qf (qu jQ)))),?_⟩
   try dsimp only [zc,Cx.nox]
   refine⟨_,rfl,sa,ns,0,rfl,hS,Int.le_refl _,fun c=>⟨c,rfl,tb,fun H1 B1 tb1=>⟨true,rfl,qK rfl ?_⟩⟩⟩;obtain⟨ps,hps,_⟩:=id tb;have hS1:SqL K H1 sa (ns.map V.int):=qg6 hS hps B1;(try unfold qy);(try dsimp only);refine⟨_,rfl,_,rfl,_,rfl,.inl ⟨sa,_,rfl,hS1,fun q fq=>?_⟩⟩;obtain⟨ms,ems⟩:∃ ms:List Int,qc4 (ns.map V.int) (some 1) (some 13)=ms.map V.int:=⟨(ns.drop (HT.sIx (ns.map V.int).length 0 (some 1))).take (HT.sIx (ns.map V.int).length (ns.map V.int).length (some 13) - HT.sIx (ns.map V.int).length 0 (some 1)),by unfold qc4;rw[List.map_take,List.map_drop]⟩
   rw[ems];generalize hG:upd H1 q _=H2;obtain⟨s2,eq⟩:=qo hG fq;clear hG;have tb2:TbD a H2:=TbD.same tb1 s2;refine⟨q,rfl,⟨_,SqL.of eq⟩,qaW (D:={ nx:=qh1 (tC (.bl true)) { nx:=fun _ H'=>Q .non H',rt:=Q },rt:=Q }) (K:=K) (a:=q) (xs:=ms.map V.int) (fun i σ H3=>∃ s1:Option V,σ=[some (.ref sa),s1]∧TbD a H3∧H3 q=some (.lst (ms.map V.int))) ⟨_,rfl,tb2,eq⟩ (fun i σ H3 _ ⟨_,_,_,h⟩=>SqL.of h) ?_ ?_⟩
   · rintro i z σ H3 hz ⟨s1,rfl,tb3,h3⟩;obtain⟨m,_,rfl⟩:=Jt hz;obtain⟨ps3,hp3⟩:=tb3.at_;exact⟨_,rfl,m,rfl,tb3,fun H4 B4 tb4=>⟨true,rfl,qK rfl ⟨_,rfl,tb4,B4 _ _ h3 (fun z=>by rw[z,hp3]at h3;cases h3)⟩⟩⟩
   · rintro σ H3 ⟨s1,rfl,tb3,h3⟩;exact kk H3
end
theorem len_0 {p:List Value->Prop} (h:p []):∀ us:List Value,us.length=0->p us:=fun us hl=>by
 cases us with
 | nil=>exact h
 | cons a t=>cases hl
theorem len_1 {p:List Value->Prop} (h:∀ a,p [a]):∀ us:List Value,us.length=1->p us:=fun us hl=>by
 cases us with
 | nil=>cases hl
 | cons a t=>exact len_0 (p:=fun t=>p (a::t)) (h a) t (Nat.succ.inj hl)
theorem len_2 {p:List Value->Prop} (h:∀ a b,p [a,b]):∀ us:List Value,us.length=2->p us:=fun us hl=>by
 cases us with
 | nil=>cases hl
 | cons a t=>exact len_1 (p:=fun t=>p (a::t)) (h a) t (Nat.succ.inj hl)
theorem len_3 {p:List Value->Prop} (h:∀ a b c,p [a,b,c]):∀ us:List Value,us.length=3->p us:=fun us hl=>by
 cases us with
 | nil=>cases hl
 | cons a t=>exact len_2 (p:=fun t=>p (a::t)) (h a) t (Nat.succ.inj hl)
theorem len_4 {p:List Value->Prop} (h:∀ a b c d,p [a,b,c,d]):∀ us:List Value,us.length=4->p us:=fun us hl=>by
 cases us with
 | nil=>cases hl
 | cons a t=>exact len_3 (p:=fun t=>p (a::t)) (h a) t (Nat.succ.inj hl)
theorem len_5 {p:List Value->Prop} (h:∀ a b c d e,p [a,b,c,d,e]):∀ us:List Value,us.length=5->p us:=fun us hl=>by
 cases us with
 | nil=>cases hl
 | cons a t=>exact len_4 (p:=fun t=>p (a::t)) (h a) t (Nat.succ.inj hl)
theorem mkDf {K:Frag}{h:Heap}{mg:Str->Option Value} (X:K.In h) (G:h.Ns mainGlobals mg) {x:Str}{st:Stmt}{ps:List Str}{f:Addr}{oc:Value}{od an:Option Addr}{osl:Array (Option Value)}{kV doc pm cdv ct:Value} (a:nsIn K mainGlobals x=some (some (.ref f))) (l:K.lookup f=some ⟨oc,od,.func (fnOf x x (z5 st) (zj st) (qh st) .none kV doc pm an cdv ct),osl⟩) (c:codeIn K cdv x=true) (k:keepIn K (.ref f)=true) (hb:∀ (kV doc pm:Value) (an:Option Addr) (cdv ct:Value) (us:List Value),us.length=ps.length->bindArgs (fnOf x x (z5 st) (zj st) (qh st) .none kV doc pm an cdv ct) ⟨us,[]⟩=pure (ps.zip us)):Df K mg x st ps f (fnOf x x (z5 st) (zj st) (qh st) .none kV doc pm an cdv ct):=⟨qcx l c k,(qcx l c k).binds hb,PySem.W.mg_of X G a,k⟩
theorem mkDm {K:Frag}{C:Addr}{x q:Str}{st:Stmt}{ps:List Str}{f:Addr}{oc:Value}{od an:Option Addr}{osl:Array (Option Value)}{kV doc pm cdv ct:Value} (m:qfm K C x f) (l:K.lookup f=some ⟨oc,od,.func (fnOf x q (z5 st) (zj st) (qh st) .none kV doc pm an cdv ct),osl⟩) (c:codeIn K cdv q=true) (k:keepIn K (.ref f)=true) (hb:∀ (kV doc pm:Value) (an:Option Addr) (cdv ct:Value) (us:List Value),us.length=ps.length->bindArgs (fnOf x q (z5 st) (zj st) (qh st) .none kV doc pm an cdv ct) ⟨us,[]⟩=pure (ps.zip us)):DfM K C x q st ps f (fnOf x q (z5 st) (zj st) (qh st) .none kV doc pm an cdv ct):=⟨qcx l c k,(qcx l c k).binds hb,m⟩
theorem all2 {l:PySem.W.OpenLaw}{w:World}{K:Frag}{h:Heap}{mg:Str->Option Value}{fa:Addr} (X:K.In h) (G:h.Ns mainGlobals mg) (hfa:mg "law"=some (.ref fa)) {a:Ad} (T:Txt K mg a)
   : ∃ fd:FuncData,(∀ (s:Shared) (v:Value),BindsTo s fd ⟨[v],[]⟩ [("_law_script",v)])∧∀ base:Heap,K.In base->base.Ns mainGlobals mg->qc6 mg base->qB l.prog w K mg base CX0 12 fa fd ["_law_script"] (qeJ K a.t_on_days):=by
 have e:=hfa.symm.trans T.d_Z.m;obtain⟨oc,od,kV,doc,pm,an,cdv,ct,osl,e2,lk,hcd⟩:=T.d_Z.F.ex;cases e;exact⟨a.fd_Z,fun s v=>by rw[e2];exact .of_eq rfl,fun base _ _ hB=>qhu T hB⟩
theorem walk {l:PySem.W.OpenLaw}{q:Program}{loose:List Str}{XP:(Str->Option Value)->Heap->Prop}{YP:World->Heap->Prop}{d:DefRec}{K:Params->Frag}{t:Addr} (hn:l.most=some 63) (hdf:d.params.defaults=[])
   (hY:∀ (w:World) (h:Heap),YP w h->(K w.params).In h∧(∀ u∈[t],h.get? u=some (PySem.W.tabObj #[]))∧(∀ u∈[t],isCodeTable h u)∧∀ u∈[t],(K w.params).lookup u=none)
   (F:∀ (w:World) (mg:Str->Option Value) (fa:Addr) (h:Heap),(K w.params).In h->h.Ns mainGlobals mg->mg d.name=some (.ref fa) ->
     ∃ fd:FuncData,(∀ (s:Shared) (u:Value),BindsTo s fd ⟨[u],[]⟩ [("_law_script",u)])∧∀ base:Heap,(K w.params).In base->base.Ns mainGlobals mg->qc6 mg base->qB l.prog w (K w.params) mg base CX0 12 fa fd ["_law_script"] (qeJ (K w.params) t)) :
   PySem.W.WalkO q loose XP YP l.row.toRowW d [] (fun f vs=>PySem.call f vs) :=
 L2.walk_ofT (ts:=[t]) (n:=63) (k:=12) (x:="_law_script") (CX:=fun _=>CX0) (sp:=fun w=>qeJ (K w.params) t) hn (by decide) hdf ⟨rfl,by decide,by decide,rfl⟩ hY F (fun _ _ a ns hl _ hT hS=>⟨a,ns,rfl,hS,hl,⟨#[],hT t List.mem_cons_self,True.intro,.inl rfl⟩,fun _=>rfl⟩) fun _ _ _ _ _ z=>z
end K81
open PySem PySem.W PyProof.Rows
namespace PySem.W.Fast
def tw16216013063058110586:=0
def tw14876811423150642728:=0
def tw732605011234388780:=0
def tw3986009174137473412:=0
def tw15925187969283368786:=0
def tw13401217892179188761:=0
def tw16475487635972821094:=0
def tw12969240255146518009:=0
def tw6441942242327471114:=0
def tw8287066224909713214:=0
def tw10536162322988962358:=0
def tw7482141755276101775:=0
def tw389555214737581575:=0
def tw16081459286831358461:=0
def tw165455223728913422:=0
def tw4619729944003565678:=0
def tw3864608844870263859:=0
def tw4256333310170484433:=0
def tw954130935119108918:=0
def tw10606509617288239326:=0
def tw15690390481830298164:=0
def tw8030677597630219665:=0
def tw5590897633171828030:=0
def tw4296812540218559187:=0
def tw15217383373955294684:=0
def tw12508561624647962062:=0
def tw3246269718436882948:=0
def tw5848410123019774527:=0
def tw14713591863951218149:=0
def tw14676595676554812976:=0
def tw6331818449646415381:=0
def tw6486126218546985501:=0
def tw16935126982352292369:=0
def tw10455261967565071718:=0
def tw9340762540094806686:=0
def tw2668224441781414776:=0
def tw17810484101828532905:=0
def tw9755563955047479592:=0
def tw7648318874148159900:=0
def tw125270634447569737:=0
def tw7470597706937448812:=0
def tw5228612766215612655:=0
def tw2930106978321789523:=0
def tw11557863033344325634:=0
def tw5599697946313762459:=0
def tw8813426428713672912:=0
def tw15151247843741660908:=0
def tw9341347571252024013:=0
def tw11149218835351499159:=0
def tw1365837412194540808:=0
def tw12858911632941164239:=0
def tw5325334260451077875:=0
def tw17876633634152316457:=0
def tw246789177635578507:=0
def tw5642692357705378755:=0
def tw6327392052253083950:=0
def tw8883691295042207276:=0
def tw83182340257807232:=0
def tw12832844711043158083:=0
def tw11732645355668397557:=0
def tw13569505146552876725:=0
def tw5936517101102899417:=0
def tw15981800422530814097:=0
def tw13102451715987058973:=0
def tw15570057782284240013:=0
def tw5930470998451444194:=0
def tw8614224474083901454:=0
def tw2853213394260179855:=0
def tw11220226595645023024:=0
def tw5759596959757041616:=0
def tw8305083321369588114:=0
def tw13812794240476311869:=0
def tw1228565463389537153:=0
def tw5092577462517997738:=0
def tw14542012620939431690:=0
def tw6001250833889490524:=0
def tw6894321619463582869:=0
def tw9016956902058115835:=0
def tw5498046234760860165:=0
def tw17648045171554202936:=0
def tw17165180209510044224:=0
def tw15737990395303609658:=0
def tw4150549133153247053:=0
def tw5528955645721689705:=0
def tw2815476499627326933:=0
def tw16696769177187176061:=0
def tw12048278159665961117:=0
def tw4953655025256492811:=0
def tw13000716953193347469:=0
def tw4198583649581499788:=0
def tw1896379453584449688:=0
def tw1530579118796612161:=0
def tw15406880604529712503:=0
def tw1951742119362268823:=0
def tw6285164581053880325:=0
def tw435873929807928240:=0
def tw8659500041782029281:=0
def tw14869281242330918160:=0
def tw4180755962093322062:=0
def tw13588216329600732741:=0
def tw14903818817980692580:=0
def tw2172466544117864314:=0
def tw1981052547188096409:=0
def tw2547465182949084540:=0
def tw16402867339318889376:=0
def tw2470125755793639221:=0
def tw9661680864922258012:=0
def tw3822141150467746:=0
def tw12804926323058964051:=0
def tw15209376347076208261:=0
def tw5198279388241410827:=0
def tw7451545301021363247:=0
def tw5722530291195265975:=0
def tw16335471756166637432:=0
def tw3074627225645504155:=0
def tw6722318632793826441:=0
def tw15651646532593844193:=0
def tw3793973185910120548:=0
def tw16066617220260615371:=0
def tw15967071384844875924:=0
def tw9071829585852938177:=0
def tw12872144334039865943:=0
def tw12841384185803695179:=0
def tw9283843297366233540:=0
def tw9234915052603486564:=0
def tw17754215168423710802:=0
def tw6143435540847498730:=0
def tw2410400907794062059:=0
def tw2007032243246850436:=0
def tw98029151841776070:=0
def tw273903549223735436:=0
def tw4223900587655359831:=0
def tw6135530889267477756:=0
def tw15873220591123448331:=0
def tw11391905783086224245:=0
def tw13479191449093200365:=0
def tw6848914522711841160:=0
def tw11612003652109160771:=0
def tw2104373746668068637:=0
def tw5674896577645102775:=0
def tw3438467582901162332:=0
def tw5037036939626104330:=0
def tw3421367043911333959:=0
def tw6514927956675235081:=0
def tw5124720495666791934:=0
def tw11220078626148024429:=0
def tw11242865229897969152:=0
def tw15288575626184484818:=0
def tw4125064915810314497:=0
def tw13252255321766382655:=0
def tw17608414334312013796:=0
def tw1946953200930571362:=0
def tw15127629872810310436:=0
def tw276695132601431683:=0
def tw2409853488818974834:=0
def tw3195757105771284589:=0
def tw26033416995375908:=0
def tw4866970816659734461:=0
def tw9955795634463220351:=0
def tw17905506976891524061:=0
def tw11661723121757158895:=0
def tw14294651570277935752:=0
def tw9989066060797496346:=0
def tw10916102225809383988:=0
def tw2257811022344579012:=0
def tw4801739998969275476:=0
def tw7444845928315506415:=0
def tw17077656047422033341:=0
def tw2103943251382168444:=0
def tw2763097542447551151:=0
def tw8977566364625358797:=0
def tw2466025763336430766:=0
def tw6517042801111954084:=0
def tw14027461732928680610:=0
def tw2637168590376966760:=0
def tw17107544954241073587:=0
def tw5930606968048991448:=0
def tw4726478130454805248:=0
def tw5037023152091731369:=0
def tw16400867240171511544:=0
def tw10162883361412360307:=0
def tw16596351731106612625:=0
def tw16136525876164712321:=0
def tw16804065189470277296:=0
def tw12667218364998613608:=0
def tw10508886570685312661:=0
def tw2935851677589358347:=0
def tw17861053993730553724:=0
def tw7673026562790249346:=0
def tw10464420220562287399:=0
def tw5761575252494712629:=0
def tw5179309902893848526:=0
def tw5650507078360525273:=0
def tw3160988197370182486:=0
def tw12750001126734652633:=0
def tw1069433124754324936:=0
def tw427418301311540894:=0
def tw3353699359743625454:=0
def tw4362768542210546717:=0
def tw16537341776511970567:=0
def tw8824840408716365438:=0
def tw9830848415687248643:=0
def tw9040888175906695645:=0
def tw7127022902642151715:=0
def tw4773077532640747262:=0
def tw4608840341678151561:=0
def tw2698814955934965626:=0
def tw18222338944813363068:=0
def tw14886144326473471080:=0
def tw6250424018802779624:=0
def tw13547650846986850969:=0
def tw17249907198552004300:=0
def tw2826699142501138772:=0
def tw18387746906744348189:=0
def tw9502103524736030174:=0
def tw9598581487667942921:=0
def tw17945124876332586552:=0
def tw16273066457858019448:=0
def tw7367916220042836877:=0
def tw15730103900578379452:=0
def tw7193584452568145844:=0
def tw1358636253833936011:=0
def tw18172537190763199396:=0
def tw13268583442914958616:=0
def tw15988983501345722319:=0
def tw16464776384141071285:=0
def tw1121291193255586321:=0
def tw8048998963081010565:=0
def tw12208274845009917901:=0
def tw18163895912149761836:=0
def tw11747141528654220459:=0
def tw5108433832142250261:=0
def tw14843072127551687623:=0
def tw16127766711511533102:=0
def tw14362193553131737112:=0
def tw9034825083319847300:=0
def tw1615585161828858417:=0
def tw12797241901360867443:=0
def tw12604576135995134165:=0
def tw10472391375456334827:=0
def tw15982473135401958373:=0
def tw1248198674913648822:=0
def tw15215142567471973038:=0
def tw9768300409994405073:=0
def tw2280015854544510480:=0
def tw5725345307061118949:=0
end PySem.W.Fast
set_option maxHeartbeats 0 in
theorem PySem.Challenge.cw_foldlog_k81_forms_of_entries_holds : PySem.Challenge.rw_foldlog_k81_forms_of_entries.Holds := by
 w_on;o_law;km_head;(case hw=>w_witness2)
 k_fill
 refine K81.walk (t:=568) (l:=PySem.Challenge.rw_foldlog_k81_forms_of_entries) rfl rfl (fun w h Y=>⟨PySem.W.km_in_of Y,PySem.W.km_tabs_of Y,fun u m=>by cases List.mem_singleton.mp m;exact((PySem.W.codeHd_of_K (c:=572) (PySem.W.km_in_of Y) (by kernel_rfl)).tab (PySem.W.km_tabs_of Y 568 (List.mem_singleton.mpr rfl))).isCodeTable,fun u m=>by cases List.mem_singleton.mp m;kernel_rfl⟩) ?F
 case F =>
   intro w mg fa h KX G hmg;refine' K81.all2 KX G hmg (a:=⟨572,568,_,_,_,_,_,_,_,_,_,_,_,_,_,_,_,_,_,_,_,_,_,_,_,_,_,_,_,_,_,_,_,_,_,_,_,_,_,_,_,_,_,_,_,_,_,_,_,_,_,_,_,_,_,_,_,_,_,_,_,_,_,_,_,_,_,_,_,_,_,_,_,_,_,_,_,_,_,_,_,_,_,_,_,_,_,_,_,_,_,_,_,_,_,_,_,_,_,_,_,_,_,_,_,_,_,_,_,_,_,_,_,_,_,_,_,_,_,_,_,_⟩) ?T
   case T =>
     constructor
     all_goals try dsimp only
     all_goals try refine' PySem.W.mg_of KX G ?_
     all_goals try refine' PySem.W.mg_none_of KX G ?_
     all_goals try refine' ⟨_,PySem.W.mg_of KX G ?_⟩
     all_goals try k_is
     all_goals try refine' K81.mkDf KX G ?_ ?_ ?_ ?_ (fun _ _ _ _ _ _=>by first|exact K81.len_0 rfl|exact K81.len_1 fun _=>rfl|exact K81.len_2 fun _ _=>rfl|exact K81.len_3 fun _ _ _=>rfl|exact K81.len_4 fun _ _ _ _=>rfl|exact K81.len_5 fun _ _ _ _ _=>rfl)
     all_goals try refine' K81.mkDm ⟨?_,?_,?_⟩ ?_ ?_ ?_ (fun _ _ _ _ _ _=>by first|exact K81.len_0 rfl|exact K81.len_1 fun _=>rfl|exact K81.len_2 fun _ _=>rfl|exact K81.len_3 fun _ _ _=>rfl|exact K81.len_4 fun _ _ _ _=>rfl|exact K81.len_5 fun _ _ _ _ _=>rfl)
     all_goals try refine' L2.xIsa_of ?_ ?_ ?_
     all_goals try refine' L2.XMro.of ?_ ?_
     all_goals try refine' L2.xIn_of ?_ ?_
     all_goals try refine' ⟨⟨L2.xIn_of ?_ ?_,?_,?_,?_,?_,?_,?_⟩,?_,?_,?_⟩
     all_goals try refine' ⟨⟨?_,?_,?_,?_⟩,?_,?_,?_,?_⟩
     all_goals try refine' ⟨?_,?_,?_,?_⟩
     all_goals try refine' ⟨?_,?_,?_⟩
     all_goals try refine' ⟨?_,?_⟩
     all_goals try (first|k_is|rfl)
     all_goals try (first|k_is|rfl)
     all_goals try (first|k_is|rfl)
     all_goals decide
