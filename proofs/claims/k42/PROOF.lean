import PyProof.Rows.All
import OpenK.KLine
import Wide.FinOn
import KE.KSortTup
import KE.KDictOf
import KE.LcSums
import KE.KIntText
import KE.KNestM
import KE.KRevSl
import KE.KFromBytes
import KE.KItemsList
import KE.KIsAll
import KE.KEqDict
import KE.KLam
import KE.KRevIter
import KE.KMinKey
import PySem.Challenge.RW_foldlog_k42_frames_of_logs
set_option maxHeartbeats 4000000
set_option Elab.async false
set_option linter.all false
set_option maxRecDepth 100000
namespace L2
open PySem PySem.Spec PyProof.Rows
open PySem.W (instObj methodObj Frag lookIn plainGet hasDictIn findIn handedIn plainGet_of isFn plainOver takerIn makesIn emptyDict keepIn kia_one kitx_list kitx_dict callWith_K callWith_K0 fnOf)
abbrev Key:=Sum Int Str
def qdH:Key->Value->Bool
 | .inl k,v=>Value.isInt k v
 | .inr x,v=>Value.isStrOf x v
def qmi (w:World):Key->Int
 | .inl k=>hashInt k
 | .inr x=>hashStr w x
theorem zn:∀ {k:Key}{v:Value},qdH k v=true->(∃ i t,k=Sum.inl i∧v=Value.int i t)∨(∃ x t,k=Sum.inr x∧v=Value.str x t)
 | .inl i,v,h=>by
   obtain⟨t,e⟩:=Value.isInt_shape (k:=i) (v:=v) h;exact .inl ⟨i,t,rfl,e⟩
 | .inr x,v,h=>by
   obtain⟨t,e⟩:=Value.isStrOf_shape (x:=x) (v:=v) h;exact .inr ⟨x,t,rfl,e⟩
theorem qgb (i:Int) (t:Tok):qdH (.inl i) (.int i t)=true:=by simp[qdH,Value.isInt]
theorem qga (x:Str) (t:Tok):qdH (.inr x) (.str x t)=true:=by simp[qdH,Value.isStrOf]
theorem qky (a b:Int):decide ((Sum.inl a:Key)=Sum.inl b)=(a == b):=by
 by_cases e:a=b
 · subst e;simp
 · have h:¬ (Sum.inl a:Key)=Sum.inl b:=fun q=>e (Sum.inl.inj q);rw[decide_eq_false h];exact(beq_eq_false_iff_ne.mpr e).symm
theorem qkv (a b:Str):decide ((Sum.inr a:Key)=Sum.inr b)=decide (a=b):=by
 by_cases e:a=b
 · subst e;simp
 · have h:¬ (Sum.inr a:Key)=Sum.inr b:=fun q=>e (Sum.inr.inj q);rw[decide_eq_false h,decide_eq_false e]
theorem qkx (a:Int) (b:Str):decide ((Sum.inl a:Key)=Sum.inr b)=false:=decide_eq_false (fun q=>nomatch q)
theorem qkw (a:Str) (b:Int):decide ((Sum.inr a:Key)=Sum.inl b)=false:=decide_eq_false (fun q=>nomatch q)
def zF (prog:Program) (w:World):PySem.KeyKind prog w Key where
 is:=qdH
 hash:=qmi w
 inj:=fun v a b ha hb=>by
   rcases zn ha with ⟨i,t,rfl,rfl⟩|⟨x,t,rfl,rfl⟩
   · rcases zn hb with ⟨j,u,rfl,e⟩|⟨y,u,rfl,e⟩
     · injection e with e1 _;rw[e1]
     · exact nomatch e
   · rcases zn hb with ⟨j,u,rfl,e⟩|⟨y,u,rfl,e⟩
     · exact nomatch e
     · injection e with e1 _;rw[e1]
 byValue:=fun k v h=>by
   rcases zn h with ⟨i,t,rfl,rfl⟩|⟨x,t,rfl,rfl⟩<;>rfl
 pyHash:=fun hv h=>by
   rcases zn hv with ⟨i,t,rfl,rfl⟩|⟨x,t,rfl,rfl⟩
   · exact wpAny_pyHash_int h
   · exact wpAny_pyHash_str h
 eqBool:=fun hu hv h=>by
   rcases zn hu with ⟨i,t,rfl,rfl⟩|⟨x,t,rfl,rfl⟩
   · rcases zn hv with ⟨j,u,rfl,rfl⟩|⟨y,u,rfl,rfl⟩
     · rw[qky]at h;exact wpAny_eqBool_int h
     · rw[qkx]at h;exact SeqAt.EqAt.int_str i t y u _ _ _ _ h
   · rcases zn hv with ⟨j,u,rfl,rfl⟩|⟨y,u,rfl,rfl⟩
     · rw[qkw]at h;exact SeqAt.EqAt.str_int x t j u _ _ _ _ h
     · rw[qkv]at h;exact wpAny_eqBool_str h
 «strs»:=fun k x t v h=>by
   rcases zn h with ⟨i,u,rfl,e⟩|⟨y,u,rfl,e⟩
   · exact nomatch e
   · injection e with e1 _;subst e1;cases v<;>rfl
theorem qdE (prog:Program) (w:World) (i:Int) (t:Tok):(zF prog w).is (.inl i) (.int i t)=true:=qgb i t
theorem qdD (prog:Program) (w:World) (x:Str) (t:Tok):(zF prog w).is (.inr x) (.str x t)=true:=qga x t
inductive V where
 | non|bl (b:Bool)|int (i:Int)|str (x:Str)|byt (b:Array UInt8)|flt (b:UInt64)|ref (a:Addr)|ty (n:String)
 deriving DecidableEq
def RelV:V->Value->Prop
 | .non,u=>u=Value.none
 | .bl b,u=>u=Value.bool b
 | .int i,u=>∃ t,u=Value.int i t
 | .str x,u=>∃ t,u=Value.str x t
 | .byt b,u=>∃ t,u=Value.bytes b t
 | .flt b,u=>∃ t,u=Value.float b t
 | .ref a,u=>u=Value.ref a
 | .ty n,u=>u=Value.type n
abbrev Vals:List V->List Value->Prop:=Paired RelV
theorem Vals.length {xs:List V}{us:List Value} (r:Vals xs us):xs.length=us.length:=Paired.length r
theorem Vals.get:∀ {xs:List V}{us:List Value}{i:Nat}{x:V},Vals xs us->xs[i]?=some x->∃ u,us[i]?=some u∧RelV x u
 | _,_,_,_,.nil,e=>by simp at e
 | _,_,0,_,.cons r _,e=>by simp at e;subst e;exact⟨_,rfl,r⟩
 | _,_,i+1,x,.cons _ t,e=>by
   obtain⟨u,h1,h2⟩:=Vals.get (i:=i) (x:=x) t (by simpa using e);exact⟨u,by simpa using h1,h2⟩
theorem Vals.set {x:V}{u:Value} (r:RelV x u):∀ {xs:List V}{us:List Value} (i:Nat),Vals xs us->Vals (xs.set i x) (us.set i u)
 | _,_,_,.nil=>.nil
 | _,_,0,.cons _ t=>.cons r t
 | _,_,i+1,.cons q t=>.cons q (Vals.set r i t)
theorem Vals.append:∀ {xs ys:List V}{us ws:List Value},Vals xs us->Vals ys ws->Vals (xs++ys) (us++ws)
 | _,_,_,_,.nil,s=>s
 | _,_,_,_,.cons r t,s=>.cons r (Vals.append t s)
theorem Vals.take:∀ {xs:List V}{us:List Value} (n:Nat),Vals xs us->Vals (xs.take n) (us.take n)
 | _,_,0,_=>.nil
 | _,_,_+1,.nil=>.nil
 | _,_,n+1,.cons r t=>.cons r (Vals.take n t)
theorem Vals.drop:∀ {xs:List V}{us:List Value} (n:Nat),Vals xs us->Vals (xs.drop n) (us.drop n)
 | _,_,0,r=>r
 | _,_,_+1,.nil=>.nil
 | _,_,n+1,.cons _ t=>Vals.drop n t
def RelO:Option V->Option Value->Prop
 | some v,some u=>RelV v u
 | none,none=>True
 | _,_=>False
def KV {κ:Type}:List (κ×V)->List (κ×Value)->Prop:=Paired fun (p:κ×V) (q:κ×Value)=>p.1=q.1∧RelV p.2 q.2
def kV:Key->V
 | .inl i=>.int i
 | .inr x=>.str x
inductive HO where
   | lst (xs:List V)
   | tup (xs:List V)
   | dK (kvs:List (Key×V))|dT (kvs:List (List Key×V))
   | set (S:Int->Bool) (n:Nat)
   | ins (C dx:Addr) (fs:List (Str×V))
   | own (x:Addr)
   | xd (fs:List (Str×V))
   | met (f x:Addr)
   | rng (lo hi:Int)
   | frz (o:Obj) (u:HO)
   | tbl (ps:Array Value)
   | ext (φ:Heap->Prop)
abbrev Hp:=Addr->Option HO
def upd (H:Hp) (a:Addr) (o:HO):Hp:=fun b=>if b=a then some o else H b
theorem qc {H:Hp}{a:Addr}{o:HO}:upd H a o a=some o:=by unfold upd;rw[if_pos rfl]
theorem qh {H:Hp}{a b:Addr}{o:HO} (h:b≠a):upd H a o b=H b:=by unfold upd;rw[if_neg h]
theorem zN {H:Hp}{a b:Addr}{o u:HO} (h:H a=some o) (h':H b=some u) (d:o≠u):a≠b:=by
 intro e;subst e;rw[h]at h';exact d (Option.some.inj h')
theorem qi {H:Hp}{a b:Addr}{o:HO} (h:H a=some o) (h':H b=none):a≠b:=by
 intro e;subst e;rw[h]at h';cases h'
section
variable (P:Program) (w:World)
def ObjOk (H:Hp) (h:Heap) (a:Addr):HO->Prop
 | .lst xs=>xs.length≤sizeLine∧∃ (its:List Value) (n:Nat),Vals xs its∧h.get? a=some { cls:=.type "list",data:=.seq its.toArray n }
 | .tup xs=>xs.length≤sizeLine∧∃ its:List Value,Vals xs its∧IsTup h a its.toArray
 | .dK kvs=>kvs.length≤sizeLine∧(a == sysModules)=false∧∃ vs,KV kvs vs∧h.DictOf (zF P w) a vs
 | .dT kvs=>kvs.length≤sizeLine∧(a == sysModules)=false∧∃ xs:List (List Key×Addr×Value),
     Paired (fun (p:List Key×V) (q:List Key×Addr×Value)=>p.1=q.1∧H q.2.1=some (.tup (p.1.map kV))∧RelV p.2 q.2.2) kvs xs ∧
     ∃ o es ep,h.get? a=some o∧o.ExactDict∧o.data=.dict es ep∧es.toList=xs.map (entryOfKey (tupleKind (zF P w)))∧(xs.map (·.1)).Nodup
 | .set S n=>h.SetOf (intKind P w) a S n
 | .ins C dx fs=>H dx=some (.own a)∧fs.length≤1000∧dx≠a∧h.get? a=some (instObj C dx) ∧
     ∃ mA,h.Ns1 dx mA∧(∀ f,RelO (fs.lookup f) (mA f))∧PySem.Within mA (fs.map (·.1))
 | .own _=>∃ o,h.get? a=some o
 | .xd fs=>∃ mA,h.Ns1 a mA∧∀ f,RelO (fs.lookup f) (mA f)
 | .rng lo hi=>∃ t u v,h.get? a=some { cls:=.type "range",data:=.fields #[.int lo t,.int hi u,.int 1 v] }
 | .frz o u=>h.get? a=some o∧ObjOk H h a u
 | .tbl ps=>h.get? a=some { cls:=.none,data:=.fields ps }
 | .met f x=>h.get? a=some (methodObj (.ref f) (.ref x))
 | .ext φ=>φ h∧(∃ o,h.get? a=some o)∧∀ h1 h2:Heap,φ h1->(∀ o,h1.get? a=some o->h2.get? a=some o)->φ h2
def HOk (H:Hp) (h:Heap):Prop:=∀ a o,H a=some o->ObjOk P w H h a o
end
section
variable {P:Program}{w:World}{H H':Hp}{h h':Heap}{a:Addr}{o:HO}
theorem ObjOk.lt (x:ObjOk P w H h a o):a < h.objs.size:=by
 cases o with
 | lst xs=>obtain⟨_,_,_,_,e⟩:=x;exact Heap.lt_size e
 | tup xs=>obtain⟨_,_,_,p⟩:=x;exact p.lt
 | dK kvs=>obtain⟨_,_,_,_,o,_,_,e,_⟩:=x;exact Heap.lt_size e
 | dT kvs=>obtain⟨_,_,_,_,o,_,_,e,_⟩:=x;exact Heap.lt_size e
 | set S n=>obtain⟨o,_,_,_,e,_⟩:=x;exact Heap.lt_size e
 | ins C dx fs=>obtain⟨_,_,_,e,_⟩:=x;exact Heap.lt_size e
 | own y=>obtain⟨_,e⟩:=x;exact Heap.lt_size e
 | xd fs=>obtain⟨_,⟨_,_,_,e,_⟩,_⟩:=x;exact Heap.lt_size e
 | rng lo hi=>obtain⟨_,_,_,e⟩:=x;exact Heap.lt_size e
 | frz ob u=>obtain⟨e,_⟩:=x;exact Heap.lt_size e
 | tbl ps=>exact Heap.lt_size (show h.get? a=some _ from x)
 | met f y=>exact Heap.lt_size (show h.get? a=some _ from x)
 | ext φ=>obtain⟨_,⟨_,e⟩,_⟩:=x;exact Heap.lt_size e
theorem Paired.mapP {α β:Type}{F G:α->β->Prop}:∀ {l₁:List α}{l₂:List β},Paired F l₁ l₂->(∀ a b,F a b->G a b)->Paired G l₁ l₂
 | _,_,.nil,_=>.nil
 | _,_,.cons r t,f=>.cons (f _ _ r) (Paired.mapP t f)
theorem ObjOk.stay (x:ObjOk P w H h a o) (k:∀ b u,(b=a∨H b=some (.own a))->h.get? b=some u->h'.get? b=some u)
   (ho:∀ b,H b=some (.own a)->H' b=some (.own a)) (ht:∀ b xs,H b=some (.tup xs)->H' b=some (.tup xs)):ObjOk P w H' h' a o:=by
 induction o with
 | lst xs=>obtain⟨z,its,n,r,e⟩:=x;exact⟨z,its,n,r,k _ _ (.inl rfl) e⟩
 | tup xs=>obtain⟨z,its,r,ob,e,c⟩:=x;exact⟨z,its,r,ob,k _ _ (.inl rfl) e,c⟩
 | dK kvs=>obtain⟨z,y,vs,r,ob,es,ep,e,c⟩:=x;exact⟨z,y,vs,r,ob,es,ep,k _ _ (.inl rfl) e,c⟩
 | dT kvs =>
   obtain⟨z,y,xs,r,ob,es,ep,e,c⟩:=x;exact⟨z,y,xs,Paired.mapP r fun p q z=>⟨z.1,ht _ _ z.2.1,z.2.2⟩,ob,es,ep,k _ _ (.inl rfl) e,c⟩
 | set S n=>obtain⟨ob,es,ep,t,e,c⟩:=x;exact⟨ob,es,ep,t,k _ _ (.inl rfl) e,c⟩
 | ins C dx fs =>
   obtain⟨d,z,ne,e,mA,⟨od,es,ep,e2,c⟩,r⟩:=x;exact⟨ho _ d,z,ne,k _ _ (.inl rfl) e,mA,⟨od,es,ep,k _ _ (.inr d) e2,c⟩,r⟩
 | own y=>obtain⟨ob,e⟩:=x;exact⟨ob,k _ _ (.inl rfl) e⟩
 | xd fs=>obtain⟨mA,⟨od,es,ep,e,c⟩,r⟩:=x;exact⟨mA,⟨od,es,ep,k _ _ (.inl rfl) e,c⟩,r⟩
 | rng lo hi=>obtain⟨t,u,v,e⟩:=x;exact⟨t,u,v,k _ _ (.inl rfl) e⟩
 | frz ob u ih=>obtain⟨e,q⟩:=x;exact⟨k _ _ (.inl rfl) e,ih q⟩
 | tbl ps =>
   have e:h.get? a=some { cls:=.none,data:=.fields ps }:=x;show h'.get? a=some { cls:=.none,data:=.fields ps };exact k a _ (.inl rfl) e
 | met f y =>
   have e:h.get? a=some (methodObj (.ref f) (.ref y)):=x;show h'.get? a=some (methodObj (.ref f) (.ref y));exact k a _ (.inl rfl) e
 | ext φ=>obtain⟨p,⟨o,e⟩,st⟩:=x;exact⟨st _ _ p fun o q=>k _ _ (.inl rfl) q,⟨o,k _ _ (.inl rfl) e⟩,st⟩
theorem HOk.lt (x:HOk P w H h) (e:H a=some o):a < h.objs.size:=(x a o e).lt
theorem HOk.fresh (x:HOk P w H h) (e:h.objs.size≤a):H a=none:=by
 cases q:H a with
 | none=>rfl
 | some u=>exact absurd (Nat.lt_of_lt_of_le (x.lt q) e) (Nat.lt_irrefl _)
theorem HOk.kept (x:HOk P w H h) (k:∀ b u,h.get? b=some u->h'.get? b=some u):HOk P w H h':=fun a o e =>
 (x a o e).stay (fun b u _ q=>k b u q) (fun _ q=>q) fun _ _ q=>q
theorem HOk.laid (x:HOk P w H h) (k:∀ b u,h.get? b=some u->h'.get? b=some u) (hp:h.objs.size≤a) (new:ObjOk P w (upd H a o) h' a o):HOk P w (upd H a o) h':=fun b u e=>by
 have hn:=x.fresh hp;by_cases hb:b=a
 · subst hb;rw[qc]at e;cases e;exact new
 · rw[qh hb]at e;exact(x b u e).stay (fun c v _ q=>k c v q) (fun c q=>by rw[qh (qi q hn)];exact q) fun c xs q=>by rw[qh (qi q hn)];exact q
end
def Rd (H:Hp) (a:Addr) (u:HO):Prop:=H a=some u∨∃ o,H a=some (.frz o u)
theorem Rd.ok {P:Program}{w:World}{H:Hp}{h:Heap}{a:Addr}{u:HO} (r:Rd H a u) (x:HOk P w H h):ObjOk P w H h a u:=by
 rcases r with r|⟨o,r⟩
 · exact x a u r
 · obtain⟨_,q⟩:=x a _ r;exact q
def Mut:Option HO->Prop
 | some (.lst _)=>True
 | some (.dK _)=>True
 | some (.dT _)=>True
 | some (.set _ _)=>True
 | some (.ins _ _ _)=>True
 | some (.ext _)=>True
 | _=>False
section
variable {P:Program}{w:World}{H:Hp}{h h':Heap}{x e:Addr}{o':HO}
theorem HOk.write (ok:HOk P w H h) (mu:Mut (H x)) (he:e=x∨H e=some (.own x)) (k:∀ b u,b≠e->h.get? b=some u->h'.get? b=some u) (heo:∃ u,h'.get? e=some u)
   (new:ObjOk P w (upd H x o') h' x o'):HOk P w (upd H x o') h':=fun b u q=>by
 have nown:∀ c y,H c=some (.own y)->c≠x:=fun c y r z=>by subst z;rw[r]at mu;exact mu
 have ntup:∀ c xs,H c=some (.tup xs)->c≠x:=fun c xs r z=>by subst z;rw[r]at mu;exact mu
 by_cases hb:b=x
 · subst hb;rw[qc]at q;cases q;exact new
 · rw[qh hb]at q;by_cases hbe:b=e
   · have q':H b=some (.own x):=by
       rcases he with z|z
       · exact absurd (hbe.trans z) hb
       · rw[hbe];exact z
     rw[q]at q';cases q';obtain⟨v,hv⟩:=heo;exact⟨v,by rw[hbe];exact hv⟩
   · refine(ok b u q).stay (fun c v hc r=>k c v ?_ r) (fun c r=>by rw[qh (nown c b r)];exact r) fun c xs r=>by rw[qh (ntup c xs r)];exact r
     rcases hc with rfl|hc
     · exact hbe
     · rintro rfl;rcases he with z|z
       · exact nown c b hc z
       · rw[hc]at z;cases z;exact hb rfl
end
structure Un (fs ex:List Addr) (H H':Hp) (h h':Heap):Prop where
 keep:∀ b o,h.get? b=some o->H b=none->b∉fs->b∉ex->h'.get? b=some o
 slot:∀ b o,h.get? b=some o->H b=none->b∈fs->b∉ex->∃ sl,h'.get? b=some { o with slots:=sl }
 free:∀ b o,h.get? b=some o->H b=none->b∉ex->H' b=none
 there:∀ b o,h.get? b=some o->b∉ex->∃ o',h'.get? b=some o'
 tups:∀ b xs,H b=some (.tup xs)->H' b=some (.tup xs)
 frzs:∀ b o u,H b=some (.frz o u)->H' b=some (.frz o u)
 tbls:∀ b ps,H b=some (.tbl ps)->∃ more,H' b=some (.tbl (ps++more))
section
variable {fs fs' ex ex':List Addr}{H H1 H2:Hp}{h h1 h2 h':Heap}{a x e:Addr}{o:HO}
theorem Un.any (u:Un fs ex H H1 h h1) {b:Addr}{ob:Obj} (q:h.get? b=some ob) (n:H b=none) (hx:b∉ex):∃ sl,h1.get? b=some { ob with slots:=sl }:=by
 by_cases hb:b∈fs
 · exact u.slot b ob q n hb hx
 · exact⟨ob.slots,u.keep b ob q n hb hx⟩
theorem Un.kept (k:∀ b u,h.get? b=some u->h'.get? b=some u):Un fs ex H H h h' :=
 ⟨fun b ob q _ _ _=>k b ob q,fun b ob q _ _ _=>⟨ob.slots,k b ob q⟩,fun _ _ _ n _=>n,fun b ob q _=>⟨ob,k b ob q⟩,fun _ _ q=>q,fun _ _ _ q=>q,fun _ ps q=>⟨#[],by rw[q];simp⟩⟩
theorem Un.refl:Un fs ex H H h h:=Un.kept fun _ _ q=>q
theorem Un.laid (k:∀ b u,h.get? b=some u->h'.get? b=some u) (hp:h.objs.size≤a) (hn:H a=none):Un fs ex H (upd H a o) h h' where
 keep:=fun b u q _ _ _=>k b u q
 slot:=fun b u q _ _ _=>⟨u.slots,k b u q⟩
 free:=fun b u q n _=>by rw[qh (Nat.ne_of_lt (Nat.lt_of_lt_of_le (Heap.lt_size q) hp))];exact n
 there:=fun b u q _=>⟨u,k b u q⟩
 tups:=fun b xs q=>by rw[qh (qi q hn)];exact q
 frzs:=fun b u xs q=>by rw[qh (qi q hn)];exact q
 tbls:=fun b ps q=>⟨#[],by rw[qh (qi q hn),q];simp⟩
theorem Un.write (mu:Mut (H x)) (he:e=x∨H e=some (.own x)) (k:∀ b u,b≠e->h.get? b=some u->h'.get? b=some u) (heo:∃ u,h'.get? e=some u):Un fs ex H (upd H x o) h h':=by
 have hx:∀ b,H b=none->b≠x:=fun b n z=>by subst z;rw[n]at mu;exact mu
 have hb:∀ b,H b=none->b≠e:=fun b n z=>by
   subst z;rcases he with r|r
   · exact hx b n r
   · rw[n]at r;cases r
 have hm:∀ b u,H b=some u->¬ Mut (some u)->b≠x:=fun b u q nm z=>by subst z;rw[q]at mu;exact nm mu
 refine⟨fun b u q n _ _=>k b u (hb b n) q,fun b u q n _ _=>⟨u.slots,k b u (hb b n) q⟩,fun b u q n _=>by rw[qh (hx b n)];exact n,fun b u q _=>?_,
   fun b xs q=>by rw[qh (hm b _ q fun z=>z)];exact q,fun b u xs q=>by rw[qh (hm b _ q fun z=>z)];exact q,fun b ps q=>⟨#[],by rw[qh (hm b _ q fun z=>z),q];simp⟩⟩
 by_cases hbe:b=e
 · subst hbe;exact heo
 · exact⟨u,k b u hbe q⟩
end
def trk (h:Heap) (H:Hp):List Addr:=(List.range h.objs.size).filter fun a=>(H a).isSome
def qgO (h:Heap) (H:Hp):Heap:=PySem.W.hideAll h (trk h H)
theorem qgh (h:Heap) (H:Hp):(qgO h H).objs.size=h.objs.size:=PySem.W.hideAll_size _ _
theorem qhy {h:Heap}{H:Hp}{b:Addr}{o:Obj} (e:h.get? b=some o) (n:H b=none):(qgO h H).get? b=some o :=
 PySem.W.hideAll_get _ e fun hm=>by
   have q:(H b).isSome=true:=(List.mem_filter.mp hm).2;rw[n]at q;simp at q
theorem qje {h:Heap}{H:Hp}{b:Addr}{o:Obj} (e:(qgO h H).get? b=some o):h.get? b=some o∧H b=none:=by
 have e':h.get? b=some o:=PySem.W.of_hideAll (trk h H) e;refine⟨e',?_⟩
 cases q:H b with
 | none=>rfl
 | some x =>
   have hm:b∈trk h H:=List.mem_filter.mpr ⟨List.mem_range.mpr (Heap.lt_size e'),by simp[q]⟩;have z:(qgO h H).get? b=none:=PySem.W.hideAll_none (trk h H) hm;rw[z]at e;cases e
structure Mod (K:Frag) (mg:Str->Option Value) (base:Heap):Prop where
 kin:K.In base
 glob:base.Ns mainGlobals mg
 blt:∃ mb,base.Ns builtinsNs mb∧∀ x:Str,x≠"__name__"->mb x=bootBuiltins x
 nolimit:base.NoLimit
structure Cx where
 prog:Program
 w:World
 K:Frag
 mg:Str->Option Value
 base:Heap
 A:Around
 N:List Str
 s₀:Shared
 H₀:Hp
 env:Env
 outer:List Env
 stack:List Env
 ex:List Addr
 fn:Str->Bool
 calm:Bool
 pn:List (Addr×Obj)
 xe:Value->Shared->Prop
def frs (l:List Env):List Addr:=l.filterMap (·.frame)
abbrev Cx.fs (X:Cx):List Addr:=frs X.outer
def Vis (sc:Scope) (x:Str):Prop:=sc.names.lookup x=some .local∨sc.names.lookup x=some .cell∨sc.names.lookup x=some .free
def Loc (sc:Scope) (x:Str):Prop:=sc.names.lookup x=some .local∨sc.names.lookup x=some .cell
def qmt (env:Env) (h:Heap) (m:Str->Option Value) (x:Str) (u:Value):Prop :=
 (env.kindOf x=some .local∧m x=some u)∨((env.kindOf x=some .cell∨env.kindOf x=some .free)∧∃ c,env.cells.lookup x=some c∧h.IsCell c (some u))
structure Cx.Ok (X:Cx):Prop where
 mod:Mod X.K X.mg X.base
 kind:X.env.scope.kind=.function
 glob:X.env.globals=mainGlobals
 blt:X.env.builtins=builtinsNs
 above:X.s₀.heap.objs.size≤X.env.locals
 inj:∀ x y c,X.env.cells.lookup x=some c->X.env.cells.lookup y=some c->x=y
 has:∀ x,(X.env.kindOf x=some .cell∨X.env.kindOf x=some .free)->∃ c,X.env.cells.lookup x=some c
 cab:∀ x c,X.fn x=true->X.env.cells.lookup x=some c->X.s₀.heap.objs.size≤c
 hd:X.calm=true->X.A.handled=none
 frames:X.A.frames=some X.stack
 stk:X.stack=X.outer∨(X.stack=X.env::X.outer∧X.env.frame=some X.env.locals)
 exf:∀ b∈X.ex,b≠X.env.locals∧∀ x c,X.env.cells.lookup x=some c->c≠b
 bs:∀ b o,X.base.get? b=some o->X.s₀.heap.get? b=some o∧X.H₀ b=none
 bsz:X.base.objs.size≤X.s₀.heap.objs.size
 noex:∀ b o,X.base.get? b=some o->b∉X.ex
 exfs:∀ b∈X.ex,b∉X.fs
 funs:X.s₀.heap.FunFrames X.base X.outer
 frf:∀ b∈X.fs,X.H₀ b=none
structure Inv (X:Cx) (pins:List (Addr×Obj)) (σ:List (Option V)) (H:Hp) (s:Shared):Prop where
 ok:X.Ok
 os:s.os=X.s₀.os
 bare:AllBare s.gens
 base:Un X.fs X.ex X.H₀ H X.s₀.heap s.heap
 loc:∃ m,s.heap.Ns X.env.locals m∧∀ (i:Nat) (x:Str) (v:V),X.N[i]?=some x->σ[i]?=some (some v)->Vis X.env.scope x->∃ u,RelV v u∧qmt X.env s.heap m x u
 cell:∀ x c,X.env.cells.lookup x=some c->∃ v,s.heap.IsCell c v
 free:H X.env.locals=none
 freeC:∀ x c,X.env.cells.lookup x=some c->H c=none
 pin:∀ p∈X.pn++pins,s.heap.get? p.1=some p.2∧H p.1=none∧p.1≠X.env.locals∧p.1∉X.fs∧∀ v,p.2.data≠.cell v
 hok:HOk X.prog X.w H s.heap
 len:σ.length=X.N.length
section
variable {X:Cx}{pins:List (Addr×Obj)}{σ:List (Option V)}{H H':Hp}{s:Shared}{h':Heap}
theorem Cx.Ok.nofr (ok:X.Ok) {b:Addr}{o:Obj} (e:X.base.get? b=some o):b∉X.fs:=fun hb=>by
 have:=(ok.funs.mem hb).1
 rw[e]at this;cases this
theorem Inv.bs (I:Inv X pins σ H s):∀ b o,X.base.get? b=some o->s.heap.get? b=some o∧H b=none:=fun b o e =>
 ⟨I.base.keep b o (I.ok.bs b o e).1 (I.ok.bs b o e).2 (I.ok.nofr e) (I.ok.noex b o e),I.base.free b o (I.ok.bs b o e).1 (I.ok.bs b o e).2 (I.ok.noex b o e)⟩
theorem Inv.bk (I:Inv X pins σ H s):∀ b o,X.base.get? b=some o->s.heap.get? b=some o:=fun b o e=>(I.bs b o e).1
theorem Inv.mod (I:Inv X pins σ H s):Mod X.K X.mg X.base:=I.ok.mod
theorem Inv.kIn (I:Inv X pins σ H s):X.K.In s.heap:=I.ok.mod.kin.keeps I.bk
theorem Inv.fr (I:Inv X pins σ H s):∃ m,Fr X.base X.env.locals s.heap m :=
 let ⟨m,hn,_⟩:=I.loc
 ⟨m,hn,I.bk,Nat.le_trans I.ok.bsz I.ok.above⟩
theorem Inv.lt (I:Inv X pins σ H s):X.env.locals < s.heap.objs.size:=let ⟨_,hn,_⟩:=I.loc;hn.lt
theorem Inv.sz (I:Inv X pins σ H s):X.s₀.heap.objs.size≤s.heap.objs.size:=Nat.le_trans I.ok.above (Nat.le_of_lt I.lt)
theorem Inv.nofs (I:Inv X pins σ H s) {a:Addr} (h:s.heap.objs.size≤a):a∉X.fs:=fun hb=>by
 obtain⟨_,o,ho,_⟩:=I.ok.funs.mem hb;exact absurd (Nat.lt_of_lt_of_le (Heap.lt_size ho) (Nat.le_trans I.sz h)) (Nat.lt_irrefl _)
theorem Inv.cne (I:Inv X pins σ H s):∀ x c,X.env.cells.lookup x=some c->c≠X.env.locals:=fun x c e z=>by
 obtain⟨v,o,ho,hd⟩:=I.cell x c e;obtain⟨m,⟨o',es,ep,ho',hd',_⟩,_⟩:=I.loc;rw[z,ho']at ho;cases ho;rw[hd']at hd;cases hd
theorem Inv.funs (I:Inv X pins σ H s):s.heap.FunFrames X.base X.outer:=by
 have all:∀ (l:List Env),(∀ b∈frs l,b∈X.fs)->X.s₀.heap.FunFrames X.base l->s.heap.FunFrames X.base l:=by
   intro l
   induction l with
   | nil=>intro _ _;trivial
   | cons env r ih =>
     intro hs hl;obtain⟨hk,⟨L,o,hf,hn,ho,hd⟩,hr⟩:=hl;have hL:L∈X.fs:=hs L (by unfold frs;rw[List.filterMap_cons,hf];exact List.mem_cons_self);obtain⟨sl,e⟩:=I.base.slot L o ho (I.ok.frf L hL) hL fun z=>I.ok.exfs L z hL;exact⟨hk,⟨L,_,hf,hn,e,hd⟩,ih (fun b hb=>hs b (by unfold frs;rw[List.filterMap_cons,hf];exact List.mem_cons_of_mem _ hb)) hr⟩
 exact all X.outer (fun _ hb=>hb) I.ok.funs
theorem Inv.stack (I:Inv X pins σ H s):s.heap.FunFrames X.base X.stack:=by
 rcases I.ok.stk with e|⟨e,hf⟩
 · rw[e];exact I.funs
 · rw[e];obtain⟨m,hn,_⟩:=I.loc;refine .cons (by rw[I.ok.kind];decide) hf hn ?_ I.funs;exact Heap.get?_none_of_le (Nat.le_trans I.ok.bsz I.ok.above)
theorem Inv.stkSub (I:Inv X pins σ H s):∀ b∈frs X.stack,b∈X.env.locals::X.fs:=fun b hb=>by
 rcases I.ok.stk with e|⟨e,hf⟩
 · rw[e]at hb;exact List.mem_cons_of_mem _ hb
 · rw[e]at hb;unfold frs at hb;rw[List.filterMap_cons,hf]at hb;exact hb
theorem Inv.stkFree (I:Inv X pins σ H s):∀ b∈frs X.stack,H b=none:=fun b hb=>by
 rcases List.mem_cons.mp (I.stkSub b hb) with e|hb
 · rw[e];exact I.free
 · obtain⟨_,o,ho,_⟩:=I.ok.funs.mem hb;exact I.base.free b o ho (I.ok.frf b hb) fun z=>I.ok.exfs b z hb
theorem Inv.step {g':Array GenState}{t':Nat}{d':Drawn}{ch:List Addr} (I:Inv X pins σ H s)
   (hch:∀ b∈ch,(b∈X.ex∨X.s₀.heap.objs.size≤b)∧b≠X.env.locals∧(∀ x c,X.env.cells.lookup x=some c->c≠b)∧∀ p∈X.pn++pins,p.1≠b)
   (keep:∀ b o,b≠X.env.locals->b∉X.fs->b∉ch->s.heap.get? b=some o->H b=none->h'.get? b=some o)
   (slot:∀ b o,b≠X.env.locals->b∈X.fs->b∉ch->s.heap.get? b=some o->H b=none->∃ sl,h'.get? b=some { o with slots:=sl }) (free:∀ b o,b∉ch->s.heap.get? b=some o->H b=none->H' b=none)
   (there:∀ b o,b∉ch->s.heap.get? b=some o->∃ o',h'.get? b=some o')
   (tups:∀ b xs,H b=some (.tup xs)->H' b=some (.tup xs)) (frzs:∀ b o u,H b=some (.frz o u)->H' b=some (.frz o u)) (tbls:∀ b ps,H b=some (.tbl ps)->∃ more,H' b=some (.tbl (ps++more)))
   (ns:∀ m,s.heap.Ns X.env.locals m->h'.Ns X.env.locals m) (hok:HOk X.prog X.w H' h') (hg:AllBare g') :
   Inv X pins σ H' { s with heap:=h',gens:=g',drawn:=d',toks:=t' }:=by
 have neL:∀ b o,X.s₀.heap.get? b=some o->b≠X.env.locals:=fun b o e=>Nat.ne_of_lt (Nat.lt_of_lt_of_le (Heap.lt_size e) I.ok.above)
 have neC:∀ b o,X.s₀.heap.get? b=some o->b∉X.ex->b∉ch:=fun b o e hx hb=>by
   rcases (hch b hb).1 with z|z
   · exact hx z
   · exact absurd (Nat.lt_of_lt_of_le (Heap.lt_size e) z) (Nat.lt_irrefl _)
 have cellK:∀ x c,X.env.cells.lookup x=some c->∀ v,s.heap.IsCell c v->h'.IsCell c v:=fun x c e v ⟨o,ho,hd⟩=>by
   have nch:c∉ch:=fun z=>(hch c z).2.2.1 x c e rfl;by_cases hc:c∈X.fs
   · obtain⟨sl,q⟩:=slot c o (I.cne x c e) hc nch ho (I.freeC x c e);exact⟨_,q,hd⟩
   · exact⟨o,keep c o (I.cne x c e) hc nch ho (I.freeC x c e),hd⟩
 refine⟨I.ok,I.os,hg,⟨fun b o e n hb hx=>?_,fun b o e n hb hx=>?_,fun b o e n hx=>?_,fun b o e hx=>?_,fun b xs e=>tups b xs (I.base.tups b xs e),fun b o xs e=>frzs b o xs (I.base.frzs b o xs e),fun b ps e=>?_⟩,?_,fun x c e=>?_,?_,fun x c e=>?_,fun p hp=>?_,hok,I.len⟩
 · exact keep b o (neL b o e) hb (neC b o e hx) (I.base.keep b o e n hb hx) (I.base.free b o e n hx)
 · obtain⟨sl,e1⟩:=I.base.slot b o e n hb hx;obtain⟨sl',e2⟩:=slot b _ (neL b o e) hb (neC b o e hx) e1 (I.base.free b o e n hx);exact⟨sl',e2⟩
 · obtain⟨o',e1⟩:=I.base.there b o e hx;exact free b o' (neC b o e hx) e1 (I.base.free b o e n hx)
 · obtain⟨o',e1⟩:=I.base.there b o e hx;exact there b o' (neC b o e hx) e1
 · obtain⟨m1,e1⟩:=I.base.tbls b ps e;obtain⟨m2,e2⟩:=tbls b _ e1;exact⟨m1++m2,by rw[e2,Array.append_assoc]⟩
 · obtain⟨m,hn,hl⟩:=I.loc;refine⟨m,ns m hn,fun i x v e1 e2 e3=>?_⟩;obtain⟨u,r,l⟩:=hl i x v e1 e2 e3;refine⟨u,r,?_⟩;rcases l with l|⟨k,c,e,z⟩
   · exact .inl l
   · exact .inr ⟨k,c,e,cellK x c e _ z⟩
 · obtain⟨v,z⟩:=I.cell x c e;exact⟨v,cellK x c e v z⟩
 · obtain⟨m,⟨o,_,_,ho,_⟩,_⟩:=I.loc;exact free _ o (fun z=>(hch _ z).2.1 rfl) ho I.free
 · obtain⟨v,o,ho,hd⟩:=I.cell x c e;exact free c o (fun z=>(hch c z).2.2.1 x c e rfl) ho (I.freeC x c e)
 · obtain⟨e,n,ne,nf,d⟩:=I.pin p hp;have nch:p.1∉ch:=fun z=>(hch p.1 z).2.2.2 p hp rfl;exact⟨keep p.1 p.2 ne nf nch e n,free p.1 p.2 nch e n,ne,nf,d⟩
theorem Inv.un {t':Nat} (I:Inv X pins σ H s) (u:Un X.fs [] H H' s.heap h') (hok:HOk X.prog X.w H' h'):Inv X pins σ H' { s with heap:=h',toks:=t' }:=by
 obtain⟨m,⟨o,es,ep,ho,r⟩,_⟩:=id I.loc;obtain⟨sl,hL⟩:=u.any ho I.free (by simp)
 exact I.step (g':=s.gens) (d':=s.drawn) (ch:=[]) (fun _ z=>nomatch z) (fun b o _ hb _ e n=>u.keep b o e n hb (by simp)) (fun b o _ hb _ e n=>u.slot b o e n hb (by simp)) (fun b o _ e n=>u.free b o e n (by simp)) (fun b o _ e=>u.there b o e (by simp)) u.tups u.frzs u.tbls (fun m' hm=>by
   obtain⟨o',es',ep',ho',r'⟩:=hm;rw[ho]at ho';cases ho'
   exact⟨_,es',ep',hL,r'⟩) hok I.bare
theorem Inv.call {g':Array GenState}{t':Nat}{d':Drawn}{ch:List Addr} (I:Inv X pins σ H s) (u:Un (frs X.stack) ch H H' s.heap h') (hok:HOk X.prog X.w H' h') (hg:AllBare g')
   (hch:∀ b∈ch,(b∈X.ex∨X.s₀.heap.objs.size≤b)∧b≠X.env.locals∧(∀ x c,X.env.cells.lookup x=some c->c≠b)∧∀ p∈X.pn++pins,p.1≠b) :
   Inv X pins σ H' { s with heap:=h',gens:=g',drawn:=d',toks:=t' }:=by
 obtain⟨m,⟨o,es,ep,ho,r⟩,_⟩:=id I.loc;obtain⟨sl,hL⟩:=u.any ho I.free fun z=>(hch _ z).2.1 rfl
 exact I.step (ch:=ch) hch (fun b o hL hb hc e n=>u.keep b o e n (fun z=>(List.mem_cons.mp (I.stkSub b z)).elim hL hb) hc) (fun b o _ _ hc e n=>u.any e n hc) (fun b o hc e n=>u.free b o e n hc) (fun b o hc e=>u.there b o e hc) u.tups u.frzs u.tbls (fun m' hm=>by
   obtain⟨o',es',ep',ho',r'⟩:=hm;rw[ho]at ho';cases ho'
   exact⟨_,es',ep',hL,r'⟩) hok hg
theorem Inv.turned {t':Nat}{it:Addr} (I:Inv X pins σ H s) (k:∀ b o,b≠it->s.heap.get? b=some o->h'.get? b=some o) (hn:H it=none) (hL:it≠X.env.locals)
   (h1:it∈X.ex∨X.s₀.heap.objs.size≤it) (h2:∀ x c,X.env.cells.lookup x=some c->c≠it) (h3:∀ p∈X.pn++pins,p.1≠it):Inv X pins σ H { s with heap:=h',toks:=t' }:=by
 have nit:∀ b u,H b=some u->b≠it:=fun b u e z=>by rw[z,hn]at e;cases e
 refine I.step (g':=s.gens) (d':=s.drawn) (ch:=[it]) (fun b hb=>?_) (fun b o _ _ hc e _=>k b o (fun z=>hc (by simp[z])) e) (fun b o _ _ hc e _=>⟨o.slots,k b o (fun z=>hc (by simp[z])) e⟩) (fun _ _ _ _ n=>n)
   (fun b o hc e=>⟨o,k b o (fun z=>hc (by simp[z])) e⟩) (fun _ _ e=>e) (fun _ _ _ e=>e) (fun b ps e=>⟨#[],by rw[e];simp⟩) (fun m hm=>?_) (fun b u e=>?_) I.bare
 · have e:b=it:=by simpa using hb
   subst e;exact⟨h1,hL,h2,h3⟩
 · obtain⟨o,es,ep,ho,r⟩:=hm;exact⟨o,es,ep,k _ o (Ne.symm hL) ho,r⟩
 · refine(I.hok b u e).stay (fun c v hc q=>k c v ?_ q) (fun _ q=>q) fun _ _ q=>q;rcases hc with z|z
   · rw[z];exact nit b u e
   · exact nit c _ z
theorem Inv.tok (I:Inv X pins σ H s) (t:Nat):Inv X pins σ H { s with toks:=t }:=I.un (h':=s.heap) (t':=t) Un.refl I.hok
theorem Inv.kept {t':Nat} (I:Inv X pins σ H s) (k:∀ b u,s.heap.get? b=some u->h'.get? b=some u):Inv X pins σ H { s with heap:=h',toks:=t' }:=I.un (Un.kept k) (I.hok.kept k)
theorem Inv.laid {a:Addr}{o:HO}{t':Nat} (I:Inv X pins σ H s) (k:∀ b u,s.heap.get? b=some u->h'.get? b=some u) (hp:s.heap.objs.size≤a) (new:ObjOk X.prog X.w (upd H a o) h' a o) :
   Inv X pins σ (upd H a o) { s with heap:=h',toks:=t' }:=I.un (Un.laid k hp (I.hok.fresh hp)) (I.hok.laid k hp new)
theorem Inv.write {x e:Addr}{o:HO}{t':Nat} (I:Inv X pins σ H s) (mu:Mut (H x)) (he:e=x∨H e=some (.own x)) (k:∀ b u,b≠e->s.heap.get? b=some u->h'.get? b=some u) (heo:∃ u,h'.get? e=some u)
   (new:ObjOk X.prog X.w (upd H x o) h' x o):Inv X pins σ (upd H x o) { s with heap:=h',toks:=t' }:=I.un (Un.write mu he k heo) (I.hok.write mu he k heo new)
theorem Inv.pins_of {pins':List (Addr×Obj)} (I:Inv X pins σ H s) (h:∀ p∈pins',s.heap.get? p.1=some p.2∧H p.1=none∧p.1≠X.env.locals∧p.1∉X.fs∧∀ v,p.2.data≠.cell v):Inv X pins' σ H s :=
 ⟨I.ok,I.os,I.bare,I.base,I.loc,I.cell,I.free,I.freeC,fun p hp=>(List.mem_append.mp hp).elim (fun z=>I.pin p (List.mem_append_left _ z)) (h p),I.hok,I.len⟩
theorem qen {N:List Str} (hN:N.Nodup) {i j:Nat}{x:Str} (a:N[i]?=some x) (b:N[j]?=some x):i=j:=by
 obtain⟨h1,e1⟩:=List.getElem?_eq_some_iff.mp a;obtain⟨h2,e2⟩:=List.getElem?_eq_some_iff.mp b;exact(List.getElem_inj hN).mp (e1.trans e2.symm)
theorem qfs {M:Model}{A:Around}{E:Value->Shared->Prop}{i:Nat}{x:Str}{v:V}{u:Value}{Q:Unit->Shared->Prop} (I:Inv X pins σ H s) (hN:X.N.Nodup) (hi:X.N[i]?=some x) (hx:Loc X.env.scope x) (r:RelV v u)
   (h:∀ s',Inv X pins (σ.set i (some v)) H s'->(∃ a,Heap.SameBut a s.heap s'.heap∧(a=X.env.locals∨X.env.cells.lookup x=some a))->Q () s') (hf:X.fn x=true∨X.env.scope.names.lookup x=some .local:=by first|exact .inl rfl|exact .inr rfl|assumption):wpAny M A (storeName X.env x u) Q E s:=by
 obtain⟨m,hn,hl⟩:=id I.loc;have hcls:(X.env.scope.kind == .class || (X.env.scope.kind == .module && X.env.locals != X.env.globals))=false:=by rw[I.ok.kind];rfl
 have hiσ:i < σ.length:=by rw[I.len];exact(List.getElem?_eq_some_iff.mp hi).1
 have cne:=I.cne
 have tracked:∀ {a:Addr}{h':Heap},(∃ o,s.heap.get? a=some o∧H a=none)->Heap.SameBut a s.heap h'->HOk X.prog X.w H h':=fun {a h'} ha hs b ob e=>by
   obtain⟨_,_,hfree⟩:=ha;refine(I.hok b ob e).stay (fun c w' hc q=>(hs.2 c ?_).trans q) (fun _ q=>q) fun _ _ q=>q;rintro rfl;rcases hc with rfl|hc
   · rw[hfree]at e;cases e
   · rw[hfree]at hc;cases hc
 rcases hx with hk|hk
 · refine wpAny_storeName_local hk hn (fun h' hn' hs=>?_) hcls;obtain⟨oL,_,_,hoL,_⟩:=id hn;refine h _ ⟨I.ok,I.os,I.bare,⟨fun b o e n hb hx=>?_,fun b o e n hb hx=>?_,I.base.free,fun b o e hx=>?_,I.base.tups,I.base.frzs,I.base.tbls⟩,⟨_,hn',fun j y v' e1 e2 e3=>?_⟩,fun y c e=>?_,I.free,I.freeC,fun p hp=>?_,tracked ⟨oL,hoL,I.free⟩ hs,by simpa using I.len⟩ ⟨_,hs,.inl rfl⟩
   · exact(hs.2 b (Nat.ne_of_lt (Nat.lt_of_lt_of_le (Heap.lt_size e) I.ok.above))).trans (I.base.keep b o e n hb hx)
   · obtain⟨sl,e1⟩:=I.base.slot b o e n hb hx;exact⟨sl,(hs.2 b (Nat.ne_of_lt (Nat.lt_of_lt_of_le (Heap.lt_size e) I.ok.above))).trans e1⟩
   · obtain⟨o',e1⟩:=I.base.there b o e hx;exact⟨o',(hs.2 b (Nat.ne_of_lt (Nat.lt_of_lt_of_le (Heap.lt_size e) I.ok.above))).trans e1⟩
   · by_cases hj:j=i
     · subst hj;rw[hi]at e1;cases e1;rw[List.getElem?_set_self hiσ]at e2;cases e2;exact⟨u,r,.inl ⟨hk,by simp⟩⟩
     · rw[List.getElem?_set_ne (Ne.symm hj)]at e2;obtain⟨u',r',q⟩:=hl j y v' e1 e2 e3;refine⟨u',r',?_⟩;rcases q with ⟨k,e⟩|⟨k,c,e,z⟩
       · refine .inl ⟨k,?_⟩
         have:y≠x:=fun e=>hj (qen hN e1 (e▸hi))
         simp[this,e]
       · exact .inr ⟨k,c,e,z.sameBut hs (cne y c e)⟩
   · obtain⟨w',z⟩:=I.cell y c e;exact⟨w',z.sameBut hs (cne y c e)⟩
   · obtain⟨e,n,ne,nf,d⟩:=I.pin p hp;exact⟨(hs.2 p.1 ne).trans e,n,ne,nf,d⟩
 · have hfn:X.fn x=true:=by
     rcases hf with z|z
     · exact z
     · rw[z]at hk;cases hk
   obtain⟨c,hc⟩:=I.ok.has x (.inl hk);obtain⟨w',z⟩:=I.cell x c hc;refine wpAny_storeName_cell I.ok.kind hk hc z (fun h' hc' hs=>?_);obtain⟨oc,hoc,hocd⟩:=id z;refine h { s with heap:=h' } ⟨I.ok,I.os,I.bare,⟨fun b o e n hb hx=>?_,fun b o e n hb hx=>?_,I.base.free,fun b o e hx=>?_,I.base.tups,I.base.frzs,I.base.tbls⟩,⟨m,hn.sameBut hs (Ne.symm (cne x c hc)),fun j y v' e1 e2 e3=>?_⟩,fun y c' e=>?_,I.free,I.freeC,fun p hp=>?_,tracked ⟨oc,hoc,I.freeC x c hc⟩ hs,by simpa using I.len⟩ ⟨c,hs,.inr hc⟩
   · exact(hs.2 b (Nat.ne_of_lt (Nat.lt_of_lt_of_le (Heap.lt_size e) (I.ok.cab x c hfn hc)))).trans (I.base.keep b o e n hb hx)
   · obtain⟨sl,e1⟩:=I.base.slot b o e n hb hx;exact⟨sl,(hs.2 b (Nat.ne_of_lt (Nat.lt_of_lt_of_le (Heap.lt_size e) (I.ok.cab x c hfn hc)))).trans e1⟩
   · obtain⟨o',e1⟩:=I.base.there b o e hx;exact⟨o',(hs.2 b (Nat.ne_of_lt (Nat.lt_of_lt_of_le (Heap.lt_size e) (I.ok.cab x c hfn hc)))).trans e1⟩
   · by_cases hj:j=i
     · subst hj;rw[hi]at e1;cases e1;rw[List.getElem?_set_self hiσ]at e2;cases e2;exact⟨u,r,.inr ⟨.inl hk,c,hc,hc'⟩⟩
     · rw[List.getElem?_set_ne (Ne.symm hj)]at e2;obtain⟨u',r',q⟩:=hl j y v' e1 e2 e3;refine⟨u',r',?_⟩;rcases q with q|⟨k,c',e,z'⟩
       · exact .inl q
       · refine .inr ⟨k,c',e,z'.sameBut hs ?_⟩;rintro rfl;exact hj (qen hN e1 (I.ok.inj _ _ _ e hc▸hi))
   · by_cases hcc:c'=c
     · subst hcc;exact⟨_,hc'⟩
     · obtain⟨w2,z2⟩:=I.cell y c' e;exact⟨w2,z2.sameBut hs hcc⟩
   · obtain⟨e,n,ne,nf,d⟩:=I.pin p hp;refine⟨(hs.2 p.1 ?_).trans e,n,ne,nf,d⟩;intro q;rw[q,hoc]at e;have q':oc=p.2:=Option.some.inj e;exact d w' (by rw[← q'];exact hocd)
theorem JR {M:Model}{A:Around}{E:Value->Shared->Prop}{i:Nat}{x:Str}{v:V}{u:Value}{Q:Unit->Shared->Prop} (I:Inv X pins σ H s) (hN:X.N.Nodup) (hi:X.N[i]?=some x) (hx:Loc X.env.scope x) (r:RelV v u)
   (h:∀ s',Inv X pins (σ.set i (some v)) H s'->Q () s') (hf:X.fn x=true∨X.env.scope.names.lookup x=some .local:=by first|exact .inl rfl|exact .inr rfl|assumption):wpAny M A (storeName X.env x u) Q E s :=
 qfs I hN hi hx r (fun s' I' _=>h s' I') hf
theorem Inv.call' {s':Shared}{ch:List Addr} (I:Inv X pins σ H s) (ho:s'.os=s.os) (u:Un (frs X.stack) ch H H' s.heap s'.heap) (hok:HOk X.prog X.w H' s'.heap) (hg:AllBare s'.gens)
   (hch:∀ b∈ch,(b∈X.ex∨X.s₀.heap.objs.size≤b)∧b≠X.env.locals∧(∀ x c,X.env.cells.lookup x=some c->c≠b)∧∀ p∈X.pn++pins,p.1≠b):Inv X pins σ H' s':=by
 obtain⟨h',g',d',t',o'⟩:=s';have e:o'=s.os:=ho;subst e;exact I.call (g':=g') (t':=t') (d':=d') u hok hg hch
end
abbrev XK:=Value->Option Addr->Hp->Prop
abbrev St:=List (Option V)
abbrev VK:=V->Hp->Prop
abbrev TE:=St->Hp->VK->Prop
abbrev TT:=St->Hp->(Bool->Hp->Prop)->Prop
abbrev TA:=St->Hp->(List V->Hp->Prop)->Prop
structure qgQ where
 nx:St->Hp->Prop
 rt:VK
 bk:St->Hp->Prop:=fun _ _=>False
 ct:St->Hp->Prop:=fun _ _=>False
abbrev TS:=qgQ->St->Hp->Prop
inductive ql0 (X:Cx) (pins:List (Addr×Obj)) (σ:St) (Q:VK) (u:Value) (s':Shared):Prop
 | mk (v H':_) (h1:Inv X pins σ H' s') (h2:RelV v u) (h3:Q v H'):ql0 X pins σ Q u s'
def EP (X:Cx) (pins:List (Addr×Obj)) (σ:St) (Q:VK) (u:Value) (s':Shared):Prop:=ql0 X pins σ Q u s'
def TP (X:Cx) (pins:List (Addr×Obj)) (σ:St) (Q:Bool->Hp->Prop) (b:Bool) (s':Shared):Prop:=∃ H',Inv X pins σ H' s'∧Q b H'
inductive ql1 (X:Cx) (pins:List (Addr×Obj)) (σ:St) (Q:List V->Hp->Prop) (us:List Value) (s':Shared):Prop
 | mk (vs H':_) (h1:Inv X pins σ H' s') (h2:Vals vs us) (h3:Q vs H'):ql1 X pins σ Q us s'
def AP (X:Cx) (pins:List (Addr×Obj)) (σ:St) (Q:List V->Hp->Prop) (us:List Value) (s':Shared):Prop:=ql1 X pins σ Q us s'
def SP (X:Cx) (pins:List (Addr×Obj)) (D:qgQ) (f:Flow) (s':Shared):Prop :=
 match f with
 | .next=>∃ σ' H',Inv X pins σ' H' s'∧D.nx σ' H'
 | .brk=>∃ σ' H',Inv X pins σ' H' s'∧D.bk σ' H'
 | .cont=>∃ σ' H',Inv X pins σ' H' s'∧D.ct σ' H'
 | .ret u=>∃ v σ' H',Inv X pins σ' H' s'∧RelV v u∧D.rt v H'
def PE (X:Cx) (e:Expr) (t:TE):Prop :=
 ∀ (pins:List (Addr×Obj)) (s:Shared) (σ:St) (H:Hp) (Q:VK),Inv X pins σ H s->t σ H Q->wpAny (model X.prog X.w) X.A (eval e X.env) (EP X pins σ Q) X.xe s
def PT (X:Cx) (e:Expr) (t:TT):Prop :=
 ∀ (pins:List (Addr×Obj)) (s:Shared) (σ:St) (H:Hp) (Q:Bool->Hp->Prop),Inv X pins σ H s->t σ H Q->wpAny (model X.prog X.w) X.A (isTrue e X.env (eval e X.env)) (TP X pins σ Q) X.xe s
def PW (X:Cx) (e:Expr) (t:TT):Prop :=
 ∀ (whole:Sem Value) (pins:List (Addr×Obj)) (s:Shared) (σ:St) (H:Hp) (Q:Bool->Hp->Prop),Inv X pins σ H s->t σ H Q->wpAny (model X.prog X.w) X.A (isTrue e X.env whole) (TP X pins σ Q) X.xe s
theorem PW.pt {X:Cx}{e:Expr}{t:TT} (h:PW X e t):PT X e t:=h _
def PA (X:Cx) (es:List Expr) (t:TA):Prop :=
 ∀ (pos:Pos) (pins:List (Addr×Obj)) (s:Shared) (σ:St) (H:Hp) (Q:List V->Hp->Prop),Inv X pins σ H s->t σ H Q->wpAny (model X.prog X.w) X.A (spliced (backTo pos (starEach es X.env))) (AP X pins σ Q) X.xe s
def PS (X:Cx) (st:Stmt) (t:TS):Prop :=
 ∀ (pins:List (Addr×Obj)) (s:Shared) (σ:St) (H:Hp) (D:qgQ),Inv X pins σ H s->t D σ H->wpAny (model X.prog X.w) X.A (exec st X.env) (SP X pins D) X.xe s
def PSs (X:Cx) (st:List Stmt) (t:TS):Prop :=
 ∀ (pins:List (Addr×Obj)) (s:Shared) (σ:St) (H:Hp) (D:qgQ),Inv X pins σ H s->t D σ H->wpAny (model X.prog X.w) X.A (execs st X.env) (SP X pins D) X.xe s
theorem thn {α:Type}{t:Sem α}{Q Q':α->Shared->Prop}{M:Model}{A:Around}{E:Value->Shared->Prop}{s:Shared} (h:wpAny M A t Q E s) (hQ:∀ a s,Q a s->Q' a s):wpAny M A t Q' E s:=wpAny_mono h hQ fun _ _ x=>x
section
variable {X:Cx}
inductive qhW (i:Nat) (σ:St) (H:Hp) (Q:VK):Prop
 | mk (v:_) (h1:σ[i]?=some (some v)) (h2:Q v H):qhW i σ H Q
def qe7 (i:Nat):TE:=fun σ H Q=>qhW i σ H Q
def tC (v:V):TE:=fun _ H Q=>Q v H
theorem qkf {i:Nat}{x:Str}{pos:Pos} (hN:X.N[i]?=some x) (hv:Vis X.env.scope x) (hd:(x == ("__debug__":Str))=false:=by decide) (hcd:(x == ("__classdict__":Str))=false:=by decide):PE X (.Name x pos) (qe7 i):=by
 intro pins s σ H Q I h;obtain⟨v,e,h⟩:=h;obtain⟨m,hn,hl⟩:=I.loc;obtain⟨u,r,l⟩:=hl i x v hN e hv;have fin:EP X pins σ Q u s:=⟨v,H,I,r,h⟩
 rcases l with ⟨hk,hm⟩|⟨hk,c,hc,hcell⟩
 · exact wpAny_Name (wpAny_loadName_local I.ok.kind hk hn hm fin) hd
 · rcases hk with hk|hk
   · exact wpAny_Name (wpAny_loadName_cell I.ok.kind hk hc hcell fin) hd
   · exact wpAny_Name (wpAny_loadName_free I.ok.kind hk hc hcell fin hcd) hd
theorem qe {i j pos}:PE X (.Constant (.int i) j pos) (tC (.int i)):=fun _ _ _ H _ I h=>wpAny_Constant_int ⟨.int i,H,I.tok _,⟨_,rfl⟩,h⟩
theorem qcJ {b j pos}:PE X (.Constant (.bool b) j pos) (tC (.bl b)):=fun _ _ _ H _ I h=>Constant_bool ⟨.bl b,H,I,rfl,h⟩
theorem Qf {x j pos}:PE X (.Constant (.str x) j pos) (tC (.str x)):=fun _ _ _ H _ I h=>Calls.Constant_str ⟨.str x,H,I.tok _,⟨_,rfl⟩,h⟩
def Gl (X:Cx) (x:Str):Prop:=X.env.kindOf x=some .globalImplicit
theorem qaH {E:Value->Shared->Prop}{pins:List (Addr×Obj)}{s:Shared}{σ:St}{H:Hp}{x:Str}{u:Value}{pos:Pos}{Q:Value->Shared->Prop} (I:Inv X pins σ H s) (hg:Gl X x) (hm:X.mg x=some u) (h:Q u s)
   (hd:(x == ("__debug__":Str))=false:=by decide):wpAny (model X.prog X.w) X.A (eval (.Name x pos) X.env) Q E s :=
 Calls.Name_function_global I.ok.kind hg (Calls.loadGlobal_global (by rw[I.ok.glob];exact I.mod.glob.keeps I.bk) hm h) hd
theorem qaI {E:Value->Shared->Prop}{pins:List (Addr×Obj)}{s:Shared}{σ:St}{H:Hp}{x:Str}{u:Value}{pos:Pos}{Q:Value->Shared->Prop} (I:Inv X pins σ H s) (hg:Gl X x) (hm:X.mg x=none) (hv:bootBuiltins x=some u) (h:Q u s)
   (hn:x≠"__name__":=by decide) (hd:(x == ("__debug__":Str))=false:=by decide):wpAny (model X.prog X.w) X.A (eval (.Name x pos) X.env) Q E s:=by
 obtain⟨mb,h1,h2⟩:=I.mod.blt;exact Calls.Name_function_global I.ok.kind hg (Calls.loadGlobal_builtin (by rw[I.ok.glob];exact I.mod.glob.keeps I.bk) hm (by rw[I.ok.blt];exact h1.keeps I.bk) ((h2 x hn).trans hv) h) hd
theorem za {x:Str}{v:V}{u:Value}{pos:Pos} (hg:Gl X x) (hm:X.mg x=some u) (r:RelV v u) (hd:(x == ("__debug__":Str))=false:=by decide):PE X (.Name x pos) (tC v) :=
 fun _ _ _ H _ I h=>qaH I hg hm ⟨v,H,I,r,h⟩ hd
theorem zm {x:Str}{v:V}{u:Value}{pos:Pos} (hg:Gl X x) (hm:X.mg x=none) (hv:bootBuiltins x=some u) (r:RelV v u) (hn:x≠"__name__":=by decide) (hd:(x == ("__debug__":Str))=false:=by decide):PE X (.Name x pos) (tC v) :=
 fun _ _ _ H _ I h=>qaI I hg hm hv ⟨v,H,I,r,h⟩ hn hd
variable {a b:Expr}{ta tb:TE}{pos:Pos}
inductive qlC (Q:(Bool->Hp->Prop)) (x:V) (H1:Hp):Prop
 | mk (c:_) (h1:x=.bl c) (h2:Q c H1):qlC Q x H1
def tB (t:TE):TT:=fun σ H Q=>t σ H fun x H1=>qlC Q x H1
theorem zo {e:Expr}{t:TE} (h:PE X e t) (he:∀ whole,isTrue e X.env whole=(do let v ← whole;standAt e.pos;holding [v] (truthy v)):=by intro _;rfl):PT X e (tB t):=by
 intro pins s σ H Q I hw;refine isTrue_plain (thn (h pins s σ H _ I hw) fun v s1 zz_=>?_) (he _);obtain⟨x,H1,I1,r1,q1⟩:=zz_;obtain⟨d,rfl,q⟩:=q1;cases r1;exact wpAny_truthy_bool ⟨H1,I1,q⟩
variable {tA tB':TT}{rest:List Expr}
def ql9 (t u:TT):TT:=fun σ H Q=>t σ H fun c H1=>if c=true then u σ H1 Q else Q false H1
def tOr (t u:TT):TT:=fun σ H Q=>t σ H fun c H1=>if c=true then Q true H1 else u σ H1 Q
def ql4 (t:TT):TT:=fun σ H Q=>t σ H fun c H1=>Q (!c) H1
theorem Qn (ha:PT X a tA):PW X (.BoolOp .And [a] pos) tA:=by
 intro wh pins s σ H Q I h;refine isTrue_and (thn (ha pins s σ H Q I h) fun c s1 e=>?_)
 cases c with
 | true=>exact isTrue_and_nil e
 | false=>exact e
theorem jd (ha:PT X a tA):PW X (.BoolOp .Or [a] pos) tA:=by
 intro wh pins s σ H Q I h;refine isTrue_or (thn (ha pins s σ H Q I h) fun c s1 e=>?_)
 cases c with
 | false=>exact isTrue_or_nil e
 | true=>exact e
theorem ZD (ha:PT X a tA) (hb:PW X (.BoolOp .And (b::rest) pos) tB'):PW X (.BoolOp .And (a::b::rest) pos) (ql9 tA tB'):=by
 intro wh pins s σ H Q I h;refine isTrue_and (thn (ha pins s σ H _ I h) fun c s1 zz_=>?_);obtain⟨H1,I1,q1⟩:=zz_
 cases c with
 | true=>exact hb wh pins s1 σ H1 Q I1 q1
 | false=>exact⟨H1,I1,q1⟩
theorem qa1 (ha:PT X a tA) (hb:PW X (.BoolOp .Or (b::rest) pos) tB'):PW X (.BoolOp .Or (a::b::rest) pos) (tOr tA tB'):=by
 intro wh pins s σ H Q I h;refine isTrue_or (thn (ha pins s σ H _ I h) fun c s1 zz_=>?_);obtain⟨H1,I1,q1⟩:=zz_
 cases c with
 | true=>exact⟨H1,I1,q1⟩
 | false=>exact hb wh pins s1 σ H1 Q I1 q1
theorem zB (ha:PT X a tA):PT X (.UnaryOp .Not a pos) (ql4 tA):=by
 intro pins s σ H Q I h;exact isTrue_not (ha pins s σ H (fun c H1=>Q (!c) H1) I h)
def qk7 (ta tb:TE):TE:=fun σ H Q=>ta σ H fun x H1=>∃ c,x=.bl c∧if c=true then tb σ H1 Q else Q (.bl false) H1
inductive qfp (Q:VK) (x:V) (H1:Hp):Prop
 | mk (c:_) (h1:x=.bl c) (h2:Q (.bl (!c)) H1):qfp Q x H1
def qk3 (ta:TE):TE:=fun σ H Q=>ta σ H fun x H1=>qfp Q x H1
theorem jQ {op}{t:TE} (h:PE X a t):PE X (.BoolOp op [a] pos) t:=fun pins s σ H Q I hw=>BoolOp_one (h pins s σ H Q I hw)
theorem ZF (ha:PE X a ta) (hb:PE X (.BoolOp .And (b::rest) pos) tb):PE X (.BoolOp .And (a::b::rest) pos) (qk7 ta tb):=by
 intro pins s σ H Q I h;refine BoolOp_and (thn (ha pins s σ H _ I h) fun v s1 zz_=>?_);obtain⟨x,H1,I1,r1,q1⟩:=zz_;obtain⟨c,rfl,q1⟩:=q1;cases r1;refine wpAny_truthy_bool ?_
 cases c with
 | true=>exact hb pins s1 σ H1 Q I1 q1
 | false=>exact⟨.bl false,H1,I1,rfl,q1⟩
theorem qkg (ha:PE X a ta):PE X (.UnaryOp .Not a pos) (qk3 ta):=by
 intro pins s σ H Q I h;refine UnaryOp_ (thn (ha pins s σ H _ I h) fun v s1 zz_=>?_);obtain⟨x,H1,I1,r1,q1⟩:=zz_;obtain⟨c,rfl,q1⟩:=q1;cases r1;exact not_of (wpAny_truthy_bool ⟨.bl (!c),H1,I1,rfl,q1⟩)
end
def SqL (K:Frag) (H:Hp) (a:Addr) (xs:List V):Prop :=
 Rd H a (.lst xs) ∨
   ∃ (o:Obj) (its:Array Value) (n:Nat),K.lookup a=some o∧o.cls=.type "list"∧o.dict=none∧o.data=.seq its n∧its.size≤sizeLine∧Vals xs its.toList
def SqT (K:Frag) (H:Hp) (a:Addr) (xs:List V):Prop :=
 Rd H a (.tup xs) ∨
   ∃ (o:Obj) (its:Array Value) (n:Nat),K.lookup a=some o∧o.cls=.type "tuple"∧o.data=.seq its n∧its.size≤sizeLine∧Vals xs its.toList
def qmr:Value->Option V
 | .none=>some .non
 | .bool b=>some (.bl b)
 | .int i _=>some (.int i)
 | .str x _=>some (.str x)
 | .bytes b _=>some (.byt b)
 | .float b _=>some (.flt b)
 | .ref a=>some (.ref a)
 | .type n=>some (.ty n)
 | _=>none
theorem RelV.abs {x:V}{u:Value} (r:RelV x u):qmr u=some x:=by
 cases x with
 | non=>cases r;rfl
 | bl _=>cases r;rfl
 | int _=>obtain⟨t,rfl⟩:=r;rfl
 | str _=>obtain⟨t,rfl⟩:=r;rfl
 | byt _=>obtain⟨t,rfl⟩:=r;rfl
 | flt _=>obtain⟨t,rfl⟩:=r;rfl
 | ref _=>cases r;rfl
 | ty _=>cases r;rfl
theorem RelV.inj {x y:V}{u:Value} (r:RelV x u) (q:RelV y u):x=y:=Option.some.inj (r.abs.symm.trans q.abs)
theorem Vals.inj:∀ {xs ys:List V}{us:List Value},Vals xs us->Vals ys us->xs=ys
 | _,_,_,.nil,.nil=>rfl
 | _,_,_,.cons r t,.cons r' t'=>by rw[r.inj r',Vals.inj t t']
section
variable {X:Cx}{pins:List (Addr×Obj)}{σ:St}{H:Hp}{s:Shared}{a:Addr}{xs ys:List V}
theorem SqL.of {K:Frag} (h:H a=some (.lst xs)):SqL K H a xs:=.inl (.inl h)
theorem SqT.of {K:Frag} (h:H a=some (.tup xs)):SqT K H a xs:=.inl (.inl h)
theorem Inv.list (I:Inv X pins σ H s) (h:SqL X.K H a xs):∃ its:List Value,Vals xs its∧PlainL s.heap a its.toArray∧xs.length≤sizeLine:=by
 rcases h with h|⟨o,its,n,hk,hc,hd,hs,hz,r⟩
 · obtain⟨z,its,n,r,e⟩:=h.ok I.hok;exact⟨its,r,⟨_,n,e,rfl,rfl,rfl⟩,z⟩
 · refine⟨its.toList,r,⟨o,n,I.kIn a o hk,hc,hd,by simpa using hs⟩,?_⟩;have e:=r.length;simp only[Array.length_toList]at e;omega
theorem Inv.tuple (I:Inv X pins σ H s) (h:SqT X.K H a xs):∃ its:List Value,Vals xs its∧IsTup s.heap a its.toArray∧xs.length≤sizeLine:=by
 rcases h with h|⟨o,its,n,hk,hc,hs,hz,r⟩
 · obtain⟨z,its,r,p⟩:=h.ok I.hok;exact⟨its,r,p,z⟩
 · refine⟨its.toList,r,⟨o,I.kIn a o hk,hc,n,by simpa using hs⟩,?_⟩;have e:=r.length;simp only[Array.length_toList]at e;omega
theorem Inv.list_inj (I:Inv X pins σ H s) (h:SqL X.K H a xs) (h':SqL X.K H a ys):xs=ys:=by
 obtain⟨its,r,⟨o,n,e,_,_,d⟩,_⟩:=I.list h;obtain⟨its',r',⟨o',n',e',_,_,d'⟩,_⟩:=I.list h';rw[e]at e';cases e';rw[d]at d';injection d' with d1 _
 have:its=its':=by simpa using congrArg Array.toList d1
 subst this;exact r.inj r'
theorem Inv.tuple_inj (I:Inv X pins σ H s) (h:SqT X.K H a xs) (h':SqT X.K H a ys):xs=ys:=by
 obtain⟨its,r,⟨o,e,_,n,d⟩,_⟩:=I.tuple h;obtain⟨its',r',⟨o',e',_,n',d'⟩,_⟩:=I.tuple h';rw[e]at e';cases e';rw[d]at d';injection d' with d1 _
 have:its=its':=by simpa using congrArg Array.toList d1
 subst this;exact r.inj r'
end
abbrev Cx.wish (X:Cx) (E:Value->Shared->Prop):Cx:={ X with xe:=E }
abbrev Cx.nox (X:Cx):Cx:=X.wish fun _ _=>False
theorem Cx.Ok.wish {X:Cx} (ok:X.Ok) (E:Value->Shared->Prop):(X.wish E).Ok :=
 ⟨ok.mod,ok.kind,ok.glob,ok.blt,ok.above,ok.inj,ok.has,ok.cab,ok.hd,ok.frames,ok.stk,ok.exf,ok.bs,ok.bsz,ok.noex,ok.exfs,ok.funs,ok.frf⟩
theorem Cx.Ok.unwish {X:Cx}{E:Value->Shared->Prop} (ok:(X.wish E).Ok):X.Ok :=
 ⟨ok.mod,ok.kind,ok.glob,ok.blt,ok.above,ok.inj,ok.has,ok.cab,ok.hd,ok.frames,ok.stk,ok.exf,ok.bs,ok.bsz,ok.noex,ok.exfs,ok.funs,ok.frf⟩
section
variable {X:Cx}{pins:List (Addr×Obj)}{σ:St}{H:Hp}{s:Shared}{E:Value->Shared->Prop}
theorem Inv.wish (I:Inv X pins σ H s) (E:Value->Shared->Prop):Inv (X.wish E) pins σ H s:=⟨I.ok.wish E,I.os,I.bare,I.base,I.loc,I.cell,I.free,I.freeC,I.pin,I.hok,I.len⟩
theorem Inv.unwish (I:Inv (X.wish E) pins σ H s):Inv X pins σ H s:=⟨I.ok.unwish,I.os,I.bare,I.base,I.loc,I.cell,I.free,I.freeC,I.pin,I.hok,I.len⟩
theorem SP.unwish {D:qgQ}{f:Flow}{s':Shared} (h:SP (X.wish E) pins D f s'):SP X pins D f s':=by
 cases f with
 | next=>obtain⟨σ',H',I,q⟩:=h;exact⟨σ',H',I.unwish,q⟩
 | brk=>obtain⟨σ',H',I,q⟩:=h;exact⟨σ',H',I.unwish,q⟩
 | cont=>obtain⟨σ',H',I,q⟩:=h;exact⟨σ',H',I.unwish,q⟩
 | ret u=>obtain⟨v,σ',H',I,r,q⟩:=h;exact⟨v,σ',H',I.unwish,r,q⟩
theorem PSs.nox {st:List Stmt}{t:TS} (h:PSs X.nox st t):PSs X st t:=fun pins s σ H D I hw =>
 wpAny_mono (h pins s σ H D (I.wish _) hw) (fun _ _ q=>q.unwish) fun _ _ z=>False.elim z
end
section
variable {X:Cx}{st:Stmt}{rest:List Stmt}{t u:TS}{e:Expr}{te:TE}{pos:Pos}
def qF:TS:=fun D σ H=>D.nx σ H
def qk0 (t u:TS):TS:=fun D σ H=>t { D with nx:=u D } σ H
theorem qA:PSs X [] qF:=fun _ _ σ H _ I h=>wpAny_execs_nil ⟨σ,H,I,h⟩
theorem qd (h1:PS X st t) (h2:PSs X rest u):PSs X (st::rest) (qk0 t u):=by
 intro pins s σ H D I h;refine wpAny_execs_cons (thn (h1 pins s σ H { D with nx:=u D } I h) fun f s1 q=>?_)
 cases f with
 | next =>
   obtain⟨σ',H',I',q⟩:=q;exact h2 pins s1 σ' H' D I' q
 | ret v=>exact q
 | brk=>exact q
 | cont=>exact q
theorem qf (h1:PS X st t):PSs X [st] t:=by
 intro pins s σ H D I h;refine wpAny_execs_cons (thn (h1 pins s σ H D I h) fun f s1 q=>?_)
 cases f with
 | next=>exact wpAny_execs_nil q
 | ret v=>exact q
 | brk=>exact q
 | cont=>exact q
theorem Inv.quiet {pins:List (Addr×Obj)}{σ:St}{H:Hp}{s:Shared} (I:Inv X pins σ H s):interactive X.env=false:=by simp[interactive,I.ok.kind]
def qk4 (te:TE):TS:=fun D σ H=>te σ H fun _ H1=>D.nx σ H1
theorem qD (he:PE X e te) (hs:swapsWith e none pos.line X.env=pure false:=by rfl):PS X (.Expr e pos) (qk4 te):=by
 intro pins s σ H D I h;exact wpAny_Expr_any (thn (he pins s σ H _ I h) fun v s1 ⟨x,H1,I1,r1,q1⟩=>⟨σ,H1,I1,q1⟩) I.quiet hs
def qfn (te:TE):TS:=fun D σ H=>te σ H D.rt
theorem qE (he:PE X e te):PS X (.Return (some e) pos) (qfn te):=by
 intro pins s σ H D I h;exact wpAny_Return_some (thn (he pins s σ H _ I h) fun v s1 ⟨x,H1,I1,r1,q1⟩=>⟨x,σ,H1,I1,r1,q1⟩)
def qk1:TS:=fun D _ H=>D.rt .non H
theorem qi4:PS X (.Return none pos) qk1:=fun _ _ σ H _ I h=>wpAny_Return_none ⟨.non,σ,H,I,rfl,h⟩
def qgY (c:TT) (t u:TS):TS:=fun D σ H=>c σ H fun b H1=>if b=true then t D σ H1 else u D σ H1
theorem qS {c:Expr}{a b:List Stmt}{tc:TT} (hc:PT X c tc) (ha:PSs X a t) (hb:PSs X b u):PS X (.If c a b pos) (qgY tc t u):=by
 intro pins s σ H D I h;refine wpAny_If (thn (hc pins s σ H _ I h) fun d s1 zz_=>?_);obtain⟨H1,I1,q1⟩:=zz_
 cases d with
 | true=>exact ha pins s1 σ H1 D I1 q1
 | false=>exact hb pins s1 σ H1 D I1 q1
def qjQ:TS:=fun _ _ _=>False
theorem qO:PS X st qjQ:=fun _ _ _ _ _ _ h=>h.elim
end
abbrev TG:=V->St->Hp->(St->Hp->Prop)->Prop
abbrev TGs:=List V->St->Hp->(St->Hp->Prop)->Prop
def PG (X:Cx) (target:Expr) (t:TG):Prop :=
 ∀ (pins:List (Addr×Obj)) (s:Shared) (σ:St) (H:Hp) (v:V) (u:Value) (Q:St->Hp->Prop),Inv X pins σ H s->RelV v u->t v σ H Q ->
   wpAny (model X.prog X.w) X.A (assign target X.env u) (fun _ s'=>∃ σ' H',Inv X pins σ' H' s'∧Q σ' H') X.xe s
def PGs (X:Cx) (ts:List Expr) (t:TGs):Prop :=
 ∀ (pins:List (Addr×Obj)) (s:Shared) (σ:St) (H:Hp) (vs:List V) (us:List Value) (Q:St->Hp->Prop),Inv X pins σ H s->Vals vs us->t vs σ H Q ->
   wpAny (model X.prog X.w) X.A (assignInOrder ((assignEach ts X.env).map (·.2)) us) (fun _ s'=>∃ σ' H',Inv X pins σ' H' s'∧Q σ' H') X.xe s
abbrev qlB:=V->V->V->Hp->(Hp->Prop)->Prop
def qlV (X:Cx) (t:qlB):Prop :=
 ∀ (pins:List (Addr×Obj)) (s:Shared) (σ:St) (H:Hp) (o i v:V) (ov iv u:Value) (Q:Hp->Prop),Inv X pins σ H s->RelV o ov->RelV i iv->RelV v u->t o i v H Q ->
   wpAny (model X.prog X.w) X.A (setItem ov iv u) (fun _ s'=>∃ H',Inv X pins σ H' s'∧Q H') X.xe s
abbrev TIp:=V->V->Hp->VK->Prop
def PIp (X:Cx) (op:Operator) (t:TIp):Prop :=
 ∀ (pins:List (Addr×Obj)) (s:Shared) (σ:St) (H:Hp) (x y:V) (v u:Value) (Q:VK),Inv X pins σ H s->RelV x v->RelV y u->t x y H Q ->
   wpAny (model X.prog X.w) X.A (inplaceOp op v u) (EP X pins σ Q) X.xe s
section
variable {X:Cx}{pos:Pos}
def qhD (i:Nat):TG:=fun v σ H Q=>Q (σ.set i (some v)) H
theorem qq {i:Nat}{x:Str} (hN:X.N.Nodup) (hi:X.N[i]?=some x) (hx:Loc X.env.scope x) (hf:X.fn x=true∨X.env.scope.names.lookup x=some .local:=by first|exact .inl rfl|exact .inr rfl|assumption):PG X (.Name x pos) (qhD i):=by
 intro pins s σ H v u Q I r h;exact wpAny_assign_Name (JR I hN hi hx r (fun s' I'=>⟨_,H,I',h⟩) hf)
def qmo:TGs:=fun vs σ H Q=>vs=[]∧Q σ H
inductive qgk (t:TG) (u:TGs) (vs:List V) (σ:St) (H:Hp) (Q:(St->Hp->Prop)):Prop
 | mk (v r:_) (h1:vs=v::r) (h2:t v σ H fun σ' H'=>u r σ' H' Q):qgk t u vs σ H Q
def qlu (t:TG) (u:TGs):TGs:=fun vs σ H Q=>qgk t u vs σ H Q
theorem zg:PGs X [] qmo:=by
 intro pins s σ H vs us Q I r h;obtain⟨e,h⟩:=h;subst e;cases r;exact assignInOrder_nil ⟨σ,H,I,h⟩
theorem qr {e:Expr}{es:List Expr}{t:TG}{u:TGs} (h1:PG X e t) (h2:PGs X es u)
   (hs:(assignEach (e::es) X.env).map (·.2)=assign e X.env::(assignEach es X.env).map (·.2):=by rfl):PGs X (e::es) (qlu t u):=by
 intro pins s σ H vs us Q I r h;obtain⟨v,vr,e1,h⟩:=h;subst e1
 cases r with
 | cons r rr =>
   rw[hs];refine assignInOrder_cons (thn (h1 pins s σ H _ _ _ I r h) fun _ s1 zz_=>?_);obtain⟨σ1,H1,I1,q1⟩:=zz_;exact h2 pins s1 σ1 H1 _ _ Q I1 rr q1
inductive qit (K:Frag) (n:Nat) (t:TGs) (v:V) (σ:St) (H:Hp) (Q:(St->Hp->Prop)):Prop
 | mk (a xs:_) (h1:v=.ref a) (h2:SqT K H a xs) (h3:xs.length=n) (h4:t xs σ H Q):qit K n t v σ H Q
def qhC (K:Frag) (n:Nat) (t:TGs):TG:=fun v σ H Q=>qit K n t v σ H Q
theorem zK {es:List Expr}{k:Nat}{t:TGs}{n:Nat} (hc:X.calm=true) (h:PGs X es t)
   (hn:(assignEach es X.env).length=n:=by rfl) (hst:(assignEach es X.env).findIdx? (·.1)=none:=by rfl):PG X (.Tuple es k pos) (qhC X.K n t):=by
 intro pins s σ H v u Q I r hw;obtain⟨a,xs,e1,hq,hl,hw⟩:=hw;subst e1;cases r;obtain⟨its,rv,ht,hz⟩:=I.tuple hq;refine assign_Tuple_tuple (I.ok.hd hc) ht (by simp[hn,← hl,rv.length]) hst fun h' hx=>?_;have I1:Inv X pins σ H { s with heap:=h' }:=I.kept (t':=s.toks) fun b o e=>hx b o (Nat.ne_of_lt (Heap.lt_size e)) e;exact h pins _ σ H xs _ Q I1 (by simpa using rv) hw
def qmn (to ti:TE) (t:qlB):TG:=fun v σ H Q=>to σ H fun o H1=>ti σ H1 fun i H2=>t o i v H2 fun H3=>Q σ H3
theorem qcI {o i:Expr}{to ti:TE}{t:qlB} (ho:PE X o to) (hi:PE X i ti) (hs:qlV X t)
   (ha:∀ v,assign (.Subscript o i pos) X.env v=(do
     let ov ← holding [v] (eval o X.env);let iv ← holding [v,ov] (eval i X.env)
     standAt pos
     holding [v,ov,iv] (setItem ov iv v)
     release [v,ov,iv] []):=by intro _;rfl):PG X (.Subscript o i pos) (qmn to ti t):=by
 intro pins s σ H v u Q I r h;rw[ha];refine wpAny_bind (wpAny_holding (thn (ho pins s σ H _ I h) fun ov s1 zz_=>?_));obtain⟨x,H1,I1,r1,q1⟩:=zz_;refine wpAny_bind (wpAny_holding (thn (hi pins s1 σ H1 _ I1 q1) fun iv s2 zz_=>?_));obtain⟨y,H2,I2,r2,q2⟩:=zz_;refine wpAny_bind (wpAny_standAt (wpAny_bind (wpAny_holding (thn (hs pins s2 σ H2 x y v ov iv u _ I2 r1 r2 r q2) fun _ s3 zz_=>?_))));obtain⟨H3,I3,q3⟩:=zz_;exact wpAny_release ⟨σ,H3,I3,q3⟩
def qkU (te:TE) (g:TG):TS:=fun D σ H=>te σ H fun x H1=>g x σ H1 D.nx
theorem JB {tg e:Expr}{te:TE}{g:TG} (he:PE X e te) (hg:PG X tg g) (hs:swapsWithSole [tg] e pos.line X.env=pure false:=by rfl) (hw:swappedStores [tg] e X.env=pure none:=by rfl)
   (h1:(assignEach [tg] X.env).map (·.2)=[assign tg X.env]:=by rfl):PS X (.Assign [tg] e pos) (qkU te g):=by
 intro pins s σ H D I h;refine wpAny_Assign_stores (thn (he pins s σ H _ I h) fun v s1 zz_=>?_) hs hw;obtain⟨x,H1,I1,r1,q1⟩:=zz_;rw[h1];exact thn (hg pins s1 σ H1 x v _ I1 r1 q1) fun _ s2 q=>q
theorem qz {i:Nat}{x:Str}{e:Expr}{te:TE}{pos':Pos} (hN:X.N.Nodup) (hi:X.N[i]?=some x) (hx:Loc X.env.scope x) (he:PE X e te) (hs:swapsWith e (some (.Name x pos')) pos.line X.env=pure false:=by rfl) (hf:X.fn x=true∨X.env.scope.names.lookup x=some .local:=by first|exact .inl rfl|exact .inr rfl|assumption) :
   PS X (.Assign [.Name x pos'] e pos) (qkU te (qhD i)):=by
 intro pins s σ H D I h;refine wpAny_Assign_Name (thn (he pins s σ H _ I h) fun v s1 zz_=>?_) hs;obtain⟨y,H1,I1,r1,q1⟩:=zz_;exact JR I1 hN hi hx r1 (fun s2 I2=>⟨_,H1,I2,q1⟩) hf
def ql8 (i:Nat) (te:TE) (ti:TIp):TS:=fun D σ H=>∃ x,σ[i]?=some (some x)∧te σ H fun y H1=>ti x y H1 fun z H2=>D.nx (σ.set i (some z)) H2
theorem qif {i:Nat}{x:Str}{e:Expr}{te:TE}{op:Operator}{ti:TIp}{pos':Pos} (hN:X.N.Nodup) (hi:X.N[i]?=some x) (hx:Loc X.env.scope x) (he:PE X e te) (ho:PIp X op ti) (hf:X.fn x=true∨X.env.scope.names.lookup x=some .local:=by first|exact .inl rfl|exact .inr rfl|assumption) :
   PS X (.AugAssign (.Name x pos') op e pos) (ql8 i te ti):=by
 intro pins s σ H D I h;obtain⟨v,e1,h⟩:=h;obtain⟨m,hn,hl⟩:=I.loc;have vis:Vis X.env.scope x:=by rcases hx with k|k;exact .inl k;exact .inr (.inl k)
 obtain⟨u,r,l⟩:=hl i x v hi e1 vis;refine wpAny_AugAssign_Name ?_
 have go:wpAny (model X.prog X.w) X.A (eval e X.env) (fun w s₂=>wpAny (model X.prog X.w) X.A (inplaceOp op u w) (fun r s₃=>wpAny (model X.prog X.w) X.A (storeName X.env x r) (fun _=>SP X pins D .next) X.xe s₃) X.xe s₂) X.xe s:=by
   refine thn (he pins s σ H _ I h) fun w s1 zz_=>?_;obtain⟨y,H1,I1,r1,q1⟩:=zz_;refine thn (ho pins s1 σ H1 v y u w _ I1 r r1 q1) fun z s2 zz_=>?_;obtain⟨zv,H2,I2,r2,q2⟩:=zz_;exact JR I2 hN hi hx r2 (fun s3 I3=>⟨_,H2,I3,q2⟩) hf
 rcases l with ⟨hk,hm⟩|⟨hk,c,hc,hcell⟩
 · exact wpAny_loadName_local I.ok.kind hk hn hm go
 · rcases hk with hk|hk
   · exact wpAny_loadName_cell I.ok.kind hk hc hcell go
   · rcases hx with k|k
     · have:X.env.scope.names.lookup x=some .free:=hk
       rw[k]at this;cases this
     · have:X.env.scope.names.lookup x=some .free:=hk
       rw[k]at this;cases this
def ipI (f:Int->Int->Int):TIp:=fun x y H Q=>∃ i j,x=.int i∧y=.int j∧Q (.int (f i j)) H
theorem qiq:PIp X .Add (ipI fun i j=>i+j):=by
 intro pins s σ H x y v u Q I r1 r2 h;obtain⟨i,j,e1,e2,q⟩:=h;subst e1;subst e2;obtain⟨t,rfl⟩:=r1;obtain⟨t',rfl⟩:=r2;exact iadd_int ⟨.int _,H,I.tok _,⟨_,rfl⟩,q⟩
def qhV (c:TT) (tb:TS):TS:=fun D σ H=>∃ W:Nat->St->Hp->Prop,(∃ m,W m σ H)∧∀ m σ H,W m σ H ->
 c σ H fun b H1=>if b=true then ∃ N:St->Hp->Prop,(∀ σ' H',N σ' H'->∃ m',m' < m∧W m' σ' H')∧tb { D with nx:=N,ct:=N,bk:=D.nx } σ H1 else D.nx σ H1
theorem qg7 {c:Expr}{body:List Stmt}{tc:TT}{tb:TS} (hp:PassesOwn (model X.prog X.w) X.A X.env X.xe) (hc:PT X c tc) (hb:PSs X body tb):PS X (.While c body [] pos) (qhV tc tb):=by
 intro pins s σ H D I h;obtain⟨W,⟨m0,w0⟩,turn⟩:=h;refine wpAny_While (codeAny_whileLoop (fun n s'=>∃ σ' H',Inv X pins σ' H' s'∧W n σ' H') ?_ m0 ⟨σ,H,I,w0⟩);rintro n s1 ⟨σ1,H1,I1,w1⟩;refine wpAny_passesOwn hp (thn (hc pins s1 σ1 H1 _ I1 (turn n σ1 H1 w1)) fun b s2 zz_=>?_);obtain⟨H2,I2,q2⟩:=zz_
 cases b with
 | true =>
   obtain⟨N,hN,q2⟩:=q2;rw[if_pos rfl];refine wpAny_passesOwn hp (thn (hb pins s2 σ1 H2 _ I2 q2) fun f s3 q3=>?_)
   cases f with
   | next =>
     obtain⟨σ3,H3,I3,n3⟩:=q3;obtain⟨m',hm,w3⟩:=hN σ3 H3 n3;exact⟨m',hm,σ3,H3,I3,w3⟩
   | cont =>
     obtain⟨σ3,H3,I3,n3⟩:=q3;obtain⟨m',hm,w3⟩:=hN σ3 H3 n3;exact⟨m',hm,σ3,H3,I3,w3⟩
   | brk=>exact q3
   | ret v=>exact q3
 | false =>
   rw[if_neg Bool.false_ne_true];exact wpAny_execs_nil ⟨σ1,H2,I2,q2⟩
end
structure It where
 go:Nat->Hp->Prop
 yld:Nat->Hp->V->Hp->Prop
 stop:Nat->Hp->Prop
def qeF (X:Cx) (pins:List (Addr×Obj)) (H:Hp) (b:Addr):Prop :=
 H b=none∧b≠X.env.locals∧b∉X.fs∧(b∈X.ex∨X.s₀.heap.objs.size≤b)∧(∀ x c,X.env.cells.lookup x=some c->c≠b)∧∀ p∈X.pn++pins,p.1≠b
theorem Inv.fpOk {X:Cx}{pins:List (Addr×Obj)}{σ:St}{H H':Hp}{s:Shared}{b:Addr} (I:Inv X pins σ H s) (hb:s.heap.objs.size≤b) (hn:H' b=none):qeF X pins H' b:=by
 refine⟨hn,Nat.ne_of_gt (Nat.lt_of_lt_of_le I.lt hb),I.nofs hb,.inr (Nat.le_trans I.sz hb),fun x c e z=>?_,fun p hp z=>?_⟩
 · obtain⟨v,q⟩:=I.cell x c e;exact absurd (Nat.lt_of_lt_of_le q.lt (by rw[z];exact hb)) (Nat.lt_irrefl _)
 · exact absurd (Nat.lt_of_lt_of_le (Heap.lt_size (I.pin p hp).1) (by rw[z];exact hb)) (Nat.lt_irrefl _)
structure qhR (Cm:Cx->Prop) (P:Program) (w:World) (K:Frag) (tg:Expr) (J:It) (fp:List Addr) (it:Addr) (tn:Nat->Heap->Prop):Prop where
 mem:it∈fp
 obj:∀ i h,tn i h->∀ b∈fp,∃ o,h.get? b=some o∧∀ v,o.data≠.cell v
 keep:∀ i h h',tn i h->(∀ b∈fp,∀ o,h.get? b=some o->h'.get? b=some o)->tn i h'
 item:∀ (X:Cx),X.prog=P->X.w=w->X.K=K->Cm X->∀ (i:Nat) (pins:List (Addr×Obj)) (s:Shared) (σ:St) (H:Hp) (E:Value->Shared->Prop),Inv X pins σ H s->(∀ b∈fp,qeF X pins H b)->tn i s.heap->J.go i H ->
   wpAny (model P w) X.A (pyNext (.ref it)) (fun r s1=>∃ u,r=some u ∧
     wpAny (model P w) X.A (letOwnedTupleGo tg (.ref it) u) (fun _ s2=>∃ x H',Inv X pins σ H' s2∧RelV x u∧J.yld i H x H'∧tn (i+1) s2.heap∧∀ b∈fp,H' b=none) E s1) E s
 done:∀ (X:Cx),X.prog=P->X.w=w->X.K=K->Cm X->∀ (i:Nat) (pins:List (Addr×Obj)) (s:Shared) (σ:St) (H:Hp) (E:Value->Shared->Prop),Inv X pins σ H s->(∀ b∈fp,qeF X pins H b)->tn i s.heap->J.stop i H ->
   wpAny (model P w) X.A (pyNext (.ref it)) (fun r s1=>r=none∧Inv X pins σ H s1) E s
 self:∀ (A:Around) (i:Nat) (s:Shared) (Q:Value->Shared->Prop) (E:Value->Shared->Prop),tn i s.heap->Q (.ref it) s->wpAny (model P w) A (pyIter (.ref it)) Q E s
abbrev qkN (P:Program) (w:World) (K:Frag) (tg:Expr) (J:It) (fp:List Addr) (it:Addr) (tn:Nat->Heap->Prop):Prop:=qhR (fun X=>X.calm=true) P w K tg J fp it tn
abbrev TI:=St->Hp->(It->Hp->Prop)->Prop
def qlW (Cm:Cx->Prop) (X:Cx) (pins:List (Addr×Obj)) (σ:St) (tg:Expr) (R:It->Hp->Prop) (itv:Value) (s2:Shared):Prop :=
 ∃ (it:Addr) (fp:List Addr) (tn:Nat->Heap->Prop) (J:It) (H':Hp),itv=.ref it∧Inv X pins σ H' s2∧qhR Cm X.prog X.w X.K tg J fp it tn∧tn 0 s2.heap∧(∀ b∈fp,qeF X pins H' b)∧R J H'
abbrev PIE (X:Cx):=qlW (fun X=>X.calm=true) X
def PIC (Cm:Cx->Prop) (X:Cx) (tg iter:Expr) (wi:TI):Prop :=
 ∀ (pins:List (Addr×Obj)) (s:Shared) (σ:St) (H:Hp) (R:It->Hp->Prop),Inv X pins σ H s->wi σ H R ->
   wpAny (model X.prog X.w) X.A (eval iter X.env) (fun v s1=>wpAny (model X.prog X.w) X.A (pyIter v) (qlW Cm X pins σ tg R) X.xe s1) X.xe s
abbrev PI (X:Cx):=PIC (fun X=>X.calm=true) X
theorem qkD {M:Model}{A:Around}{E:Value->Shared->Prop}{s:Shared}{tg:Expr}{it:Addr}{u:Value}{o:Obj}{n:String}{vs:Array Value}{Q:Unit->Shared->Prop} (ho:s.heap.get? it=some o) (hc:o.cls=.type n) (hd:o.data=.fields vs)
   (hn:["enumerate","zip","dict_itemiterator","dict_reverseitemiterator","odict_iterator","itertools.zip_longest","itertools.pairwise"].contains n=false) (hQ:Q () s):wpAny M A (letOwnedTupleGo tg (.ref it) u) Q E s:=by
 unfold letOwnedTupleGo;cases tg<;>first
   | exact wpAny_pure hQ
   | (cases u<;>first
       | exact wpAny_pure hQ
       | (refine wpAny_bind (wpAny_load ho ?_)
          rw[hc,hd];show wpAny M A (if (["enumerate","zip","dict_itemiterator","dict_reverseitemiterator","odict_iterator","itertools.zip_longest","itertools.pairwise"].contains n && vs[0]? == some (rawInt _))=true then _ else _) Q E s;rw[if_neg (by intro h;rw[hn,Bool.false_and]at h;cases h)]
          exact wpAny_pure hQ))
def Itl (K:Frag) (a:Addr):It :=
 ⟨fun i H=>∃ xs x,SqL K H a xs∧xs[i]?=some x,fun i H x H'=>H'=H∧∀ xs,SqL K H a xs->xs[i]?=some x,fun i H=>∃ xs,SqL K H a xs∧xs.length≤i⟩
def Itr (lo:Int) (n:Nat):It:=⟨fun i _=>i < n,fun i H x H'=>H'=H∧x=.int (lo+i),fun i _=>n≤i⟩
theorem qfg {P:Program}{w:World}{K:Frag}{tg:Expr} (a it:Addr):qkN P w K tg (Itl K a) [it] it (fun i h=>h.IsListIter it a i) where
 mem:=by simp
 obj:=fun i h st b hb=>by
   have e:b=it:=by simpa using hb
   subst e;obtain⟨o,e,c,d⟩:=st;exact⟨o,e,fun v z=>by rw[d]at z;cases z⟩
 keep:=fun i h h' st k=>st.at fun o e=>k it (by simp) o e
 item:=by
   intro X hP hw hK hc i pins s σ H E I hf st hg;subst hP hw hK;obtain⟨xs,x,hq,hx⟩:=hg;obtain⟨its,rv,p,hz⟩:=I.list hq;obtain⟨u,hu,ru⟩:=rv.get hx;obtain⟨f0,f1,f2,f3,f4,f5⟩:=hf it (by simp);refine wpAny_pyNext_list_item st p.isList (x:=u) (by simpa using hu) fun h' st' sb=>?_;have I1:Inv X pins σ H { s with heap:=h' }:=I.turned (t':=s.toks) (fun b o hb e=>(sb.2 b hb).trans e) f0 f1 f3 f4 f5;obtain⟨o,e,c,d⟩:=id st';exact⟨u,rfl,qkD (s:={ s with heap:=h' }) e c d (by decide) ⟨x,H,I1,ru,⟨rfl,fun ys hy=>by rw[I.list_inj hy hq];exact hx⟩,st',fun b hb=>(hf b hb).1⟩⟩
 done:=by
   intro X hP hw hK hc i pins s σ H E I hf st hg;subst hP hw hK;obtain⟨xs,hq,hx⟩:=hg;obtain⟨its,rv,p,hz⟩:=I.list hq;obtain⟨f0,f1,f2,f3,f4,f5⟩:=hf it (by simp);have hl:=rv.length;exact wpAny_pyNext_list_end (I.ok.hd hc) st p.isList (by simp;omega) fun h' eb=>⟨rfl,I.turned (t':=s.toks) (fun b o hb e=>eb b o hb e) f0 f1 f3 f4 f5⟩
 self:=fun _ _ _ _ _ st h=>wpAny_pyIter_listiter st h
theorem qeH {P:Program}{w:World}{K:Frag}{tg:Expr} (it:Addr) (lo:Int) (n:Nat):qkN P w K tg (Itr lo n) [it] it (fun i h=>IsRangeIter h it (lo+(i:Nat) * 1) ((n:Int) - (i:Nat)) 1) where
 mem:=by simp
 obj:=fun i h st b hb=>by
   have e:b=it:=by simpa using hb
   subst e
   exact⟨_,st,fun v z=>by
     have z':Data.fields _=Data.cell v:=z
     cases z'⟩
 keep:=fun i h h' st k=>k it (by simp) _ st
 item:=by
   intro X hP hw hK hc i pins s σ H E I hf st hg;subst hP hw hK;obtain⟨f0,f1,f2,f3,f4,f5⟩:=hf it (by simp);have W:=Walks.range (prog:=X.prog) (w:=X.w) (I.ok.hd hc) it lo 1 n;refine W.item i s _ _ hg st fun v h' tk hv st' kk=>?_;obtain⟨t,rfl⟩:=hv;have I1:Inv X pins σ H { s with heap:=h',toks:=tk }:=I.turned (fun b o hb e=>kk b o (by simpa using hb) e) f0 f1 f3 f4 f5;refine⟨_,rfl,qkD (s:={ s with heap:=h',toks:=tk }) (n:="range_iterator") st' rfl rfl (by decide) ⟨.int (lo+i),H,I1,⟨t,?_⟩,⟨rfl,rfl⟩,st',fun b hb=>(hf b hb).1⟩⟩;rw[Int.mul_one]
 done:=by
   intro X hP hw hK hc i pins s σ H E I hf st hg;subst hP hw hK;obtain⟨f0,f1,f2,f3,f4,f5⟩:=hf it (by simp);exact wpAny_pyNext_range_end (I.ok.hd hc) st (by have:n≤i:=hg;omega) fun h' eb=>⟨rfl,I.turned (t':=s.toks) (fun b o hb e=>eb b o hb e) f0 f1 f3 f4 f5⟩
 self:=fun _ _ _ _ _ st h=>wpAny_pyIter_rangeiter st h
section
variable {X:Cx}{tg:Expr}
inductive qgf (K:Frag) (R:(It->Hp->Prop)) (x:V) (H1:Hp):Prop
 | mk (a:_) (h1:x=.ref a) (h2:(∃ xs,SqL K H1 a xs)) (h3:R (Itl K a) H1):qgf K R x H1
def qls (K:Frag) (tl:TE):TI:=fun σ H R=>tl σ H fun x H1=>qgf K R x H1
theorem qX {l:Expr}{tl:TE} (hl:PE X l tl):PI X tg l (qls X.K tl):=by
 intro pins s σ H R I h;refine thn (hl pins s σ H _ I h) fun v s1 zz_=>?_;obtain⟨x,H1,I1,r1,q1⟩:=zz_;obtain⟨a,e,⟨xs,hq⟩,q⟩:=q1;subst e;cases r1;obtain⟨its,rv,p,hz⟩:=I1.list hq;refine wpAny_pyIter_list p.isList ?_;refine⟨s1.heap.objs.size,[s1.heap.objs.size],_,_,H1,rfl,I1.kept (t':=s1.toks) fun b o e=>Heap.get?_push_of_some _ e,qfg a _,⟨_,Heap.get?_push_size _ rfl,rfl,rfl⟩,fun b hb=>?_,q⟩;have e:b=s1.heap.objs.size:=by simpa using hb
 subst e;exact I1.fpOk (Nat.le_refl _) (I1.hok.fresh (Nat.le_refl _))
theorem qed {pins:List (Addr×Obj)}{σ:St}{H:Hp}{s:Shared}{R:It->Hp->Prop}{E:Value->Shared->Prop}{lo hi:Int}{t u v:Tok}{tk:Nat} (I:Inv X pins σ H s) (h1:-(2 ^ 62)≤lo) (h2:lo < 2 ^ 62) (h3:-(2 ^ 62)≤hi) (h4:hi < 2 ^ 62)
   (q:R (Itr lo (hi - lo).toNat) H):wpAny (model X.prog X.w) X.A (pyIter (.ref s.heap.objs.size)) (PIE X pins σ tg R) E { s with heap:=s.heap.push { cls:=.type "range",data:=.fields #[.int lo t,.int hi u,.int 1 v] },toks:=tk }:=by
 refine wpAny_pyIter_range (IsRange.new ..) (small_one h1 h2 h3 h4) ?_;have I1:Inv X pins σ H { s with heap:=s.heap.push { cls:=.type "range",data:=.fields #[.int lo t,.int hi u,.int 1 v] },toks:=tk }:=I.kept fun b o e=>Heap.get?_push_of_some _ e
 refine⟨(s.heap.push { cls:=.type "range",data:=.fields #[.int lo t,.int hi u,.int 1 v] }).objs.size,[(s.heap.push { cls:=.type "range",data:=.fields #[.int lo t,.int hi u,.int 1 v] }).objs.size],_,_,H,rfl,
   I1.kept (t':=tk) fun b o e=>Heap.get?_push_of_some _ e,qeH _ lo (hi - lo).toNat,?_,fun b hb=>?_,q⟩
 · have e1:lo+((0:Nat):Int) * 1=lo:=by simp
   have e2:(((hi - lo).toNat:Nat):Int) - ((0:Nat):Int)=Builtin.Range.rangeSize lo hi 1:=by rw[rangeSize_one];split<;>omega
   show IsRangeIter _ _ (lo+((0:Nat):Int) * 1) ((((hi - lo).toNat:Nat):Int) - ((0:Nat):Int)) 1;rw[e1,e2];exact Heap.get?_push_size _ rfl
 · have e:b=(s.heap.push { cls:=.type "range",data:=.fields #[.int lo t,.int hi u,.int 1 v] }).objs.size:=by simpa using hb
   subst e;exact I1.fpOk (Nat.le_refl _) (I1.hok.fresh (Nat.le_refl _))
inductive qge (R:(It->Hp->Prop)) (vs:List V) (H1:Hp):Prop
 | mk (j:Int) (h1:vs=[.int j]) (h2:-(2 ^ 62)≤j) (h3:j < 2 ^ 62) (h4:R (Itr 0 j.toNat) H1):qge R vs H1
def qlr (ta:TA):TI:=fun σ H R=>ta σ H fun vs H1=>qge R vs H1
inductive qgd (R:(It->Hp->Prop)) (vs:List V) (H1:Hp):Prop
 | mk (i j:Int) (h1:vs=[.int i,.int j]) (h2:(-(2 ^ 62)≤i∧i < 2 ^ 62∧-(2 ^ 62)≤j∧j < 2 ^ 62)) (h3:R (Itr i (j - i).toNat) H1):qgd R vs H1
def qlq (ta:TA):TI:=fun σ H R=>ta σ H fun vs H1=>qgd R vs H1
theorem ZE {a:Expr}{ta:TA}{p pos:Pos} (hg:Gl X "range") (hm:X.mg "range"=none) (ha:PA X [a] ta) (hs:starEach [a] X.env=[(false,eval a X.env)]:=by rfl):PI X tg (.Call (.Name "range" p) [a] [] pos) (qlr ta):=by
 intro pins s σ H R I h;refine Call_ (qaI I hg hm boot_range (PyProof.Rows.callWith_type1 (thn (ha pos pins s σ H _ I h) fun us s1 zz_=>?_) hs rfl));obtain⟨vs,H1,I1,r1,q1⟩:=zz_;obtain⟨j,e,q1,q2,q⟩:=q1;subst e
 cases r1 with
 | cons r rr =>
   cases rr;obtain⟨t,rfl⟩:=r;exact call_range_1 (qed I1 (by omega) (by omega) q1 q2 (by simpa using q))
theorem qcH {a b:Expr}{ta:TA}{p pos:Pos} (hg:Gl X "range") (hm:X.mg "range"=none) (ha:PA X [a,b] ta) (hs:starEach [a,b] X.env=[(false,eval a X.env),(false,eval b X.env)]:=by rfl) (hs2:starEach [b] X.env=[(false,eval b X.env)]:=by rfl) :
   PI X tg (.Call (.Name "range" p) [a,b] [] pos) (qlq ta):=by
 intro pins s σ H R I h;refine Call_ (qaI I hg hm boot_range (PyProof.Rows.callWith_type1 (thn (ha pos pins s σ H _ I h) fun us s1 zz_=>?_) (by rw[hs,hs2]) (by rw[hs2];rfl)));obtain⟨vs,H1,I1,r1,q1⟩:=zz_;obtain⟨i,j,e,⟨q1,q2,q3,q4⟩,q⟩:=q1;subst e
 cases r1 with
 | cons r rr =>
   cases rr with
   | cons r' rr =>
     cases rr;obtain⟨t,rfl⟩:=r;obtain⟨t',rfl⟩:=r';exact call_range_2 (qed I1 q1 q2 q3 q4 q)
def qiL (wi:TI) (g:TG) (tb:TS):TS:=fun D σ H=>wi σ H fun J H1=>∃ W:Nat->Nat->St->Hp->Prop,(∃ m,W 0 m σ H1)∧∀ i m σ H,W i m σ H ->
 (J.stop i H∧D.nx σ H)∨(J.go i H∧∃ N:St->Hp->Prop,(∀ σ' H',N σ' H'->∃ m',m' < m∧W (i+1) m' σ' H')∧∀ x H',J.yld i H x H'->g x σ H' fun σ2 H2=>tb { D with nx:=N,ct:=N,bk:=D.nx } σ2 H2)
def qbv (fp:List Addr) (h:Heap):List (Addr×Obj):=fp.filterMap fun b=>(h.get? b).map fun o=>(b,o)
theorem zW {fp:List Addr}{h:Heap}{b:Addr}{o:Obj} (hb:b∈fp) (e:h.get? b=some o):(b,o)∈qbv fp h:=List.mem_filterMap.mpr ⟨b,hb,by rw[e];rfl⟩
theorem qfZ {fp:List Addr}{h:Heap}{p:Addr×Obj} (hp:p∈qbv fp h):p.1∈fp∧h.get? p.1=some p.2:=by
 obtain⟨b,hb,e⟩:=List.mem_filterMap.mp hp
 cases q:h.get? b with
 | none=>rw[q]at e;cases e
 | some o =>
   rw[q]at e;have e':(b,o)=p:=Option.some.inj e;subst e';exact⟨hb,q⟩
theorem Inv.pinned {pins:List (Addr×Obj)}{σ:St}{H:Hp}{s:Shared}{fp:List Addr} (I:Inv X pins σ H s) (hf:∀ b∈fp,qeF X pins H b) (ho:∀ b∈fp,∃ o,s.heap.get? b=some o∧∀ v,o.data≠.cell v):Inv X (pins++qbv fp s.heap) σ H s :=
 I.pins_of fun p hp=>(List.mem_append.mp hp).elim (fun z=>I.pin p (List.mem_append_right _ z)) fun z=>by
   obtain⟨hb,e⟩:=qfZ z;obtain⟨f0,f1,f2,_⟩:=hf p.1 hb;obtain⟨o,e',d⟩:=ho p.1 hb;rw[e]at e';cases e';exact⟨e,f0,f1,f2,d⟩
theorem Inv.unpinned {pins pl:List (Addr×Obj)}{σ:St}{H:Hp}{s:Shared} (I:Inv X (pins++pl) σ H s):Inv X pins σ H s:=I.pins_of fun p hp=>I.pin p (List.mem_append_right _ (List.mem_append_left _ hp))
theorem zP {iter:Expr}{body:List Stmt}{wi:TI}{g:TG}{tb:TS}{pos:Pos} (hp:PassesOwn (model X.prog X.w) X.A X.env X.xe) (hc:X.calm=true) (hi:PI X tg iter wi) (hg:PG X tg g) (hb:PSs X body tb)
   (hs:∀ x,foldedSetIterable iter X.env x=pure x:=by intro _;rfl):PS X (.For tg iter body [] pos) (qiL wi g tb):=by
 intro pins s σ H D I h;refine wpAny_For (thn (hi pins s σ H _ I h) fun v s1 h1=>thn h1 fun itv s2 h2=>?_) hs;obtain⟨it,fp,tn,J,H2,e,I2,T,st2,f2,W,⟨m0,w0⟩,turn⟩:=h2;subst e
 -- what stays true of the iterator's objects through the loop
 have stat:∀ {H':Hp},(∀ b∈fp,H' b=none)->∀ b∈fp,qeF X pins H' b:=fun hn b hb=>⟨hn b hb,(f2 b hb).2⟩
 refine codeAny_forLoop_any (fun n s'=>∃ i σ' H',Inv X pins σ' H' s'∧tn i s'.heap∧(∀ b∈fp,H' b=none)∧W i n σ' H') ?_ m0 ⟨0,σ,H2,I2,st2,fun b hb=>(f2 b hb).1,w0⟩;rintro n s3 ⟨i,σ3,H3,I3,st3,fr3,w3⟩;rcases turn i n σ3 H3 w3 with ⟨stop,qn⟩|⟨go,N,hN,step⟩
 · refine wpAny_passesOwn hp (thn (T.done X rfl rfl rfl hc i pins s3 σ3 H3 X.xe I3 (stat fr3) st3 stop) fun r s4 ⟨hr,I4⟩=>?_);subst hr;exact wpAny_execs_nil ⟨σ3,H3,I4,qn⟩
 · refine wpAny_passesOwn hp (thn (T.item X rfl rfl rfl hc i pins s3 σ3 H3 X.xe I3 (stat fr3) st3 go) fun r s4 ⟨u,hr,h4⟩=>?_);subst hr;refine wpAny_passesOwn hp (thn h4 fun _ s5 zz_=>?_);obtain⟨x,H5,I5,r5,y5,st5,fr5⟩:=zz_;have I5':=I5.pinned (stat fr5) (T.obj _ _ st5);refine wpAny_passesOwn hp (thn (hg _ s5 σ3 H5 x u _ I5' r5 (step x H5 y5)) fun _ s6 zz_=>?_);obtain⟨σ6,H6,I6,q6⟩:=zz_;refine wpAny_passesOwn hp (thn (hb _ s6 σ6 H6 _ I6 q6) fun f s7 q7=>?_)
   have again:∀ {σ7:St}{H7:Hp},Inv X (pins++qbv fp s5.heap) σ7 H7 s7->N σ7 H7->∃ m,m < n∧∃ i σ' H',Inv X pins σ' H' s7∧tn i s7.heap∧(∀ b∈fp,H' b=none)∧W i m σ' H':=fun {σ7 H7} I7 n7=>by
     obtain⟨m',hm,w7⟩:=hN σ7 H7 n7;refine⟨m',hm,i+1,σ7,H7,I7.unpinned,T.keep _ _ _ st5 fun b hb o e=>(I7.pin (b,o) (List.mem_append_right _ (List.mem_append_right _ (zW hb e)))).1,fun b hb=>?_,w7⟩;obtain⟨o,e,d⟩:=T.obj _ _ st5 b hb;exact(I7.pin (b,o) (List.mem_append_right _ (List.mem_append_right _ (zW hb e)))).2.1
   cases f with
   | next=>obtain⟨σ7,H7,I7,n7⟩:=q7;exact again I7 n7
   | cont=>obtain⟨σ7,H7,I7,n7⟩:=q7;exact again I7 n7
   | brk=>obtain⟨σ7,H7,I7,q7⟩:=q7;exact⟨σ7,H7,I7.unpinned,q7⟩
   | ret v=>obtain⟨x7,σ7,H7,I7,r7,q7⟩:=q7;exact⟨x7,σ7,H7,I7.unpinned,r7,q7⟩
end
theorem zH {K:Frag}{a:Addr}{xs:List V}{g:TG}{tb:TS}{D:qgQ}{σ:St}{H:Hp} (Pv:Nat->St->Hp->Prop) (h0:Pv 0 σ H) (hl:∀ i σ H,i≤xs.length->Pv i σ H->SqL K H a xs)
   (hs:∀ i x σ H,xs[i]?=some x->Pv i σ H->g x σ H fun σ2 H2=>tb { D with nx:=Pv (i+1),ct:=Pv (i+1),bk:=D.nx } σ2 H2) (hd:∀ σ H,Pv xs.length σ H->D.nx σ H) :
   ∃ W:Nat->Nat->St->Hp->Prop,(∃ m,W 0 m σ H)∧∀ i m σ H,W i m σ H ->
     ((Itl K a).stop i H∧D.nx σ H)∨((Itl K a).go i H∧∃ N:St->Hp->Prop,(∀ σ' H',N σ' H'->∃ m',m' < m∧W (i+1) m' σ' H')∧∀ x H',(Itl K a).yld i H x H'->g x σ H' fun σ2 H2=>tb { D with nx:=N,ct:=N,bk:=D.nx } σ2 H2):=by
 refine⟨fun i m σ H=>m=xs.length - i∧i≤xs.length∧Pv i σ H,⟨xs.length,by simp,Nat.zero_le _,h0⟩,?_⟩;rintro i m σ H ⟨rfl,hi,p⟩;have q:=hl i σ H hi p;by_cases hlt:i < xs.length
 · refine .inr ⟨⟨xs,xs[i],q,by simp[hlt]⟩,Pv (i+1),fun σ' H' p'=>⟨xs.length - (i+1),by omega,rfl,hlt,p'⟩,fun x H' y=>?_⟩;obtain⟨e,y⟩:=y;subst e;exact hs i x σ _ (y xs q) p
 · have e:i=xs.length:=by omega
   subst e;exact .inl ⟨⟨xs,q,Nat.le_refl _⟩,hd σ H p⟩
theorem ZH {lo:Int}{n:Nat}{g:TG}{tb:TS}{D:qgQ}{σ:St}{H:Hp} (Pv:Nat->St->Hp->Prop) (h0:Pv 0 σ H)
   (hs:∀ i σ H,i < n->Pv i σ H->g (.int (lo+i)) σ H fun σ2 H2=>tb { D with nx:=Pv (i+1),ct:=Pv (i+1),bk:=D.nx } σ2 H2) (hd:∀ σ H,Pv n σ H->D.nx σ H) :
   ∃ W:Nat->Nat->St->Hp->Prop,(∃ m,W 0 m σ H)∧∀ i m σ H,W i m σ H ->
     ((Itr lo n).stop i H∧D.nx σ H)∨((Itr lo n).go i H∧∃ N:St->Hp->Prop,(∀ σ' H',N σ' H'->∃ m',m' < m∧W (i+1) m' σ' H')∧∀ x H',(Itr lo n).yld i H x H'->g x σ H' fun σ2 H2=>tb { D with nx:=N,ct:=N,bk:=D.nx } σ2 H2):=by
 refine⟨fun i m σ H=>m=n - i∧i≤n∧Pv i σ H,⟨n,by simp,Nat.zero_le _,h0⟩,?_⟩;rintro i m σ H ⟨rfl,hi,p⟩;by_cases hlt:i < n
 · refine .inr ⟨hlt,Pv (i+1),fun σ' H' p'=>⟨n - (i+1),by omega,rfl,hlt,p'⟩,fun x H' y=>?_⟩;obtain⟨e,y⟩:=y;subst e y;exact hs i σ _ hlt p
 · have e:i=n:=by omega
   subst e;exact .inl ⟨Nat.le_refl _,hd σ H p⟩
abbrev R2:=V->V->Hp->VK->Prop
def OpR (X:Cx) (f:Value->Value->Sem Value) (r:R2):Prop :=
 ∀ (pins:List (Addr×Obj)) (s:Shared) (σ:St) (H:Hp) (x y:V) (v u:Value) (Q:VK),Inv X pins σ H s->RelV x v->RelV y u->r x y H Q ->
   wpAny (model X.prog X.w) X.A (f v u) (EP X pins σ Q) X.xe s
def UnR (X:Cx) (f:Value->Sem Value) (r:V->Hp->VK->Prop):Prop :=
 ∀ (pins:List (Addr×Obj)) (s:Shared) (σ:St) (H:Hp) (x:V) (v:Value) (Q:VK),Inv X pins σ H s->RelV x v->r x H Q ->
   wpAny (model X.prog X.w) X.A (f v) (EP X pins σ Q) X.xe s
def CallR (X:Cx) (f:Value) (r:List V->Hp->VK->Prop):Prop :=
 ∀ (pins:List (Addr×Obj)) (s:Shared) (σ:St) (H:Hp) (xs:List V) (us:List Value) (Q:VK),Inv X pins σ H s->Vals xs us->r xs H Q ->
   wpAny (model X.prog X.w) X.A (call f us) (EP X pins σ Q) X.xe s
def qms (X:Cx) (r:V->Hp->(Bool->Hp->Prop)->Prop):Prop :=
 ∀ (pins:List (Addr×Obj)) (s:Shared) (σ:St) (H:Hp) (x:V) (v:Value) (Q:Bool->Hp->Prop),Inv X pins σ H s->RelV x v->r x H Q ->
   wpAny (model X.prog X.w) X.A (truthy v) (TP X pins σ Q) X.xe s
def tOp (r:R2) (ta tb:TE):TE:=fun σ H Q=>ta σ H fun x H1=>tb σ H1 fun y H2=>r x y H2 Q
def tUn (r:V->Hp->VK->Prop) (ta:TE):TE:=fun σ H Q=>ta σ H fun x H1=>r x H1 Q
inductive qlL (C:Int->Int->Prop) (g:Int->Int->V) (x:V) (y:V) (H:Hp) (Q:VK):Prop
 | mk (i j:_) (h1:x=.int i) (h2:y=.int j) (h3:C i j) (h4:Q (g i j) H):qlL C g x y H Q
def rI (C:Int->Int->Prop) (g:Int->Int->V):R2:=fun x y H Q=>qlL C g x y H Q
inductive qj8 (g:Int->Int->V) (x:V) (y:V) (H:Hp) (Q:VK):Prop
 | mk (i j:_) (h1:x=.int i) (h2:y=.int j) (h3:Q (g i j) H):qj8 g x y H Q
def rI0 (g:Int->Int->V):R2:=fun x y H Q=>qj8 g x y H Q
inductive qlE (g:Int->V) (x:V) (H:Hp) (Q:VK):Prop
 | mk (i:_) (h1:x=.int i) (h2:Q (g i) H):qlE g x H Q
def rU (g:Int->V):V->Hp->VK->Prop:=fun x H Q=>qlE g x H Q
section
variable {X:Cx}{a b c:Expr}{ta tb tc:TE}{pos:Pos}
theorem qlz (ha:PE X a ta) (hb:PE X b tb) {pins:List (Addr×Obj)}{s:Shared}{σ:St}{H:Hp}{R:V->V->Hp->Prop} (I:Inv X pins σ H s)
   (h:ta σ H fun x H1=>tb σ H1 fun y H2=>R x y H2) {Q:Value->Shared->Prop}{f:Value->Value->Sem Value}
   (hf:∀ v u s2 x y H2,Inv X pins σ H2 s2->RelV x v->RelV y u->R x y H2->wpAny (model X.prog X.w) X.A (f v u) Q X.xe s2) :
   wpAny (model X.prog X.w) X.A (eval a X.env) (fun v s₁=>wpAny (model X.prog X.w) X.A (eval b X.env) (fun u s₂=>wpAny (model X.prog X.w) X.A (f v u) Q X.xe s₂) X.xe s₁) X.xe s:=by
 refine thn (ha pins s σ H _ I h) fun v s1 zz_=>?_;obtain⟨x,H1,I1,r1,q1⟩:=zz_;refine thn (hb pins s1 σ H1 _ I1 q1) fun u s2 zz_=>?_;obtain⟨y,H2,I2,r2,q2⟩:=zz_;exact hf v u s2 x y H2 I2 r1 r2 q2
theorem qB {op:Operator}{r:R2} (ho:OpR X (binaryOp op) r) (ha:PE X a ta) (hb:PE X b tb):PE X (.BinOp a op b pos) (tOp r ta tb):=by
 intro pins s σ H Q I h;exact wpAny_BinOp (qlz ha hb I h fun v u s2 x y H2 I2 rx ry q=>ho pins s2 σ H2 x y v u Q I2 rx ry q)
theorem jj {op:UnaryOp}{r:V->Hp->VK->Prop} (ho:UnR X (unaryOp op) r) (ha:PE X a ta):PE X (.UnaryOp op a pos) (tUn r ta):=by
 intro pins s σ H Q I h;exact UnaryOp_ (thn (ha pins s σ H _ I h) fun v s1 ⟨x,H1,I1,r1,q1⟩=>ho pins s1 σ H1 x v Q I1 r1 q1)
theorem opI {f:Value->Value->Sem Value}{C:Int->Int->Prop}{g:Int->Int->Int}
   (rule:∀ (i j:Int) (t u:Tok) (s:Shared) (Q:Value->Shared->Prop) (E:Value->Shared->Prop),C i j->Q (.int (g i j) s.toks) { s with toks:=s.toks+1 }->wpAny (model X.prog X.w) X.A (f (.int i t) (.int j u)) Q E s) :
   OpR X f (rI C fun i j=>.int (g i j)):=by
 intro pins s σ H x y v u Q I rx ry h;obtain⟨i,j,rfl,rfl,hc,q⟩:=h;obtain⟨t,rfl⟩:=rx;obtain⟨t',rfl⟩:=ry;exact rule i j t t' s _ _ hc ⟨.int (g i j),H,I.tok _,⟨_,rfl⟩,q⟩
theorem qlO {f:Value->Value->Sem Value}{g:Int->Int->Int}
   (rule:∀ (i j:Int) (t u:Tok) (s:Shared) (Q:Value->Shared->Prop) (E:Value->Shared->Prop),Q (.int (g i j) s.toks) { s with toks:=s.toks+1 }->wpAny (model X.prog X.w) X.A (f (.int i t) (.int j u)) Q E s) :
   OpR X f (rI0 fun i j=>.int (g i j)):=by
 intro pins s σ H x y v u Q I rx ry h;obtain⟨i,j,rfl,rfl,q⟩:=h;obtain⟨t,rfl⟩:=rx;obtain⟨t',rfl⟩:=ry;exact rule i j t t' s _ _ ⟨.int (g i j),H,I.tok _,⟨_,rfl⟩,q⟩
theorem qkV {f:Value->Value->Sem Value}{g:Int->Int->Bool}
   (rule:∀ (i j:Int) (t u:Tok) (s:Shared) (Q:Value->Shared->Prop) (E:Value->Shared->Prop),Q (.bool (g i j)) s->wpAny (model X.prog X.w) X.A (f (.int i t) (.int j u)) Q E s) :
   OpR X f (rI0 fun i j=>.bl (g i j)):=by
 intro pins s σ H x y v u Q I rx ry h;obtain⟨i,j,rfl,rfl,q⟩:=h;obtain⟨t,rfl⟩:=rx;obtain⟨t',rfl⟩:=ry;exact rule i j t t' s _ _ ⟨.bl (g i j),H,I,rfl,q⟩
def qmv (i j:Int):Prop:=0 < j∧j < 1073741824
def qmu (i j:Int):Prop:=0≤j∧j≤1000000∧i.natAbs < 2 ^ 64
def CMul (i j:Int):Prop:=(-(2 ^ 64) < i∧i < 2 ^ 64)∨(-(2 ^ 64) < j∧j < 2 ^ 64)
theorem CMul.ok {i j:Int} (h:CMul i j):IntMulOk i j:=by
 rcases h with ⟨h1,h2⟩|⟨h1,h2⟩
 · exact .of_left (intBits_le_64 h1 h2)
 · exact .of_right (intBits_le_64 h1 h2)
theorem op_add:OpR X (binaryOp .Add) (rI0 fun i j=>.int (i+j)):=qlO fun _ _ _ _ _ _ _ q=>add_int q
theorem zu:OpR X (binaryOp .Sub) (rI0 fun i j=>.int (i - j)):=qlO fun _ _ _ _ _ _ _ q=>sub_int q
theorem JC:OpR X (binaryOp .Mult) (rI CMul fun i j=>.int (i * j)):=opI fun _ _ _ _ _ _ _ hc q=>mul_int q hc.ok
theorem jm:OpR X (binaryOp .FloorDiv) (rI qmv fun i j=>.int (i / j)):=opI fun i j _ _ _ _ _ hc q=>by
 have h1:(0:Int) < j:=hc.1;have h2:j < 1073741824:=hc.2;exact floordiv_int (by omega) (by rw[Int.fdiv_eq_ediv_of_nonneg i (by omega)];exact q) (.inl (PyProof.noPylong_small (by omega)))
theorem QV:OpR X (binaryOp .Mod) (rI (fun _ j=>0 < j) fun i j=>.int (i % j)):=opI fun i j _ _ _ _ _ hc q=>by
 have h1:(0:Int) < j:=hc;exact mod_int' (by omega) (by rw[Int.fmod_eq_emod_of_nonneg i (by omega)];exact q)
theorem qcL:OpR X (binaryOp .Pow) (rI qmu fun i j=>.int (i ^ j.toNat)):=opI fun _ _ _ _ _ _ _ hc q=>pow_int_small hc.1 hc.2.1 hc.2.2 q
theorem unI {f:Value->Sem Value}{g:Int->Int}
   (rule:∀ (i:Int) (t:Tok) (s:Shared) (Q:Value->Shared->Prop) (E:Value->Shared->Prop),Q (.int (g i) s.toks) { s with toks:=s.toks+1 }->wpAny (model X.prog X.w) X.A (f (.int i t)) Q E s) :
   UnR X f (rU fun i=>.int (g i)):=by
 intro pins s σ H x v Q I rx h;obtain⟨i,rfl,q⟩:=h;obtain⟨t,rfl⟩:=rx;exact rule i t s _ _ ⟨.int (g i),H,I.tok _,⟨_,rfl⟩,q⟩
theorem Qi:UnR X (unaryOp .USub) (rU fun i=>.int (-i)):=unI fun _ _ _ _ _ q=>neg_int q
end
def qk9:V->V->Bool
 | .non,.non=>true|.non,.int _=>true|.int _,.non=>true|.non,.bl _=>true|.bl _,.non=>true|.non,.str _=>true|.str _,.non=>true
 | .int _,.int _=>true|.bl _,.bl _=>true|.str _,.str _=>true|.byt _,.byt _=>true
 | .int _,.str _=>true|.str _,.int _=>true|.bl _,.str _=>true|.str _,.bl _=>true
 | _,_=>false
def rEq:R2:=fun x y H Q=>qk9 x y=true∧Q (.bl (decide (x=y))) H
def rNe:R2:=fun x y H Q=>qk9 x y=true∧Q (.bl (!decide (x=y))) H
theorem qgs {i j:Int}:decide (V.int i=V.int j)=(i == j):=by
 rw[Bool.eq_iff_iff];simp
theorem qiy {i j:Bool}:decide (V.bl i=V.bl j)=(i == j):=by
 rw[Bool.eq_iff_iff];simp
theorem qgr {i j:Str}:decide (V.str i=V.str j)=(i == j):=by
 rw[Bool.eq_iff_iff];simp
theorem qgt {i j:Array UInt8}:decide (V.byt i=V.byt j)=(i.toList == j.toList):=by
 rw[Bool.eq_iff_iff];cases i;cases j;simp
section
variable {X:Cx}{a b c:Expr}{ta tb tc:TE}{pos:Pos}
theorem zf {pins:List (Addr×Obj)}{σ:St}{H:Hp}{s:Shared}{Q:VK}{k k':Bool} (I:Inv X pins σ H s) (q:Q (.bl k) H) (e:k=k'):EP X pins σ Q (.bool k') s:=by
 subst e;exact⟨.bl k,H,I,rfl,q⟩
theorem op_eq:OpR X (compareOp .Eq) rEq:=by
 intro pins s σ H x y v u Q I rx ry h;obtain⟨hs,q⟩:=h
 cases x with
 | non =>
   cases rx
   cases y with
   | non=>cases ry;exact PySem.EqNone.eq_none_none (zf I q (by simp))
   | bl j=>cases ry;exact PySem.EqNone.eq_none_bool (zf I q (by simp))
   | int j=>obtain⟨t',rfl⟩:=ry;exact PySem.EqNone.eq_none_int (zf I q (by simp))
   | str j=>obtain⟨t',rfl⟩:=ry;exact PySem.EqNone.eq_none_str (zf I q (by simp))
   | _=>exact absurd (show false=true from hs) Bool.false_ne_true
 | bl i =>
   cases rx
   cases y with
   | non=>cases ry;exact PySem.EqNone.eq_bool_none (zf I q (by simp))
   | bl j=>cases ry;exact eq_bool (zf I q qiy)
   | str j=>obtain⟨t',rfl⟩:=ry;exact PySem.EqMixed.eq_bool_str (zf I q (by simp))
   | _=>exact absurd (show false=true from hs) Bool.false_ne_true
 | int i =>
   obtain⟨t,rfl⟩:=rx
   cases y with
   | non=>cases ry;exact PySem.EqNone.eq_int_none (zf I q (by simp))
   | int j=>obtain⟨t',rfl⟩:=ry;exact eq_int (zf I q qgs)
   | str j=>obtain⟨t',rfl⟩:=ry;exact PySem.EqMixed.eq_int_str (zf I q (by simp))
   | _=>exact absurd (show false=true from hs) Bool.false_ne_true
 | str i =>
   obtain⟨t,rfl⟩:=rx
   cases y with
   | non=>cases ry;exact PySem.EqNone.eq_str_none (zf I q (by simp))
   | bl j=>cases ry;exact PySem.EqMixed.eq_str_bool (zf I q (by simp))
   | int j=>obtain⟨t',rfl⟩:=ry;exact PySem.EqMixed.eq_str_int (zf I q (by simp))
   | str j=>obtain⟨t',rfl⟩:=ry;exact eq_str (zf I q qgr)
   | _=>exact absurd (show false=true from hs) Bool.false_ne_true
 | byt i =>
   obtain⟨t,rfl⟩:=rx
   cases y with
   | byt j=>obtain⟨t',rfl⟩:=ry;exact PySem.W.eq_bytes (zf I q qgt)
   | _=>exact absurd (show false=true from hs) Bool.false_ne_true
 | _=>cases y<;>exact absurd (show false=true from hs) Bool.false_ne_true
theorem op_ne:OpR X (compareOp .NotEq) rNe:=by
 intro pins s σ H x y v u Q I rx ry h;obtain⟨hs,q⟩:=h
 cases x with
 | non =>
   cases rx
   cases y with
   | non=>cases ry;exact PySem.EqNone.ne_none_none (zf I q (by simp))
   | bl j=>cases ry;exact PySem.EqNone.ne_none_bool (zf I q (by simp))
   | int j=>obtain⟨t',rfl⟩:=ry;exact PySem.EqNone.ne_none_int (zf I q (by simp))
   | str j=>obtain⟨t',rfl⟩:=ry;exact PySem.EqNone.ne_none_str (zf I q (by simp))
   | _=>exact absurd (show false=true from hs) Bool.false_ne_true
 | bl i =>
   cases rx
   cases y with
   | non=>cases ry;exact PySem.EqNone.ne_bool_none (zf I q (by simp))
   | bl j=>cases ry;exact ne_bool (zf I q (congrArg not qiy))
   | str j=>obtain⟨t',rfl⟩:=ry;exact PySem.EqMixed.ne_bool_str (zf I q (by simp))
   | _=>exact absurd (show false=true from hs) Bool.false_ne_true
 | int i =>
   obtain⟨t,rfl⟩:=rx
   cases y with
   | non=>cases ry;exact PySem.EqNone.ne_int_none (zf I q (by simp))
   | int j=>obtain⟨t',rfl⟩:=ry;exact ne_int (zf I q (congrArg not qgs))
   | str j=>obtain⟨t',rfl⟩:=ry;exact PySem.EqMixed.ne_int_str (zf I q (by simp))
   | _=>exact absurd (show false=true from hs) Bool.false_ne_true
 | str i =>
   obtain⟨t,rfl⟩:=rx
   cases y with
   | non=>cases ry;exact PySem.EqNone.ne_str_none (zf I q (by simp))
   | bl j=>cases ry;exact PySem.EqMixed.ne_str_bool (zf I q (by simp))
   | int j=>obtain⟨t',rfl⟩:=ry;exact PySem.EqMixed.ne_str_int (zf I q (by simp))
   | str j=>obtain⟨t',rfl⟩:=ry;exact ne_str (zf I q (congrArg not qgr))
   | _=>exact absurd (show false=true from hs) Bool.false_ne_true
 | byt i =>
   obtain⟨t,rfl⟩:=rx
   cases y with
   | byt j=>obtain⟨t',rfl⟩:=ry;exact PySem.W.ne_bytes (zf I q (congrArg not qgt))
   | _=>exact absurd (show false=true from hs) Bool.false_ne_true
 | _=>cases y<;>exact absurd (show false=true from hs) Bool.false_ne_true
theorem qdx:OpR X (compareOp .Lt) (rI0 fun i j=>.bl (decide (i < j))):=qkV fun _ _ _ _ _ _ _ q=>lt_int q
theorem JM:OpR X (compareOp .LtE) (rI0 fun i j=>.bl (decide (i≤j))):=qkV fun _ _ _ _ _ _ _ q=>le_int q
theorem qaw:OpR X (compareOp .Gt) (rI0 fun i j=>.bl (decide (j < i))):=qkV fun _ _ _ _ _ _ _ q=>gt_int q
theorem qhf:OpR X (compareOp .GtE) (rI0 fun i j=>.bl (decide (j≤i))):=qkV fun _ _ _ _ _ _ _ q=>ge_int q
theorem OpR.or {f:Value->Value->Sem Value}{r r':R2} (h:OpR X f r) (h':OpR X f r'):OpR X f (fun x y H Q=>r x y H Q∨r' x y H Q):=by
 intro pins s σ H x y v u Q I rx ry q;rcases q with q|q
 · exact h pins s σ H x y v u Q I rx ry q
 · exact h' pins s σ H x y v u Q I rx ry q
theorem qC (b:Expr) {op:CmpOp} (h:op≠.In:=by decide) (h2:op≠.NotIn:=by decide):behindInMarks op b=false:=by
 have e1:(op == CmpOp.In)=false:=by cases op<;>first|rfl|exact absurd rfl h
 have e2:(op == CmpOp.NotIn)=false:=by cases op<;>first|rfl|exact absurd rfl h2
 cases b<;>simp[behindInMarks,e1,e2]
theorem Qo {op:CmpOp}{r:R2} (ho:OpR X (compareOp op) r) (ha:PE X a ta) (hb:PE X b tb) (hm:behindInMarks op b=false):PE X (.Compare a [op] [b] pos) (tOp r ta tb):=by
 intro pins s σ H Q I h;exact wpAny_Compare1 (qlz ha hb I h fun v u s2 x y H2 I2 rx ry q=>ho pins s2 σ H2 x y v u Q I2 rx ry q) hm
inductive qfm (Q:(Bool->Hp->Prop)) (x:V) (H':Hp):Prop
 | mk (k:_) (h1:x=.bl k) (h2:Q k H'):qfm Q x H'
def qjP (t:TE):TT:=fun σ H Q=>t σ H fun x H'=>qfm Q x H'
theorem qu {op:CmpOp}{r:R2} (ho:OpR X (compareOp op) r) (ha:PE X a ta) (hb:PE X b tb) (hm:behindInMarks op b=false):PT X (.Compare a [op] [b] pos) (qjP (tOp r ta tb)):=by
 intro pins s σ H Q I h
 refine wpAny_isTrue_Compare1 (thn (ha pins s σ H _ I h) fun v s1 ⟨x,H1,I1,r1,q1⟩=>thn (hb pins s1 σ H1 _ I1 q1) fun u s2 ⟨y,H2,I2,r2,q2⟩ =>
   thn (ho pins s2 σ H2 x y v u _ I2 r1 r2 q2) fun c s3 ⟨z,H3,I3,r3,k,e,q3⟩=>?_) hm
 subst e;cases r3;exact wpAny_truthy_bool ⟨H3,I3,q3⟩
def qhY (r r':R2) (ta tb tc:TE):TE:=fun σ H Q=>ta σ H fun x H1=>tb σ H1 fun y H2=>r x y H2 fun z H3=>∃ k,z=.bl k ∧
 (if k=true then tc σ H3 fun w' H4=>r' y w' H4 Q else Q (.bl false) H3)
theorem qek {op op':CmpOp}{r r':R2} (ho:OpR X (compareOp op) r) (ho':OpR X (compareOp op') r') (ha:PE X a ta) (hb:PE X b tb) (hc:PE X c tc)
   (hm:lastMarks [op,op'] [b,c]=false:=by with_unfolding_all rfl):PE X (.Compare a [op,op'] [b,c] pos) (qhY r r' ta tb tc):=by
 intro pins s σ H Q I h
 refine Compare_chain (thn (ha pins s σ H _ I h) fun v s1 ⟨x,H1,I1,r1,q1⟩=>chain_link (thn (hb pins s1 σ H1 _ I1 q1) fun u s2 ⟨y,H2,I2,r2,q2⟩ =>
   thn (ho pins s2 σ H2 x y v u _ I2 r1 r2 q2) fun d s3 ⟨z,H3,I3,r3,k,e,q3⟩=>?_)) hm
 subst e;cases r3;refine wpAny_truthy_bool ?_
 cases k with
 | false=>exact ite_ff ⟨.bl false,H3,I3,rfl,q3⟩
 | true=>exact ite_tt (chain_last (thn (hc pins s3 σ H3 _ I3 q3) fun w' s4 ⟨z',H4,I4,r4,q4⟩=>ho' pins s4 σ H4 y z' u w' Q I4 r2 r4 q4))
theorem qg6 {op op':CmpOp}{r r':R2} (ho:OpR X (compareOp op) r) (ho':OpR X (compareOp op') r') (ha:PE X a ta) (hb:PE X b tb) (hc:PE X c tc)
   (hm:lastMarks [op,op'] [b,c]=false:=by with_unfolding_all rfl):PT X (.Compare a [op,op'] [b,c] pos) (qjP (qhY r r' ta tb tc)):=by
 intro pins s σ H Q I h
 refine isTrue_chain (thn (ha pins s σ H _ I h) fun v s1 ⟨x,H1,I1,r1,q1⟩=>test_link (thn (hb pins s1 σ H1 _ I1 q1) fun u s2 ⟨y,H2,I2,r2,q2⟩ =>
   thn (ho pins s2 σ H2 x y v u _ I2 r1 r2 q2) fun d s3 ⟨z,H3,I3,r3,k,e,q3⟩=>?_)) hm
 subst e;cases r3;refine wpAny_truthy_bool ?_
 cases k with
 | false =>
   obtain⟨k',e',q'⟩:=q3;cases e';exact ite_ff ⟨H3,I3,q'⟩
 | true =>
   refine ite_tt (test_last (thn (hc pins s3 σ H3 _ I3 q3) fun w' s4 ⟨z',H4,I4,r4,q4⟩=>thn (ho' pins s4 σ H4 y z' u w' _ I4 r2 r4 q4) fun d' s5 zz_=>?_));obtain⟨z2,H5,I5,r5,k2,e2,q5⟩:=zz_;subst e2;cases r5;exact wpAny_truthy_bool ⟨H5,I5,q5⟩
def qlR (K:Frag) (x:V) (H:Hp) (k:Bool):Prop :=
 match x with
 | .non=>k=false
 | .bl b=>k=b
 | .int i=>k=(i != 0)
 | .str y=>y.length≤sizeLine∧k=((y.length:Int) != 0)
 | .byt y=>y.size≤sizeLine∧k=((y.size:Int) != 0)
 | .ref p=>(∃ xs,SqL K H p xs∧k=!xs.isEmpty)∨(∃ xs,SqT K H p xs∧k=!xs.isEmpty)∨∃ kvs,H p=some (.dK kvs)∧k=!kvs.isEmpty
 | _=>False
theorem qeV {κ:Type}{kvs:List (κ×V)}{vs:List (κ×Value)} (r:KV kvs vs):(!vs.isEmpty)=!kvs.isEmpty:=by
 cases r<;>rfl
theorem qbB {xs:List V}{its:List Value} (r:Vals xs its):(!its.toArray.isEmpty)=!xs.isEmpty:=by
 cases r<;>simp
theorem qbA:(sizeLine:Nat) < 2 ^ 63:=by rw[sizeLine_eq];decide
theorem qjM:qms X (fun x H Q=>∃ k,qlR X.K x H k∧Q k H):=by
 intro pins s σ H x v Q I rx h;obtain⟨k,e,q⟩:=h;have hl:=qbA;have hs:sizeLine=16777216:=sizeLine_eq
 cases x with
 | non =>
   cases rx;have e':k=false:=e;subst e';exact truthy_none ⟨H,I,q⟩
 | bl b =>
   cases rx;have e':k=b:=e;subst e';exact wpAny_truthy_bool ⟨H,I,q⟩
 | int i =>
   obtain⟨t,rfl⟩:=rx;have e':k=(i != 0):=e;subst e';exact PySem.P.truthy_int ⟨H,I,q⟩
 | str y =>
   obtain⟨t,rfl⟩:=rx;obtain⟨hy,e'⟩:y.length≤sizeLine∧k=((y.length:Int) != 0):=e;subst e';exact PySem.P.truthy_str (by omega) ⟨H,I.tok _,q⟩
 | byt y =>
   obtain⟨t,rfl⟩:=rx;obtain⟨hy,e'⟩:y.size≤sizeLine∧k=((y.size:Int) != 0):=e;subst e';exact PySem.W.truthy_bytes (by omega) ⟨H,I.tok _,q⟩
 | ref p =>
   cases rx;have e':(∃ xs,SqL X.K H p xs∧k=!xs.isEmpty)∨(∃ xs,SqT X.K H p xs∧k=!xs.isEmpty)∨∃ kvs,H p=some (.dK kvs)∧k=!kvs.isEmpty:=e;rcases e' with ⟨xs,hx,e'⟩|⟨xs,hx,e'⟩|⟨kvs,hx,e'⟩
   · subst e';obtain⟨its,r,pl,hz⟩:=I.list hx;have hlen:=r.length;exact wpAny_truthy_list pl.isList (by simp only[List.size_toArray];omega) ⟨H,I.tok _,by rw[qbB r];exact q⟩
   · subst e';obtain⟨its,r,pl,hz⟩:=I.tuple hx;have hlen:=r.length;exact truthy_tuple pl (by simp only[List.size_toArray];omega) ⟨H,I.tok _,by rw[qbB r];exact q⟩
   · subst e';obtain⟨hz,hS,vs,r,m⟩:kvs.length≤sizeLine∧(p == sysModules)=false∧∃ vs,KV kvs vs∧s.heap.DictOf (zF X.prog X.w) p vs:=I.hok p _ hx;have hlen:kvs.length=vs.length:=Paired.length r;exact wpAny_truthy_dict hS m (by omega) ⟨H,I.tok _,by rw[qeV r];exact q⟩
 | _=>exact(show False from e).elim
theorem qej (ha:PE X a ta) (he:∀ whole,isTrue a X.env whole=(do let v ← whole;standAt a.pos;holding [v] (truthy v))) :
   PT X a (fun σ H Q=>ta σ H fun x H'=>∃ k,qlR X.K x H' k∧Q k H'):=by
 intro pins s σ H Q I h;exact isTrue_plain (thn (ha pins s σ H _ I h) fun v s1 ⟨x,H1,I1,r1,q1⟩=>qjM pins s1 σ H1 x v Q I1 r1 q1) (he _)
theorem qeL:OpR X (binaryOp .Add) (fun x y H Q=>∃ i j,x=.str i∧y=.str j∧i.length+j.length≤sizeLine∧Q (.str (i++j)) H):=by
 intro pins s σ H x y v u Q I rx ry h;obtain⟨i,j,rfl,rfl,hz,q⟩:=h;obtain⟨t,rfl⟩:=rx;obtain⟨t',rfl⟩:=ry;exact add_str (fun t' tk=>⟨.str (i++j),H,I.tok _,⟨_,rfl⟩,q⟩) hz
theorem JH {x:V}{us:List Value} (r:Vals [x] us):∃ u,us=[u]∧RelV x u:=by
 cases r with
 | cons r1 r2=>cases r2;exact⟨_,rfl,r1⟩
theorem qeG {x y:V}{us:List Value} (r:Vals [x,y] us):∃ u w',us=[u,w']∧RelV x u∧RelV y w':=by
 cases r with
 | cons r1 r2 =>
   cases r2 with
   | cons r3 r4=>cases r4;exact⟨_,_,rfl,r1,r3⟩
theorem qhP:CallR X (.builtin "abs") (fun xs H Q=>∃ i,xs=[.int i]∧Q (.int (if i < 0 then -i else i)) H):=by
 intro pins s σ H xs us Q I r h;obtain⟨i,rfl,q⟩:=h;obtain⟨u,rfl,t,rfl⟩:=JH r;exact call_abs_int fun u tk=>⟨.int (if i < 0 then -i else i),H,I.tok _,⟨_,rfl⟩,q⟩
theorem Qt (hc:X.calm=true):CallR X (.builtin "max") (fun xs H Q=>∃ i j,xs=[.int i,.int j]∧Q (.int (if j > i then j else i)) H):=by
 intro pins s σ H xs us Q I r h;obtain⟨i,j,rfl,q⟩:=h;obtain⟨u,w',rfl,⟨t,rfl⟩,⟨t',rfl⟩⟩:=qeG r;refine max_two_ints (I.ok.hd hc) fun h' tk k=>⟨_,H,I.kept k,?_,q⟩
 by_cases hj:j > i
 · rw[if_pos hj,if_pos hj];exact⟨_,rfl⟩
 · rw[if_neg hj,if_neg hj];exact⟨_,rfl⟩
theorem ZK (hc:X.calm=true):CallR X (.builtin "min") (fun xs H Q=>∃ i j,xs=[.int i,.int j]∧Q (.int (if j < i then j else i)) H):=by
 intro pins s σ H xs us Q I r h;obtain⟨i,j,rfl,q⟩:=h;obtain⟨u,w',rfl,⟨t,rfl⟩,⟨t',rfl⟩⟩:=qeG r;refine min_two_ints (I.ok.hd hc) fun h' tk k=>⟨_,H,I.kept k,?_,q⟩
 by_cases hj:j < i
 · rw[if_pos hj,if_pos hj];exact⟨_,rfl⟩
 · rw[if_neg hj,if_neg hj];exact⟨_,rfl⟩
theorem qdc:CallR X (.type "int") (fun xs H Q=>(∃ i,xs=[.int i]∧Q (.int i) H)∨∃ k,xs=[.bl k]∧Q (.int (if k then 1 else 0)) H):=by
 intro pins s σ H xs us Q I r h;rcases h with ⟨i,rfl,q⟩|⟨k,rfl,q⟩
 · obtain⟨u,rfl,t,rfl⟩:=JH r;exact call_int_int ⟨.int i,H,I,⟨_,rfl⟩,q⟩
 · obtain⟨u,rfl,r1⟩:=JH r;cases r1;exact call_int_bool ⟨.int (if k then 1 else 0),H,I.tok _,⟨_,rfl⟩,q⟩
def qlY (K:Frag) (x:V) (H:Hp) (n:Nat):Prop :=
 match x with
 | .str y=>y.length≤sizeLine∧n=y.length
 | .byt y=>y.size≤sizeLine∧n=y.size
 | .ref p=>(∃ xs,SqL K H p xs∧n=xs.length)∨∃ xs,SqT K H p xs∧n=xs.length
 | _=>False
theorem qK:CallR X (.builtin "len") (fun xs H Q=>∃ x n,xs=[x]∧qlY X.K x H n∧Q (.int n) H):=by
 intro pins s σ H xs us Q I r h;obtain⟨x,n,rfl,e,q⟩:=h;obtain⟨u,rfl,rx⟩:=JH r;have hl:=qbA;have hs:sizeLine=16777216:=sizeLine_eq
 cases x with
 | str y =>
   obtain⟨t,rfl⟩:=rx;obtain⟨hy,e'⟩:y.length≤sizeLine∧n=y.length:=e;subst e';exact len_str (by omega) ⟨.int _,H,I.tok _,⟨_,rfl⟩,q⟩
 | byt y =>
   obtain⟨t,rfl⟩:=rx;obtain⟨hy,e'⟩:y.size≤sizeLine∧n=y.size:=e;subst e';exact PySem.W.len_bytes (by omega) ⟨.int _,H,I.tok _,⟨_,rfl⟩,q⟩
 | ref p =>
   cases rx;have e':(∃ xs,SqL X.K H p xs∧n=xs.length)∨∃ xs,SqT X.K H p xs∧n=xs.length:=e;rcases e' with ⟨xs,hx,e'⟩|⟨xs,hx,e'⟩
   · subst e';obtain⟨its,r',pl,hz⟩:=I.list hx;have hlen:=r'.length;exact Calls.call_len_list pl.isList (by simp only[List.size_toArray];omega) ⟨.int xs.length,H,I.tok _,⟨_,by simp only[List.size_toArray];rw[hlen]⟩,q⟩
   · subst e';obtain⟨its,r',pl,hz⟩:=I.tuple hx;have hlen:=r'.length;exact len_tuple pl (by simp only[List.size_toArray];omega) ⟨.int xs.length,H,I.tok _,⟨_,by simp only[List.size_toArray];rw[hlen]⟩,q⟩
 | _=>exact(show False from e).elim
end
structure ObjM (h:Heap) (x dx C:Addr) (mA:Str->Option Value):Prop where
 obj:h.get? x=some (instObj C dx)
 ns:h.Ns1 dx mA
 ne:dx≠x
theorem qf6 {h:Heap}{dx:Addr}{mA:Str->Option Value} (n:h.Ns1 dx mA):∃ od,h.get? dx=some od∧∀ name,lookIn name od=some (mA name):=by
 obtain⟨o,es,ep,ho,hd,hk,_,hm⟩:=n;refine⟨o,ho,fun name=>?_⟩;have e:=hm name;unfold nsFind findBy at e;rw[← Array.find?_toList]at e;unfold lookIn;rw[hd];dsimp only;split
 · rename_i y q
   rw[q]at e;exact congrArg some e
 · rename_i q
   rw[q]at e
   have a:es.toList.any (·.refKey)=false:=by
     rw[List.any_eq_false];intro y hy;obtain⟨z,t,hkey⟩:=hk y (Array.mem_toList_iff.mp hy);simp[DictEntry.refKey,hkey]
   have a':¬ es.toList.any (·.refKey)=true:=by rw[a];exact Bool.false_ne_true
   rw[if_neg a'];exact congrArg some e
theorem ObjM.look {h:Heap}{x dx C:Addr}{mA:Str->Option Value} (I:ObjM h x dx C mA):∃ od,PySem.W.InstAt h x (instObj C dx) C (some od)∧∀ name,lookIn name od=some (mA name) :=
 let ⟨od,ho,hl⟩:=qf6 I.ns
 ⟨od,⟨I.obj,rfl,rfl,ho⟩,hl⟩
section
variable {prog:Program}{w:World}{A:Around}{E:Value->Shared->Prop}{s:Shared}{K:Frag}{x dx C f:Addr}{mA:Str->Option Value}{name:Str}{v:Value}
theorem qjp {expr:Bool}{Q:Value->Shared->Prop} (X:K.In s.heap) (I:ObjM s.heap x dx C mA) (hg:plainGet K C name=true) (hh:hasDictIn K C=true)
   (ha:findIn K (.ref C) name=some none) (hv:mA name=some v) (hv':handedIn v=true) (h:Q v { s with toks:=s.toks+1 }) :
   wpAny (model prog w) A (getAttr (.ref x) name expr) Q E s:=by
 obtain⟨od,J,hl⟩:=I.look;exact PySem.W.get_value X J (plainGet_of hg).1 (PySem.W.findObj_own hh ha rfl (by rw[hl,hv])) hv' h
theorem qhB {pl:Sem Bool}{Q:Value×List Value->Shared->Prop} (X:K.In s.heap) (I:ObjM s.heap x dx C mA) (hg:plainGet K C name=true)
   (hf:findIn K (.ref C) name=some (some (.ref f))) (ht:isFn K (.ref f)=true) (hv:mA name=none) (h:Q (.ref f,[.ref x]) s) :
   wpAny (model prog w) A (getMethod (.ref x) name pl) Q E s:=by
 obtain⟨od,J,hl⟩:=I.look;exact PySem.W.method_fn X J (plainGet_of hg).1 (plainGet_of hg).2 hf (beq_iff_eq.mp ht) (by show (lookIn name od).map (·.isSome)=some false;rw[hl,hv];rfl) h
theorem qiW {ns:List Str}{Q:Unit->Shared->Prop} (X:K.In s.heap) (I:ObjM s.heap x dx C mA)
   (hs:findIn K (.ref C) "__setattr__"=some (some (.builtin "object.__setattr__"))) (hp:plainOver K C=true) (ht:takerIn K C name=some none) (hh:hasDictIn K C=true)
   (hw:PySem.Within mA ns) (hsz:ns.length≤sizeLine)
   (h:∀ h',ObjM h' x dx C (fun y=>if y=name then some v else mA y)->Heap.SameBut dx s.heap h'->Q () { s with heap:=h',toks:=s.toks+2 }) :
   wpAny (model prog w) A (setAttr (.ref x) name v) Q E s:=by
 obtain⟨od,J,hl⟩:=I.look;refine PySem.W.set_plain X J hs (PySem.W.osa_open (s:={ s with toks:=s.toks+1 }) (r:=none) X J hp ht fun b=>?_);obtain⟨cd,hc,hd'⟩:=PySem.W.any_some hh;have hx:s.heap.get? x=some ⟨.ref C,some dx,.plain,#[]⟩:=I.obj;refine wpAny_bind (wpAny_pure (wpAny_bind (wpAny_bind (wpAny_loadPart hx (wpAny_bind (PySem.W.Looks.here (s:={ s with toks:=s.toks+1 }) (PySem.W.looks_clsIn X hc) ?_))))));rw[hd'];refine wpAny_pure (a:=some dx) (wpAny_bind (wpAny_pure (wpAny_bind ?_)));refine wpAny_nsSet1 (s:={ s with toks:=s.toks+1 }) I.ns fun h' hn2 hs2=>?_;obtain⟨oD,esD,epD,hoD,hdD,hcD⟩:=hn2.count (PySem.Within.cons name v hw);refine wpAny_bind (wpAny_lookBehind hoD (by rw[hdD];exact pastItsLine_dict (Nat.le_trans hcD (by rw[List.length_cons];omega))) ?_);exact wpAny_pure (h _ ⟨(hs2.2 _ (Ne.symm I.ne)).trans I.obj,hn2,I.ne⟩ hs2)
theorem qhq {R:Result->Shared->Prop}{vs:List Value}{kw:List (Str×Value)} (X:K.In s.heap) (hm:makesIn K C=true)
   (hi:findIn K (.ref C) "__init__"=some (some (.ref f))) (hf:PySem.W.typeIn K (.ref f)=some (.type "function"))
   (h:codeAny (model prog w) (A.under (.builtin "type.__call__" ⟨.ref C::vs,kw⟩)) (.call (.ref f) ⟨.ref (s.heap.objs.size+1)::vs,kw⟩) (PySem.W.InitBack (s.heap.objs.size+1) R)
     { s with heap:=(s.heap.push emptyDict).push (instObj C s.heap.objs.size) }) :
   codeAny (model prog w) A (.call (.ref C) ⟨vs,kw⟩) R s:=by
 obtain⟨hh,g,d,t,os⟩:=s;exact PySem.W.make_core (PySem.W.makes_of X hm) (PySem.W.looks_findIn X hi) (fun self=>PySem.W.bind_fn X self hf) (.inl rfl) h
end
def qbu (f:Str) (v:V):List (Str×V)->List (Str×V)
 | []=>[(f,v)]
 | (g,x)::r=>if g=f then (g,v)::r else (g,x)::qbu f v r
theorem zy (f g:Str) (v:V):∀ fs:List (Str×V),(qbu f v fs).lookup g=if g=f then some v else fs.lookup g
 | []=>by
   show List.lookup g [(f,v)]=_;by_cases h:g=f
   · have hb:(g == f)=true:=beq_iff_eq.mpr h;simp only[List.lookup,hb,if_pos h]
   · have hb:(g == f)=false:=beq_eq_false_iff_ne.mpr h;simp only[List.lookup,hb,if_neg h]
 | (k,x)::r=>by
   have ih:=zy f g v r;rw[show qbu f v ((k,x)::r)=(if k=f then (k,v)::r else (k,x)::qbu f v r) from rfl];by_cases hk:k=f
   · rw[if_pos hk];by_cases h:g=k
     · have hb:(g == k)=true:=beq_iff_eq.mpr h;simp only[List.lookup,hb,if_pos (h.trans hk)]
     · have hb:(g == k)=false:=beq_eq_false_iff_ne.mpr h;simp only[List.lookup,hb,if_neg (fun e:g=f=>h (e.trans hk.symm))]
   · rw[if_neg hk];by_cases h:g=k
     · have hb:(g == k)=true:=beq_iff_eq.mpr h;simp only[List.lookup,hb,if_neg (fun e:g=f=>hk (h.symm.trans e))]
     · have hb:(g == k)=false:=beq_eq_false_iff_ne.mpr h;simp only[List.lookup,hb];exact ih
theorem qaL (f:Str) (v:V):∀ fs:List (Str×V),f∈(qbu f v fs).map (·.1)∧∀ g,g∈fs.map (·.1)->g∈(qbu f v fs).map (·.1)
 | []=>⟨by simp[qbu],fun g h=>by simp at h⟩
 | (k,x)::r=>by
   obtain⟨i1,i2⟩:=qaL f v r;rw[show qbu f v ((k,x)::r)=(if k=f then (k,v)::r else (k,x)::qbu f v r) from rfl];by_cases hk:k=f
   · rw[if_pos hk];subst hk;exact⟨by simp,fun g h=>by simpa using h⟩
   · rw[if_neg hk];refine⟨?_,fun g h=>?_⟩
     · rw[List.map_cons];exact List.mem_cons_of_mem _ i1
     · rw[List.map_cons]at h ⊢;rcases List.mem_cons.mp h with e|e
       · exact List.mem_cons.mpr (.inl e)
       · exact List.mem_cons_of_mem _ (i2 g e)
theorem qaG (f:Str) (v:V):∀ fs:List (Str×V),(qbu f v fs).length≤fs.length+1
 | []=>by simp[qbu]
 | (k,x)::r=>by
   have ih:=qaG f v r;rw[show qbu f v ((k,x)::r)=(if k=f then (k,v)::r else (k,x)::qbu f v r) from rfl];by_cases hk:k=f
   · rw[if_pos hk,List.length_cons,List.length_cons];omega
   · rw[if_neg hk,List.length_cons,List.length_cons];omega
theorem RelO.some_of {v:V}{o:Option Value} (r:RelO (some v) o):∃ u,o=some u∧RelV v u:=by
 cases o with
 | none=>exact(show False from r).elim
 | some u=>exact⟨u,rfl,r⟩
theorem RelO.none_of {o:Option Value} (r:RelO none o):o=none:=by
 cases o with
 | none=>rfl
 | some u=>exact(show False from r).elim
theorem qgi {v:V}{u:Value} (r:RelV v u):handedIn u=true:=by
 cases v with
 | non=>cases (show u=Value.none from r);rfl
 | bl b=>cases (show u=Value.bool b from r);rfl
 | int i=>obtain⟨t,e⟩:=(show ∃ t,u=Value.int i t from r);cases e;rfl
 | str x=>obtain⟨t,e⟩:=(show ∃ t,u=Value.str x t from r);cases e;rfl
 | byt b=>obtain⟨t,e⟩:=(show ∃ t,u=Value.bytes b t from r);cases e;rfl
 | flt b=>obtain⟨t,e⟩:=(show ∃ t,u=Value.float b t from r);cases e;rfl
 | ref a=>cases (show u=Value.ref a from r);rfl
 | ty n=>cases (show u=Value.type n from r);rfl
section
variable {P:Program}{w:World}{H H':Hp}{h h':Heap}{a C dx:Addr}{fs fs':List (Str×V)}
theorem qb7 (hok:HOk P w H h) (e:H a=some (.ins C dx fs)):∃ mA,ObjM h a dx C mA∧(∀ f,RelO (fs.lookup f) (mA f))∧PySem.Within mA (fs.map (·.1))∧fs.length≤1000∧H dx=some (.own a):=by
 obtain⟨d,z,ne,ob,mA,n,r,q⟩:=(show ObjOk P w H h a (.ins C dx fs) from hok a _ e)
 exact⟨mA,⟨ob,n,ne⟩,r,q,z,d⟩
end
structure Cls (K:Frag) (C:Addr):Prop where
 pg:plainGet K C Str.empty=true
 hd:hasDictIn K C=true
 po:plainOver K C=true
 sa:findIn K (.ref C) "__setattr__"=some (some (.builtin "object.__setattr__"))
theorem Cls.get {K:Frag}{C:Addr} (c:Cls K C) (f:Str):plainGet K C f=true:=c.pg
def NoAttr (K:Frag) (C:Addr) (f:Str):Prop:=findIn K (.ref C) f=some none
theorem NoAttr.taker {K:Frag}{C:Addr}{f:Str} (n:NoAttr K C f):takerIn K C f=some none:=by
 unfold takerIn;rw[show findIn K (.ref C) f=some none from n];rfl
structure qgP (K:Frag) (C:Addr) (m:Str) (f:Addr):Prop where
 at_:findIn K (.ref C) m=some (some (.ref f))
 fn:isFn K (.ref f)=true
 kp:keepIn K (.ref f)=true
section
variable {X:Cx}{pins:List (Addr×Obj)}{σ:St}{H:Hp}{s:Shared}{a C dx:Addr}{fs:List (Str×V)}{f:Str}{v:V}{A:Around}{E:Value->Shared->Prop}
theorem qeW {b:Bool}{Q:Value->Shared->Prop} (I:Inv X pins σ H s) (e:H a=some (.ins C dx fs)) (c:Cls X.K C) (n:NoAttr X.K C f) (l:fs.lookup f=some v)
   (h:∀ u s',Inv X pins σ H s'->RelV v u->Q u s'):wpAny (model X.prog X.w) A (getAttr (.ref a) f b) Q E s:=by
 obtain⟨mA,O,r,_,_,_⟩:=qb7 I.hok e;obtain⟨u,hu,ru⟩:=RelO.some_of (v:=v) (o:=mA f) (by rw[← l];exact r f);exact qjp I.kIn O (c.get f) c.hd n hu (qgi ru) (h u _ (I.tok _) ru)
theorem qbC {m:Str}{g:Addr}{pl:Sem Bool}{Q:Value×List Value->Shared->Prop} (I:Inv X pins σ H s) (e:H a=some (.ins C dx fs)) (c:Cls X.K C) (k:qgP X.K C m g) (l:fs.lookup m=none)
   (h:Q (.ref g,[.ref a]) s):wpAny (model X.prog X.w) A (getMethod (.ref a) m pl) Q E s:=by
 obtain⟨mA,O,r,_,_,_⟩:=qb7 I.hok e;have hn:mA m=none:=RelO.none_of (by rw[← l];exact r m);exact qhB I.kIn O (c.get m) k.at_ k.fn hn h
theorem qeI {y:V}{u:Value}{Q:Unit->Shared->Prop} (I:Inv X pins σ H s) (e:H a=some (.ins C dx fs)) (c:Cls X.K C) (n:NoAttr X.K C f) (hl:fs.length < 1000) (ry:RelV y u)
   (h:∀ s',Inv X pins σ (upd H a (.ins C dx (qbu f y fs))) s'->Q () s'):wpAny (model X.prog X.w) A (setAttr (.ref a) f u) Q E s:=by
 obtain⟨mA,O,r,wi,_,ho⟩:=qb7 I.hok e;have hz:(fs.map (·.1)).length≤sizeLine:=by rw[List.length_map,sizeLine_eq];omega
 refine qiW I.kIn O c.sa c.po n.taker c.hd wi hz fun h' O' sb=>h _ ?_;have hd:∃ o,h'.get? dx=some o:=let ⟨o,_,_,e',_⟩:=O'.ns;⟨o,e'⟩;refine I.write (x:=a) (e:=dx) (by rw[e];exact True.intro) (.inr ho) (fun b q hb z=>(sb.2 b hb).trans z) hd ?_;refine⟨by rw[qh O.ne];exact ho,?_,O.ne,O'.obj,_,O'.ns,fun g=>?_,fun g hg=>?_⟩
 · have:=qaG f y fs;omega
 · show RelO ((qbu f y fs).lookup g) (if g=f then some u else mA g);rw[zy];by_cases q:g=f
   · rw[if_pos q,if_pos q];exact ry
   · rw[if_neg q,if_neg q];exact r g
 · by_cases q:g=f
   · rw[q];exact(qaL f y fs).1
   · refine(qaL f y fs).2 g (wi g fun z=>hg ?_);show (if g=f then some u else mA g)=none;rw[if_neg q];exact z
theorem Inv.made (I:Inv X pins σ H s):Inv X pins σ (upd (upd H s.heap.objs.size (.own (s.heap.objs.size+1))) (s.heap.objs.size+1) (.ins C s.heap.objs.size []))
   { s with heap:=(s.heap.push emptyDict).push (instObj C s.heap.objs.size) }:=by
 have e1:(s.heap.push emptyDict).get? s.heap.objs.size=some emptyDict:=Heap.get?_push_size s.heap rfl
 have e2:((s.heap.push emptyDict).push (instObj C s.heap.objs.size)).get? (s.heap.objs.size+1)=some (instObj C s.heap.objs.size):=by
   have:=Heap.get?_push_size (s.heap.push emptyDict) (o:=instObj C s.heap.objs.size) rfl
   rwa [Heap.size_push]at this
 have e3:(s.heap.push emptyDict).Ns s.heap.objs.size (fun _=>none):=⟨emptyDict,#[],_,e1,rfl,(fun e he=>absurd he (by simp)),fun _=>rfl⟩
 have I1:=I.laid (a:=s.heap.objs.size) (o:=.own (s.heap.objs.size+1)) (h':=s.heap.push emptyDict) (t':=s.toks) (fun b u q=>Heap.get?_push_of_some _ q) (Nat.le_refl _) ⟨_,e1⟩;refine I1.laid (a:=s.heap.objs.size+1) (o:=.ins C s.heap.objs.size []) (t':=s.toks) (fun b u q=>Heap.get?_push_of_some _ q) (Nat.le_of_eq (Heap.size_push _ _)) ?_;have ne:s.heap.objs.size≠s.heap.objs.size+1:=Nat.ne_of_lt (Nat.lt_succ_self _);refine⟨by rw[qh ne,qc],Nat.zero_le _,ne,e2,fun _=>none,(Heap.Ns1.of_empty e3).at fun o q=>Heap.get?_push_of_some _ q,fun _=>True.intro,fun y hy=>absurd rfl hy⟩
theorem qjw {prog:Program}{w:World}{env:Env}{e:Expr}{f:Str}{pos:Pos}{s:Shared}{Q:Value->Shared->Prop} (hb:attributeBase e f env (eval e env)=eval e env)
   (h:wpAny (model prog w) A (eval e env) (fun o s₁=>wpAny (model prog w) A (getAttr o f true) Q E s₁) E s):wpAny (model prog w) A (eval (.Attribute e f pos) env) Q E s :=
 Attribute_any_ h (by rw[arm_eval_Attribute,hb])
end
inductive qhX (K:Frag) (f:Str) (Q:VK) (x:V) (H1:Hp):Prop
 | mk (a C dx fs v:_) (h1:x=.ref a) (h2:H1 a=some (.ins C dx fs)) (h3:Cls K C) (h4:NoAttr K C f) (h5:fs.lookup f=some v) (h6:Q v H1):qhX K f Q x H1
def ql7 (K:Frag) (ta:TE) (f:Str):TE:=fun σ H Q=>ta σ H fun x H1=>qhX K f Q x H1
def qma (K:Frag) (ta tv:TE) (f:Str):TS:=fun D σ H=>tv σ H fun y H1=>ta σ H1 fun x H2=>∃ a C dx fs,x=.ref a∧H2 a=some (.ins C dx fs)∧Cls K C∧NoAttr K C f∧fs.length < 1000 ∧
 D.nx σ (upd H2 a (.ins C dx (qbu f y fs)))
section
variable {X:Cx}{o e value:Expr}{f:Str}{pos pos' tpos:Pos}{ta tv:TE}
theorem qN (he:PE X e ta) (hb:attributeBase e f X.env (eval e X.env)=eval e X.env):PE X (.Attribute e f pos) (ql7 X.K ta f):=by
 intro pins s σ H Q I h;refine qjw hb (thn (he pins s σ H _ I h) fun u s1 zz_=>?_);obtain⟨x,H1,I1,rx,a,C,dx,fs,v,ex,ea,c,n,l,q⟩:=zz_;subst ex;obtain rfl:u=Value.ref a:=rx;exact qeW I1 ea c n l fun u' s2 I2 ru=>⟨v,H1,I2,ru,q⟩
theorem Qe (ha:PE X o ta) (hv:PE X value tv) (hs:swapsWith value (some (.Attribute o f pos')) pos.line X.env=pure false):PS X (.Assign [.Attribute o f pos'] value pos) (qma X.K ta tv f):=by
 intro pins s σ H D I h;refine plainObj_wpAny_Assign_Attribute (thn (hv pins s σ H _ I h) fun u s1 ⟨y,H1,I1,ry,q⟩=>thn (ha pins s1 σ H1 _ I1 q) fun ov s2 zz_=>?_) hs;obtain⟨x,H2,I2,rx,a,C,dx,fs,ex,ea,c,n,l,q2⟩:=zz_;subst ex;obtain rfl:ov=Value.ref a:=rx;exact qeI I2 ea c n l ry fun s3 I3=>⟨σ,_,I3,q2⟩
end
section
variable {X:Cx}{pins:List (Addr×Obj)}{σ:St}{H:Hp}{s:Shared}{A:Around}{E:Value->Shared->Prop}{Q:Value->Shared->Prop}{c:Value}{b:Bool}
inductive qdm (K:Frag) (H:Hp):V->Value->Prop where
 | non:qdm K H .non (.type "NoneType")
 | bl (x:Bool):qdm K H (.bl x) (.type "bool")
 | int (i:Int):qdm K H (.int i) (.type "int")
 | str (x:Str):qdm K H (.str x) (.type "str")
 | flt (x:UInt64):qdm K H (.flt x) (.type "float")
 | lst {a:Addr}{xs:List V} (e:H a=some (.lst xs)):qdm K H (.ref a) (.type "list")
 | frz {a:Addr}{o:Obj}{xs:List V} (e:H a=some (.frz o (.lst xs))):qdm K H (.ref a) (.type "list")
 | tup {a:Addr}{xs:List V} (e:H a=some (.tup xs)):qdm K H (.ref a) (.type "tuple")
 | dK {a:Addr}{kvs:List (Key×V)} (e:H a=some (.dK kvs)):qdm K H (.ref a) (.type "dict")
 | dT {a:Addr}{kvs:List (List Key×V)} (e:H a=some (.dT kvs)):qdm K H (.ref a) (.type "dict")
 | ins {a C dx:Addr}{fs:List (Str×V)} (e:H a=some (.ins C dx fs)) (cl:Cls K C) (ha:findIn K (.ref C) "__class__"=some (some (.builtin "object.__class__")))
     (hn:PySem.W.specialIn K (.builtin "object.__class__") "__get__"=some (some (.builtin "getset_descriptor.__get__"))) (htk:PySem.W.takesIn K (.builtin "object.__class__")=some true)
     (hm:PySem.W.mroIn K C (.type "object")=some true):qdm K H (.ref a) (.ref C)
theorem qc3 {x:V}{u t:Value} (I:Inv X pins σ H s) (rx:RelV x u) (ty:qdm X.K H x t) (e:PySem.W.kitOne X.K t c=some b) (h:∀ tk,Q (.bool b) { s with toks:=tk }) :
   wpAny (model X.prog X.w) A (call (.builtin "isinstance") [u,c]) Q E s:=by
 cases ty with
 | non=>cases (show u=Value.none from rx);exact kia_one PySem.W.kitx_none I.kIn True.intro e (fun z=>nomatch z) h
 | bl y=>cases (show u=Value.bool y from rx);exact kia_one PySem.W.kitx_bool I.kIn True.intro e (fun z=>nomatch z) h
 | int i=>obtain⟨t,q⟩:=(show ∃ t,u=Value.int i t from rx);cases q;exact kia_one PySem.W.kitx_int I.kIn True.intro e (fun z=>nomatch z) h
 | str y=>obtain⟨t,q⟩:=(show ∃ t,u=Value.str y t from rx);cases q;exact kia_one PySem.W.kitx_str I.kIn True.intro e (fun z=>nomatch z) h
 | flt y=>obtain⟨t,q⟩:=(show ∃ t,u=Value.float y t from rx);cases q;exact kia_one PySem.W.kitx_float I.kIn True.intro e (fun z=>nomatch z) h
 | @lst a xs ea =>
   cases (show u=Value.ref a from rx);obtain⟨_,_,n,_,h1⟩:=(show ObjOk X.prog X.w H s.heap a (.lst xs) from I.hok a _ ea)
   exact kia_one kitx_list I.kIn ⟨_,h1,rfl⟩ e (fun z=>nomatch z) h
 | @frz a ob xs ea =>
   cases (show u=Value.ref a from rx);obtain⟨_,_,_,n,_,h1⟩:=(show ObjOk X.prog X.w H s.heap a (.frz ob (.lst xs)) from I.hok a _ ea)
   exact kia_one kitx_list I.kIn ⟨_,h1,rfl⟩ e (fun z=>nomatch z) h
 | @tup a xs ea =>
   cases (show u=Value.ref a from rx);obtain⟨_,_,_,p⟩:=(show ObjOk X.prog X.w H s.heap a (.tup xs) from I.hok a _ ea)
   obtain⟨o,h1,h2,_⟩:=p;exact kia_one PySem.W.kitx_tuple I.kIn ⟨o,h1,h2⟩ e (fun z=>nomatch z) h
 | @dK a kvs ea =>
   cases (show u=Value.ref a from rx);obtain⟨_,_,vs,_,p⟩:=(show ObjOk X.prog X.w H s.heap a (.dK kvs) from I.hok a _ ea)
   obtain⟨o,es,ep,h1,h2,_⟩:=p;exact kia_one kitx_dict I.kIn ⟨o,h1,h2.1⟩ e (fun z=>nomatch z) h
 | @dT a kvs ea =>
   cases (show u=Value.ref a from rx);obtain⟨_,_,xs,_,o,es,ep,h1,h2,_⟩:=(show ObjOk X.prog X.w H s.heap a (.dT kvs) from I.hok a _ ea)
   exact kia_one kitx_dict I.kIn ⟨o,h1,h2.1⟩ e (fun z=>nomatch z) h
 | @ins a C dx fs ea cl ha hn htk hm =>
   cases (show u=Value.ref a from rx);obtain⟨mA,O,_⟩:=qb7 I.hok ea;obtain⟨od,J,_⟩:=O.look;exact kia_one (PySem.W.kitx_own (cl.get _) cl.hd ha hn htk hm) I.kIn J e (fun z=>nomatch z) h
end
structure Room (k:Nat) (A:Around):Prop where
 hd:A.handled=none
 dp:A.depth+3 * k+5 < recursionLimit
 un:A.units+16 * k+200 < cLine
 gd:A.guards=some []
theorem Room.mono {j k:Nat}{A:Around} (r:Room k A) (h:j≤k):Room j A:=⟨r.hd,by have:=r.dp;omega,by have:=r.un;omega,r.gd⟩
theorem Room.deeper {k:Nat}{A:Around} (r:Room (k+1) A) (env:Env):Room k (A.deeper env) :=
 ⟨r.hd,by have:=r.dp;show A.depth+1+3 * k+5 < _;omega,by have:=r.un;show A.units+3+16 * k+200 < _;omega,r.gd⟩
theorem qeQ {A:Around}{C:Addr}{us:List Value}{kw:List (Str×Value)}:(A.under (.builtin "type.__call__" ⟨.ref C::us,kw⟩)).depth=A.depth+1:=by
 first|rfl|simp[Around.under,Code.weight,Code.isCreation,Code.isGuard,Code.isCaller,Code.frames,Code.isFrame,guardIds]
theorem qeP {A:Around}{C:Addr}{us:List Value}{kw:List (Str×Value)}:(A.under (.builtin "type.__call__" ⟨.ref C::us,kw⟩)).units=A.units+1:=by
 first|rfl|simp[Around.under,Code.cUnits,Code.frames,Code.isFrame]
theorem Room.make {k:Nat}{A:Around} (r:Room (k+1) A) (C:Addr) (us:List Value) (kw:List (Str×Value)):Room k (A.under (.builtin "type.__call__" ⟨.ref C::us,kw⟩)) :=
 ⟨r.hd,by have:=r.dp;rw[qeQ];omega,by have:=r.un;rw[qeP];omega,r.gd⟩
theorem Room.depth {k:Nat}{A:Around} (r:Room k A):A.depth < recursionLimit:=by have:=r.dp;omega
theorem Room.units {k:Nat}{A:Around} (r:Room k A):A.units+64 < cLine:=by have:=r.un;omega
def qe8:TA:=fun _ H Q=>Q [] H
def qk6 (ta:TE) (tr:TA):TA:=fun σ H Q=>ta σ H fun x H1=>tr σ H1 fun xs H2=>Q (x::xs) H2
section
variable {X:Cx}{e:Expr}{es:List Expr}{te:TE}{t:TA}{pos:Pos}
theorem qb:PA X [] qe8:=fun _ _ _ _ H Q I h=>Calls.spliced_nil ⟨[],H,I,.nil,h⟩
theorem qa (ha:PE X e te) (hr:PA X es t) (hs:starEach (e::es) X.env=(false,eval e X.env)::starEach es X.env:=by rfl):PA X (e::es) (qk6 te t):=by
 intro pos pins s σ H Q I h;rw[hs];show wpAny _ _ (spliced ((false,eval e X.env)::backTo pos (starEach es X.env))) _ _ s;refine Calls.spliced_cons (thn (ha pins s σ H _ I h) fun u s1 zz_=>?_);obtain⟨x,H1,I1,r1,q1⟩:=zz_;exact thn (hr pos pins s1 σ H1 _ I1 q1) fun us s2 ⟨xs,H2,I2,r2,q2⟩=>⟨x::xs,H2,I2,.cons r1 r2,q2⟩
def ql3 (t:TA):TE:=fun σ H Q=>t σ H fun xs H1=>xs.length≤sizeLine∧∀ p,H1 p=none->Q (.ref p) (upd H1 p (.tup xs))
def ql5 (t:TA):TE:=fun σ H Q=>t σ H fun xs H1=>xs.length≤sizeLine∧∀ p,H1 p=none->Q (.ref p) (upd H1 p (.lst xs))
theorem qQ {x1} (h:PA X es t):PE X (.Tuple es x1 pos) (ql3 t):=by
 intro pins s σ H Q I hq;refine wpAny_Tuple_spliced (thn (h pos pins s σ H _ I hq) fun us s1 ⟨xs,H1,I1,r,z,q⟩=>⟨by rw[← r.length];exact z,?_⟩);have hf:H1 s1.heap.objs.size=none:=I1.hok.fresh (Nat.le_refl _);refine⟨.ref s1.heap.objs.size,upd H1 s1.heap.objs.size (.tup xs),I1.laid (t':=s1.toks) (fun b u e=>Heap.get?_push_of_some _ e) (Nat.le_refl _) ?_,rfl,q _ hf⟩;exact⟨z,us,r,⟨_,Heap.get?_push_size _ rfl,rfl,_,rfl⟩⟩
theorem qT (h:PA X es t):PE X (.List es pos) (ql5 t):=by
 intro pins s σ H Q I hq;refine wpAny_List_spliced (thn (h pos pins s σ H _ I hq) fun us s1 ⟨xs,H1,I1,r,z,q⟩=>⟨by rw[← r.length];exact z,?_⟩);have hf:H1 s1.heap.objs.size=none:=I1.hok.fresh (Nat.le_refl _);refine⟨.ref s1.heap.objs.size,upd H1 s1.heap.objs.size (.lst xs),I1.laid (t':=s1.toks) (fun b u e=>Heap.get?_push_of_some _ e) (Nat.le_refl _) ?_,rfl,q _ hf⟩;exact⟨z,us,0,r,Heap.get?_push_size _ rfl⟩
end
abbrev Sp:=List V->Hp->VK->XK->Prop
abbrev CXT:=List Env->Hp->Shared->XK->Value->Shared->Prop
structure Env0 (P:Program) (w:World) (K:Frag) (mg:Str->Option Value) (base:Heap) (A:Around) (outer:List Env) (s:Shared) (H:Hp):Prop where
 frames:A.frames=some outer
 mod:Mod K mg base
 bs:∀ b o,base.get? b=some o->s.heap.get? b=some o∧H b=none
 bsz:base.objs.size≤s.heap.objs.size
 funs:s.heap.FunFrames base outer
 frf:∀ b∈frs outer,H b=none
 hok:HOk P w H s.heap
 bare:AllBare s.gens
def CE (outer:List Env) (P:Program) (w:World) (H:Hp) (s:Shared) (Q:VK) (u:Value) (s':Shared):Prop :=
 ∃ v H',s'.os=s.os∧AllBare s'.gens∧Un (frs outer) [] H H' s.heap s'.heap∧HOk P w H' s'.heap∧RelV v u∧Q v H'
def CR (CX:CXT) (outer:List Env) (P:Program) (w:World) (H:Hp) (s:Shared) (Q:VK) (E:XK) (r:Result) (s':Shared):Prop :=
 match r with
 | .ok (.ret u)=>CE outer P w H s Q u s'
 | .ok _=>False
 | .error e=>CX outer H s E e s'
structure FnOk (P:Program) (w:World) (K:Frag) (mg:Str->Option Value) (base:Heap) (CX:CXT) (k:Nat) (f:Addr) (fd:FuncData) (ps:List Str) (sp:Sp):Prop where
 len:∀ vs H Q E,sp vs H Q E->vs.length=ps.length
 run:∀ (A:Around) (outer:List Env) (s:Shared) (H:Hp) (args:Args) (us:List Value) (vs:List V) (Q:VK) (E:XK),Room k A->Env0 P w K mg base A outer s H->BindsTo s fd args (ps.zip us)->Vals vs us->sp vs H Q E ->
   codeAny (model P w) A (.call (.ref f) args) (CR CX outer P w H s Q E) s
theorem FnOk.mono {P:Program}{w:World}{K:Frag}{mg:Str->Option Value}{base:Heap}{CX:CXT}{j k:Nat}{f:Addr}{fd:FuncData}{ps:List Str}{sp:Sp} (F:FnOk P w K mg base CX j f fd ps sp) (h:j≤k) :
   FnOk P w K mg base CX k f fd ps sp:=⟨F.len,fun A outer s H args us vs Q E hr=>F.run A outer s H args us vs Q E (hr.mono h)⟩
theorem Env0.make {P:Program}{w:World}{K:Frag}{mg:Str->Option Value}{base:Heap}{A:Around}{outer:List Env}{s:Shared}{H:Hp} (e:Env0 P w K mg base A outer s H) (C:Addr) (us:List Value) (kw:List (Str×Value)) :
   Env0 P w K mg base (A.under (.builtin "type.__call__" ⟨.ref C::us,kw⟩)) outer s H:=⟨by first|exact e.frames|(simpa[Around.under,Code.envs,Code.isFrame,pushEnvs] using e.frames),e.mod,e.bs,e.bsz,e.funs,e.frf,e.hok,e.bare⟩
section
variable {X:Cx}{pins:List (Addr×Obj)}{σ:St}{H:Hp}{s s':Shared}
theorem Inv.env0 (I:Inv X pins σ H s):Env0 X.prog X.w X.K X.mg X.base X.A X.stack s H :=
 ⟨I.ok.frames,I.ok.mod,I.bs,Nat.le_trans I.ok.bsz I.sz,I.stack,I.stkFree,I.hok,I.bare⟩
theorem Inv.after {Q:VK}{u:Value} (I:Inv X pins σ H s) (h:CE X.stack X.prog X.w H s Q u s'):EP X pins σ Q u s':=by
 obtain⟨v,H',os,bare,un,hok,r,q⟩:=h;obtain⟨hh,g,d,t,os'⟩:=s';obtain rfl:os'=s.os:=os;exact⟨v,H',I.call (h':=hh) (g':=g) (d':=d) (t':=t) (ch:=[]) un hok bare (fun b z=>absurd z (by simp)),r,q⟩
end
def qjV (sp:Sp) (dvs:List V) (E:XK) (t:TA):TE:=fun σ H Q=>t σ H fun vs H1=>sp (vs++dvs) H1 Q E
inductive qfq (C:Addr) (m:Str) (sp:Sp) (dvs:List V) (E:XK) (t:TA) (σ:St) (Q:VK) (x:V) (H1:Hp):Prop
 | mk (a dx fs:_) (h1:x=.ref a) (h2:H1 a=some (.ins C dx fs)) (h3:fs.lookup m=none) (h4:t σ H1 fun vs H2=>sp (x::(vs++dvs)) H2 Q E):qfq C m sp dvs E t σ Q x H1
def QJ (C:Addr) (m:Str) (sp:Sp) (dvs:List V) (E:XK) (ta:TE) (t:TA):TE:=fun σ H Q=>ta σ H fun x H1=>qfq C m sp dvs E t σ Q x H1
def qjR (C:Addr) (sp:Sp) (dvs:List V) (E:XK) (t:TA):TE:=fun σ H Q=>t σ H fun vs H1=>∀ x dx,H1 x=none->H1 dx=none->dx≠x ->
 sp (.ref x::(vs++dvs)) (upd (upd H1 dx (.own x)) x (.ins C dx [])) (fun v H2=>v=.non∧Q (.ref x) H2) E
def Binds (K:Frag) (fd:FuncData) (ps:List Str) (ds:List Value):Prop :=
 ∀ (s:Shared) (us:List Value),K.In s.heap->(us++ds).length=ps.length->BindsTo s fd ⟨us,[]⟩ (ps.zip (us++ds))
theorem Binds.all {K:Frag}{fd:FuncData}{ps:List Str} (h:∀ us:List Value,us.length=ps.length->bindArgs fd ⟨us,[]⟩=pure (ps.zip us)):Binds K fd ps []:=fun s us _ hl=>by
 rw[List.append_nil]at hl ⊢;exact .of_eq (h us hl)
def JG (CX:CXT) (X:Cx) (E:XK):Prop:=∀ (pins:List (Addr×Obj)) (σ:St) (H:Hp) (s:Shared) (e:Value) (s':Shared),Inv X pins σ H s->CX X.stack H s E e s'->X.xe e s'
section
variable {X:Cx}{CX:CXT}{k:Nat}{f C:Addr}{fd:FuncData}{ps:List Str}{sp:Sp}{dvs:List V}{ds:List Value}{E:XK}{x m:Str}{p pos apos:Pos}{e o:Expr}{es:List Expr}{ta:TE}{t:TA}
theorem qec {pins:List (Addr×Obj)}{σ:St}{H:Hp}{s:Shared}{Q:VK}{us:List Value}{vs:List V} (F:FnOk X.prog X.w X.K X.mg X.base CX k f fd ps sp) (hr:Room k X.A) (hb:Binds X.K fd ps ds) (hd:Vals dvs ds) (hx:JG CX X E)
   (I:Inv X pins σ H s) (r:Vals vs us) (h:sp (vs++dvs) H Q E):wpAny (model X.prog X.w) X.A (call (.ref f) us) (EP X pins σ Q) X.xe s:=by
 have r2:Vals (vs++dvs) (us++ds):=r.append hd;have hl:(us++ds).length=ps.length:=by rw[← r2.length];exact F.len _ _ _ _ h
 refine wpAny_call (codeAny_mono (F.run X.A X.stack s H ⟨us,[]⟩ (us++ds) (vs++dvs) Q E hr I.env0 (hb s us I.kIn hl) r2 h) fun r s' hq=>?_)
 cases r with
 | error e=>exact hx pins σ H s e s' I hq
 | ok fl =>
   cases fl with
   | ret u=>exact I.after hq
   | next=>exact False.elim hq
   | brk=>exact False.elim hq
   | cont=>exact False.elim hq
theorem qj (F:FnOk X.prog X.w X.K X.mg X.base CX k f fd ps sp) (hr:Room k X.A) (hg:Gl X x) (hm:X.mg x=some (.ref f)) (hk:keepIn X.K (.ref f)=true) (hb:Binds X.K fd ps ds) (hd:Vals dvs ds) (hx:JG CX X E)
   (ha:PA X (e::es) t) (hdb:(x == ("__debug__":Str))=false:=by decide) (he:starEach (e::es) X.env=(false,eval e X.env)::starEach es X.env:=by rfl) (hpl:(backTo pos (starEach es X.env)).any (·.1)=false:=by rfl) :
   PE X (.Call (.Name x p) (e::es) [] pos) (qjV sp dvs E t):=by
 intro pins s σ H Q I h;refine wpAny_Call_Name_kw (qaH I hg hm ?_ hdb);refine callWith_K (h₀:=X.base) I.ok.mod.kin hk (thn (ha pos pins s σ H _ I h) fun us s1 ⟨vs,H1,I1,r,q⟩=>⟨I1.kIn,?_⟩) he hpl;exact qec F hr hb hd hx I1 r q
theorem qL {pl:Sem Bool} (he:PE X o ta) (c:Cls X.K C) (hm:qgP X.K C m f) (F:FnOk X.prog X.w X.K X.mg X.base CX k f fd ps sp) (hr:Room k X.A) (hb:Binds X.K fd ps ds) (hd:Vals dvs ds) (hx:JG CX X E) (ha:PA X (e::es) t)
   (hst:starEach (e::es) X.env=(false,eval e X.env)::starEach es X.env:=by rfl) (hpl:(backTo pos (starEach es X.env)).any (·.1)=false:=by rfl)
   (ht:eval (.Call (.Attribute o m apos) (e::es) [] pos) X.env=(do
     let ov ← eval o X.env
     standAt apos.atName
     let (f,first) ← holding [ov] (getMethod ov m pl)
     callWith pos f first (backTo pos (starEach (e::es) X.env)) (backToKw pos (keywordEach [] X.env))):=by rfl) :
   PE X (.Call (.Attribute o m apos) (e::es) [] pos) (QJ C m sp dvs E ta t):=by
 intro pins s σ H Q I h;refine PySem.W.methodCall_KW (pl:=pl) (thn (he pins s σ H _ I h) fun u s1 zz_=>?_) ht;obtain⟨x,H1,I1,rx,a,dx,fs,ex,ea,l,q⟩:=zz_;subst ex;obtain rfl:u=Value.ref a:=rx;refine qbC I1 ea c hm l ?_;refine callWith_K (first:=[.ref a]) (h₀:=X.base) I.ok.mod.kin hm.kp (thn (ha pos pins s1 σ H1 _ I1 q) fun us s2 ⟨vs,H2,I2,r,q2⟩=>⟨I2.kIn,?_⟩) hst hpl;exact qec (us:=.ref a::us) (vs:=.ref a::vs) F hr hb hd hx I2 (.cons rfl r) q2
theorem zr {pl:Sem Bool} (he:PE X o ta) (c:Cls X.K C) (hm:qgP X.K C m f) (F:FnOk X.prog X.w X.K X.mg X.base CX k f fd ps sp) (hr:Room k X.A) (hb:Binds X.K fd ps ds) (hd:Vals dvs ds) (hx:JG CX X E)
   (ht:eval (.Call (.Attribute o m apos) [] [] pos) X.env=(do
     let ov ← eval o X.env
     standAt apos.atName
     let (f,first) ← holding [ov] (getMethod ov m pl)
     callWith pos f first (backTo pos (starEach [] X.env)) (backToKw pos (keywordEach [] X.env))):=by rfl) :
   PE X (.Call (.Attribute o m apos) [] [] pos) (QJ C m sp dvs E ta qe8):=by
 intro pins s σ H Q I h;refine PySem.W.methodCall_KW (pl:=pl) (thn (he pins s σ H _ I h) fun u s1 zz_=>?_) ht;obtain⟨x,H1,I1,rx,a,dx,fs,ex,ea,l,q⟩:=zz_;subst ex;obtain rfl:u=Value.ref a:=rx;refine qbC I1 ea c hm l ?_;exact callWith_K0 (first:=[.ref a]) I1.kIn hm.kp (qec (us:=[.ref a]) (vs:=[.ref a]) F hr hb hd hx I1 (.cons rfl .nil) q)
structure Mk (K:Frag) (C f:Addr):Prop where
 makes:makesIn K C=true
 init:findIn K (.ref C) "__init__"=some (some (.ref f))
 fn:isFn K (.ref f)=true
 kp:keepIn K (.ref C)=true
theorem qeb {pins:List (Addr×Obj)}{σ:St}{H:Hp}{s:Shared}{Q:VK}{us:List Value}{vs:List V} (M:Mk X.K C f) (F:FnOk X.prog X.w X.K X.mg X.base CX k f fd ps sp) (hr:Room (k+1) X.A) (hb:Binds X.K fd ps ds) (hd:Vals dvs ds)
   (hx:JG CX X E) (I:Inv X pins σ H s) (r:Vals vs us)
   (h:∀ x dx,H x=none->H dx=none->dx≠x->sp (.ref x::(vs++dvs)) (upd (upd H dx (.own x)) x (.ins C dx [])) (fun v H2=>v=.non∧Q (.ref x) H2) E) :
   wpAny (model X.prog X.w) X.A (call (.ref C) us) (EP X pins σ Q) X.xe s:=by
 have hq:=h (s.heap.objs.size+1) s.heap.objs.size (I.hok.fresh (Nat.le_succ _)) (I.hok.fresh (Nat.le_refl _)) (Nat.ne_of_lt (Nat.lt_succ_self _));have I2:=Inv.made (C:=C) I;have r2:Vals (V.ref (s.heap.objs.size+1)::(vs++dvs)) (Value.ref (s.heap.objs.size+1)::(us++ds)):=.cons rfl (r.append hd)
 have hl:(Value.ref (s.heap.objs.size+1)::us++ds).length=ps.length:=by
   have e:=r2.length;rw[F.len _ _ _ _ hq]at e;exact e.symm
 refine wpAny_call (qhq (f:=f) I.kIn M.makes M.init (beq_iff_eq.mp M.fn) (codeAny_mono (F.run _ X.stack _ _ ⟨Value.ref (s.heap.objs.size+1)::us,[]⟩ (Value.ref (s.heap.objs.size+1)::(us++ds)) _ _ E (hr.make C us [])
   (I2.env0.make C us []) (hb _ (Value.ref (s.heap.objs.size+1)::us) I2.kIn hl) r2 hq) fun r s' hq'=>?_))
 cases r with
 | error e=>exact hx pins σ _ _ e s' I2 hq'
 | ok fl =>
   cases fl with
   | ret u =>
     obtain⟨v,H',I3,rv,ev,q3⟩:=I2.after hq';subst ev;exact⟨rv,⟨V.ref (s.heap.objs.size+1),H',I3,rfl,q3⟩⟩
   | next=>exact False.elim hq'
   | brk=>exact False.elim hq'
   | cont=>exact False.elim hq'
theorem zL (M:Mk X.K C f) (F:FnOk X.prog X.w X.K X.mg X.base CX k f fd ps sp) (hr:Room (k+1) X.A) (hg:Gl X x) (hm:X.mg x=some (.ref C)) (hb:Binds X.K fd ps ds) (hd:Vals dvs ds) (hx:JG CX X E)
   (ha:PA X (e::es) t) (hdb:(x == ("__debug__":Str))=false:=by decide) (he:starEach (e::es) X.env=(false,eval e X.env)::starEach es X.env:=by rfl) (hpl:(backTo pos (starEach es X.env)).any (·.1)=false:=by rfl) :
   PE X (.Call (.Name x p) (e::es) [] pos) (qjR C sp dvs E t):=by
 intro pins s σ H Q I h;refine wpAny_Call_Name_kw (qaH I hg hm ?_ hdb);refine callWith_K (h₀:=X.base) I.ok.mod.kin M.kp (thn (ha pos pins s σ H _ I h) fun us s1 ⟨vs,H1,I1,r,q⟩=>⟨I1.kIn,?_⟩) he hpl;exact qeb M F hr hb hd hx I1 r q
theorem qhb (M:Mk X.K C f) (F:FnOk X.prog X.w X.K X.mg X.base CX k f fd ps sp) (hr:Room (k+1) X.A) (hg:Gl X x) (hm:X.mg x=some (.ref C)) (hb:Binds X.K fd ps ds) (hd:Vals dvs ds) (hx:JG CX X E)
   (hdb:(x == ("__debug__":Str))=false:=by decide):PE X (.Call (.Name x p) [] [] pos) (qjR C sp dvs E qe8):=by
 intro pins s σ H Q I h;refine wpAny_Call_Name_kw (qaH I hg hm ?_ hdb);exact callWith_K0 I.kIn M.kp (qeb (us:=[]) M F hr hb hd hx I .nil h)
end
section
variable {X:Cx}{CX:CXT}{k:Nat}{f C:Addr}{fd:FuncData}{ps ks:List Str}{sp:Sp}{E:XK}{x m:Str}{p pos apos kpos:Pos}{e o:Expr}{es:List Expr}{kws:List Keyword}{te ta:TE}{t tk:TA}{nm:Option Str}
variable {g:List Value->List Value->List Value}{gV:List V->List V->List V}
end
structure qp (N P:List Str) (sc:Scope):Prop where
 kind:sc.kind=.function
 co:sc.isCoroutine=false
 gen:sc.isGenerator=false
 nd:N.Nodup
 pre:N.take P.length=P
 par:∀ x∈P,sc.names.lookup x=some .local∨sc.names.lookup x=some .cell
 nofree:∀ y∈sc.names,y.2≠.free
theorem qdg {kindOf:Str->Option NameKind}{x:Str}:∀ {binds:List (Str×Value)}{m:Str->Option Value},(∀ v,(x,v)∉binds)->bindL kindOf binds m x=m x
 | [],_,_=>rfl
 | (n,v)::r,m,h=>by
   unfold bindL;rw[qdg fun w hw=>h w (List.mem_cons_of_mem _ hw)];split
   · have:x≠n:=by rintro rfl;exact h v List.mem_cons_self
     simp[this]
   · rfl
theorem qdi {kindOf:Str->Option NameKind}{x:Str}:∀ {binds:List (Str×Value)}{m:Str->Option Value},(∀ v,(x,v)∉binds)->bindC kindOf binds m x=m x
 | [],_,_=>rfl
 | (n,v)::r,m,h=>by
   unfold bindC;rw[qdi fun w hw=>h w (List.mem_cons_of_mem _ hw)];split
   · rfl
   · have:x≠n:=by rintro rfl;exact h v List.mem_cons_self
     simp[this]
theorem qdh {kindOf:Str->Option NameKind}{x:Str}{v:Value}:∀ {P:List Str}{vs:List Value}{i:Nat}{m:Str->Option Value},P.Nodup->P[i]?=some x->vs[i]?=some v->kindOf x=some .local ->
   bindL kindOf (P.zip vs) m x=some v
 | [],_,_,_,_,h,_,_=>by simp at h
 | _::_,[],_,_,_,_,h,_=>by simp at h
 | p::P,w::vs,0,m,nd,h1,h2,hk=>by
   simp at h1 h2;subst h1;subst h2;show bindL kindOf ((p,w)::P.zip vs) m p=_;unfold bindL;rw[qdg fun v hv=>(List.nodup_cons.mp nd).1 (List.of_mem_zip hv).1,if_pos hk];simp
 | p::P,w::vs,i+1,m,nd,h1,h2,hk=>by
   show bindL kindOf ((p,w)::P.zip vs) m x=_;unfold bindL;exact qdh (i:=i) (List.nodup_cons.mp nd).2 (by simpa using h1) (by simpa using h2) hk
theorem qdj {kindOf:Str->Option NameKind}{x:Str}{v:Value}:∀ {P:List Str}{vs:List Value}{i:Nat}{m:Str->Option Value},P.Nodup->P[i]?=some x->vs[i]?=some v->kindOf x≠some .local ->
   bindC kindOf (P.zip vs) m x=some v
 | [],_,_,_,_,h,_,_=>by simp at h
 | _::_,[],_,_,_,_,h,_=>by simp at h
 | p::P,w::vs,0,m,nd,h1,h2,hk=>by
   simp at h1 h2;subst h1;subst h2;show bindC kindOf ((p,w)::P.zip vs) m p=_;unfold bindC;rw[qdi fun v hv=>(List.nodup_cons.mp nd).1 (List.of_mem_zip hv).1,if_neg hk];simp
 | p::P,w::vs,i+1,m,nd,h1,h2,hk=>by
   show bindC kindOf ((p,w)::P.zip vs) m x=_;unfold bindC;exact qdj (i:=i) (List.nodup_cons.mp nd).2 (by simpa using h1) (by simpa using h2) hk
def JI (N:List Str) (vs:List V):St:=vs.map some++List.replicate (N.length - vs.length) none
def zw (CX:CXT) (P:Program) (w:World) (K:Frag) (mg:Str->Option Value) (base:Heap) (N:List Str) (qual:Str) (scope:Scope) (f:Addr) (cd:Value) (A:Around) (outer:List Env) (s:Shared) (H:Hp) (E:XK):Cx where
 prog:=P
 w:=w
 K:=K
 mg:=mg
 base:=base
 A:=A.deeper (envOfC qual scope s.heap.objs.size f cd)
 N:=N
 s₀:=s
 H₀:=H
 env:=envOfC qual scope s.heap.objs.size f cd
 outer:=outer
 stack:=envOfC qual scope s.heap.objs.size f cd::outer
 ex:=[]
 calm:=true
 fn:=fun _=>true
 pn:=[]
 xe:=fun e s'=>wpAny (model P w) (A.deeper (envOfC qual scope s.heap.objs.size f cd)) (leaving (envOfC qual scope s.heap.objs.size f cd) e) (fun _ s''=>CX outer H s E e s'') (fun e' s''=>CX outer H s E e' s'') s'
theorem qca {sc:Scope}{n:Nat}{x:Str} (h:sc.names.lookup x=some .cell):∃ c,(cellsFrom n sc.names []).lookup x=some c:=by
 have q:=PySem.W.cellsFrom_some sc.names n [] (.inl h);exact Option.isSome_iff_exists.mp q
theorem qc6 {CX:CXT}{P:Program}{w:World}{K:Frag}{mg:Str->Option Value}{base:Heap}{N ps:List Str}{qual:Str}{scope:Scope}{f:Addr}{cd:Value}{A:Around}{outer:List Env}{s s1:Shared}{H:Hp}{E:XK}{us:List Value}{vs:List V}
   (S:qp N ps scope) (hd:A.handled=none) (e0:Env0 P w K mg base A outer s H) (hl:vs.length=ps.length) (r:Vals vs us)
   (x:InCallC s s.heap.objs.size (bindL (envOfC qual scope s.heap.objs.size f cd).kindOf (ps.zip us) fun _=>none) (cellsFrom (s.heap.objs.size+1) scope.names []) (bindC (envOfC qual scope s.heap.objs.size f cd).kindOf (ps.zip us) fun _=>none) s1) :
   Inv (zw CX P w K mg base N qual scope f cd A outer s H E) [] (JI N vs) H s1:=by
 have hpl:ps.length≤N.length:=by have:=congrArg List.length S.pre;rw[List.length_take]at this;omega
 obtain⟨h1,tk,rfl,hk⟩:=x.done;have noA:∀ b:Addr,b∉(zw CX P w K mg base N qual scope f cd A outer s H E).ex:=fun b z=>absurd (show b∈([]:List Addr) from z) (by simp)
 refine⟨⟨e0.mod,S.kind,rfl,rfl,Nat.le_refl _,fun y z c h1 h2=>?_,fun y hy=>?_,fun y c _ h=>?_,fun _=>hd,Around.frames_deeper e0.frames,.inr ⟨rfl,rfl⟩,fun b z=>absurd z (noA b),e0.bs,e0.bsz,fun b _ _=>noA b,fun b z=>absurd z (noA b),e0.funs,e0.frf⟩,
   rfl,e0.bare,Un.kept hk,⟨_,x.toInCall.ns,fun i y v h1 h2 h3=>?_⟩,fun y c h=>⟨_,x.cell y c h⟩,e0.hok.fresh (Nat.le_refl _),fun y c h=>?_,fun p hp=>absurd (show p∈([]:List (Addr×Obj)) from hp) (by simp),e0.hok.kept hk,?_⟩
 · exact name_of_addr x.apart (PySem.mem_of_lookup h1) (PySem.mem_of_lookup h2)
 · have hy:scope.names.lookup y=some .cell∨scope.names.lookup y=some .free:=hy;rcases hy with hy|hy
   · exact qca hy
   · exact absurd rfl (S.nofree _ (PySem.mem_of_lookup hy))
 · exact Nat.le_of_lt (x.above y c (PySem.mem_of_lookup h))
 · have hi:i < vs.length:=by
     unfold JI at h2;by_cases hi:i < vs.length
     · exact hi
     · rw[List.getElem?_append_right (by simpa using hi)]at h2;rw[List.getElem?_replicate]at h2;split at h2<;>cases h2
   have ha:vs[i]?=some v:=by
     unfold JI at h2;rw[List.getElem?_append_left (by simpa using hi),List.getElem?_map]at h2
     cases e:vs[i]? with
     | none=>rw[e]at h2;cases h2
     | some a=>rw[e]at h2;cases h2;rfl
   obtain⟨u,hu,rv⟩:=r.get ha
   have hp:ps[i]?=some y:=by
     rw[← S.pre,List.getElem?_take_of_lt (by omega)];exact h1
   have ndP:ps.Nodup:=by rw[← S.pre];exact S.nd.sublist (List.take_sublist _ _)
   refine⟨u,rv,?_⟩;rcases S.par y (List.mem_of_getElem? hp) with k|k
   · exact .inl ⟨k,qdh ndP hp hu k⟩
   · obtain⟨c,e⟩:=qca (n:=s.heap.objs.size+1) k;refine .inr ⟨.inl k,c,e,?_⟩;have q:=x.cell y c e;rw[qdj ndP hp hu (by show scope.names.lookup y≠_;rw[k];decide)]at q;exact q
 · exact e0.hok.fresh (Nat.le_of_lt (x.above y c (PySem.mem_of_lookup h)))
 · unfold JI;show _=N.length;rw[List.length_append,List.length_map,List.length_replicate];omega
theorem qlv {CX:CXT}{P:Program}{w:World}{K:Frag}{mg:Str->Option Value}{base:Heap}{k:Nat}{f:Addr}{name qual:Str}{params:Arguments}{body:List Stmt}{scope:Scope}{dV kV doc pm cdv ct oc:Value}{an od:Option Addr}
   {osl:Array (Option Value)}{N ps:List Str}{sp:Sp} (lk:K.lookup f=some ⟨oc,od,.func (fnOf name qual params body scope dV kV doc pm an cdv ct),osl⟩) (hcd:PySem.W.codeIn K cdv qual=true) (S:qp N ps scope)
   (len:∀ vs H Q E,sp vs H Q E->vs.length=ps.length)
   (hbody:∀ (A:Around) (outer:List Env) (s:Shared) (H:Hp) (vs:List V) (Q:VK) (E:XK),Room k (A.deeper (envOfC qual scope s.heap.objs.size f cdv))->sp vs H Q E ->
     ∃ t,PSs (zw CX P w K mg base N qual scope f cdv A outer s H E) body t∧t { nx:=fun _ H'=>Q .non H',rt:=Q } (JI N vs) H) :
   FnOk P w K mg base CX (k+1) f (fnOf name qual params body scope dV kV doc pm an cdv ct) ps sp:=by
 refine⟨len,fun A outer s H args us vs Q E hr e0 hb r hsp=>?_⟩;have hl:=len _ _ _ _ hsp;have KX:K.In s.heap:=e0.mod.kin.keeps fun b o e=>(e0.bs b o e).1;have lim:s.heap.NoLimit:=e0.mod.nolimit.keeps fun b o e=>(e0.bs b o e).1
 have hkind:∀ y∈ps.zip us,scope.names.lookup y.1=some .local∨(scope.names.lookup y.1=some .cell∧((cellsFrom (s.heap.objs.size+1) scope.names []).lookup y.1).isSome=true):=fun⟨n,v⟩ hy=>by
   rcases S.par n (List.of_mem_zip hy).1 with q|q
   · exact .inl q
   · exact .inr ⟨q,PySem.W.cellsFrom_some _ _ _ (.inl q)⟩
 refine codeAny_call_function hr.depth (KX _ _ lk) rfl S.co S.gen rfl (PySem.W.codeRec_of KX hcd) (hb _ _ _ _ ?_);refine wpAny_newFunctionEnv_cells S.kind hkind fun env he s1 x=>?_;subst he;refine⟨lim.keeps x.toInCall.keep,codeAny_func ?_⟩;obtain⟨t,ht,hq⟩:=hbody A outer s H vs Q E (hr.deeper _) hsp;have I:Inv (zw CX P w K mg base N qual scope f cdv A outer s H E) [] (JI N vs) H s1:=qc6 S hr.hd e0 hl r x;refine wpAny_mono (ht [] s1 (JI N vs) H _ I hq) (fun fl s' hs=>?_) fun e s' hs=>hs
 have fin:∀ {σ':St}{H':Hp}{v:V}{u:Value},Inv (zw CX P w K mg base N qual scope f cdv A outer s H E) [] σ' H' s'->RelV v u->Q v H'->CE outer P w H s Q u s' :=
   fun {σ' H' v u} J rv q=>⟨v,H',J.os,J.bare,J.base,J.hok,rv,q⟩
 cases fl with
 | ret u =>
   obtain⟨v,σ',H',J,rv,q⟩:=hs;exact fin J rv q
 | next =>
   obtain⟨σ',H',J,q⟩:=hs;exact fin (v:=V.non) (u:=Value.none) J rfl q
 | brk =>
   obtain⟨_,_,_,q⟩:=hs;exact False.elim q
 | cont =>
   obtain⟨_,_,_,q⟩:=hs;exact False.elim q
section
variable {X:Cx}{x:Str}{p pos:Pos}{e:Expr}{es:List Expr}{t:TA}{id T:String}{r:List V->Hp->VK->Prop}
def tCB (r:List V->Hp->VK->Prop) (t:TA):TE:=fun σ H Q=>t σ H fun vs H1=>r vs H1 Q
theorem qk (hc:CallR X (.builtin id) r) (hg:Gl X x) (hm:X.mg x=none) (hv:bootBuiltins x=some (.builtin id)) (ha:PA X (e::es) t) (hn:x≠"__name__":=by decide) (hdb:(x == ("__debug__":Str))=false:=by decide)
   (he:starEach (e::es) X.env=(false,eval e X.env)::starEach es X.env:=by rfl) (hpl:(backTo pos (starEach es X.env)).any (·.1)=false:=by rfl):PE X (.Call (.Name x p) (e::es) [] pos) (tCB r t):=by
 intro pins s σ H Q I h;refine wpAny_Call_Name_kw (qaI I hg hm hv ?_ hn hdb);exact PyProof.Rows.callWith_builtin1 (thn (ha pos pins s σ H _ I h) fun us s1 ⟨vs,H1,I1,r1,q1⟩=>hc pins s1 σ H1 vs us Q I1 r1 q1) he hpl
theorem zC (hc:CallR X (.type T) r) (hg:Gl X x) (hm:X.mg x=none) (hv:bootBuiltins x=some (.type T)) (ha:PA X (e::es) t) (hn:x≠"__name__":=by decide) (hdb:(x == ("__debug__":Str))=false:=by decide)
   (he:starEach (e::es) X.env=(false,eval e X.env)::starEach es X.env:=by rfl) (hpl:(backTo pos (starEach es X.env)).any (·.1)=false:=by rfl):PE X (.Call (.Name x p) (e::es) [] pos) (tCB r t):=by
 intro pins s σ H Q I h;refine wpAny_Call_Name_kw (qaI I hg hm hv ?_ hn hdb);exact PyProof.Rows.callWith_type1 (thn (ha pos pins s σ H _ I h) fun us s1 ⟨vs,H1,I1,r1,q1⟩=>hc pins s1 σ H1 vs us Q I1 r1 q1) he hpl
end
end L2
namespace HT
open PySem PyProof.Rows
section
open PySem.SeqAt
open PySem.AutoSeq1 (wpAny_loadPart')
open PySem.MeetsSeq PySem.MeetsSeq2 PySem.MeetsSeq3
end
section
variable {prog:Program}{w:World}{A:Around}{E:Value->Shared->Prop}{s:Shared}
def sIx (n d:Nat):Option Int->Nat
 | none=>d
 | some v=>if v < 0 then (v+(n:Int)).toNat else min v.toNat n
theorem sIx_none (n d:Nat):sIx n d none=d:=rfl
theorem sIx_nat (n d k:Nat):sIx n d (some (k:Int))=min k n:=by
 show (if (k:Int) < 0 then ((k:Int)+(n:Int)).toNat else min (k:Int).toNat n)=min k n;rw[if_neg (by omega),Int.toNat_natCast]
end
end HT
namespace L2
open PySem PySem.Spec PyProof.Rows
open PySem.W (Frag)
abbrev TO:=St->Hp->(Option Int->Hp->Prop)->Prop
def PO (X:Cx) (e:Option Expr) (t:TO):Prop :=
 ∀ (pins:List (Addr×Obj)) (s:Shared) (σ:St) (H:Hp) (Q:Option Int->Hp->Prop),Inv X pins σ H s->t σ H Q ->
   wpAny (model X.prog X.w) X.A (evalPart e X.env) (fun u s'=>∃ o H',Inv X pins σ H' s'∧IsPart u o∧Q o H') X.xe s
def qiK:TO:=fun _ H Q=>Q none H
inductive qfo (Q:(Option Int->Hp->Prop)) (x:V) (H1:Hp):Prop
 | mk (i:_) (h1:x=.int i) (h2:Q (some i) H1):qfo Q x H1
def qk2 (t:TE):TO:=fun σ H Q=>t σ H fun x H1=>qfo Q x H1
section
variable {X:Cx}{e:Expr}{te:TE}{lo hi:Option Expr}{tl th:TO}{pos p2:Pos}
theorem qi6:PO X none qiK:=by
 intro pins s σ H Q I h;rw[evalPart_none];exact wpAny_pure ⟨none,H,I,.none,h⟩
theorem qi5 (h:PE X e te):PO X (some e) (qk2 te):=by
 intro pins s σ H Q I hw;rw[evalPart_some];refine thn (h pins s σ H _ I hw) fun u s1 zz_=>?_;obtain⟨x,H1,I1,r1,q1⟩:=zz_;obtain⟨i,rfl,q⟩:=q1;obtain⟨t,rfl⟩:=r1;exact⟨some i,H1,I1,.int i t,q⟩
def SlR (X:Cx) (r:V->Option Int->Option Int->Hp->VK->Prop):Prop :=
 ∀ (pins:List (Addr×Obj)) (s:Shared) (σ:St) (H:Hp) (x:V) (v vl vu:Value) (lo hi:Option Int) (sl:Addr) (Q:VK),Inv X pins σ H s->RelV x v->s.heap.IsSliceOf sl vl vu .none->IsPart vl lo->IsPart vu hi->r x lo hi H Q ->
   ∃ T id,typeLookup (.type T) "__getitem__"=pure (some (.builtin id))∧s.TypeIs v T∧wpAny (model X.prog X.w) X.A (getItem v (.ref sl)) (EP X pins σ Q) X.xe s
theorem SlR.or {r r':V->Option Int->Option Int->Hp->VK->Prop} (h:SlR X r) (h':SlR X r'):SlR X (fun x lo hi H Q=>r x lo hi H Q∨r' x lo hi H Q):=by
 intro pins s σ H x v vl vu lo hi sl Q I rx hs pl pu q;rcases q with q|q
 · exact h pins s σ H x v vl vu lo hi sl Q I rx hs pl pu q
 · exact h' pins s σ H x v vl vu lo hi sl Q I rx hs pl pu q
def tSl (r:V->Option Int->Option Int->Hp->VK->Prop) (te:TE) (tl th:TO):TE:=fun σ H Q=>te σ H fun x H1=>tl σ H1 fun l H2=>th σ H2 fun u H3=>r x l u H3 Q
theorem qha {r:V->Option Int->Option Int->Hp->VK->Prop} (hr:SlR X r) (he:PE X e te) (hl:PO X lo tl) (hu:PO X hi th):PE X (.Subscript e (.Slice lo hi none p2) pos) (tSl r te tl th):=by
 intro pins s σ H Q I h;refine Subscript_ (thn (he pins s σ H _ I h) fun v s1 zz_=>?_);obtain⟨x,H1,I1,r1,q1⟩:=zz_;refine wpAny_Slice (thn (hl pins s1 σ H1 _ I1 q1) fun vl s2 ⟨l,H2,I2,pl,q2⟩=>thn (hu pins s2 σ H2 _ I2 q2) fun vu s3 zz_=>?_);obtain⟨u,H3,I3,pu,q3⟩:=zz_;rw[evalPart_none];refine wpAny_pure ?_;have I4:Inv X pins σ H3 { s3 with heap:=s3.heap.push { cls:=.type "slice",data:=.fields #[vl,vu,.none] } }:=I3.kept (t':=s3.toks) fun b ob q=>Heap.get?_push_of_some _ q;obtain⟨T,id,hT,ht,hg⟩:=hr pins { s3 with heap:=s3.heap.push { cls:=.type "slice",data:=.fields #[vl,vu,.none] } } σ H3 x v vl vu l u s3.heap.objs.size Q I4 r1 (Heap.IsSliceOf.new ..) pl pu q3;show wpAny (model X.prog X.w) X.A (subscriptTail e (.Slice lo hi none p2) v (.ref s3.heap.objs.size)) (EP X pins σ Q) X.xe { s3 with heap:=s3.heap.push { cls:=.type "slice",data:=.fields #[vl,vu,.none] } };exact tail_any (ops:=[.ref s3.heap.objs.size,v]) ht hT hg (by with_unfolding_all rfl)
def qjG (xs:List V) (lo hi:Option Int):List V:=(xs.drop (HT.sIx xs.length 0 lo)).take (HT.sIx xs.length xs.length hi - HT.sIx xs.length 0 lo)
theorem qdO (xs:List V) (lo hi:Option Int):(qjG xs lo hi).length≤xs.length:=by
 unfold qjG;refine Nat.le_trans (List.length_take_le' _ _) ?_;rw[List.length_drop];exact Nat.sub_le _ _
end
def ixN (n:Nat) (i:Int):Option Nat:=if 0≤i then (if i < n then some i.toNat else none) else if -(n:Int)≤i then some (i+n).toNat else none
def atI {α:Type} (xs:List α) (i:Int):Option α:=(ixN xs.length i).bind fun j=>xs[j]?
theorem qgc {n:Nat}{i:Int}{j:Nat} (h:ixN n i=some j):seqIndex? i n=some j∧j < n∧-(n:Int)≤i∧i < n:=by
 unfold ixN at h;by_cases h0:0≤i
 · rw[if_pos h0]at h;by_cases h1:i < n
   · rw[if_pos h1]at h;have e:i.toNat=j:=Option.some.inj h;exact⟨by rw[seqIndex_of h0 h1,e],by omega,by omega,h1⟩
   · rw[if_neg h1]at h;cases h
 · rw[if_neg h0]at h;by_cases h1:-(n:Int)≤i
   · rw[if_pos h1]at h;have e:(i+n).toNat=j:=Option.some.inj h;exact⟨by rw[seqIndex_neg (by omega) h1,e],by omega,h1,by omega⟩
   · rw[if_neg h1]at h;cases h
theorem qdP {α:Type}{xs:List α}{i:Int}{v:α} (h:atI xs i=some v):∃ j,seqIndex? i xs.length=some j∧xs[j]?=some v∧j < xs.length∧-(xs.length:Int)≤i∧i < xs.length:=by
 unfold atI at h
 cases e:ixN xs.length i with
 | none=>rw[e]at h;cases h
 | some j =>
   rw[e]at h;obtain⟨h1,h2,h3,h4⟩:=qgc e;exact⟨j,h1,h,h2,h3,h4⟩
theorem zA {α:Type}{xs:List α}{j:Nat}{v:α} (h:xs[j]?=some v):atI xs (j:Int)=some v:=by
 have hj:j < xs.length:=(List.getElem?_eq_some_iff.mp h).1
 have e:ixN xs.length (j:Int)=some j:=by
   unfold ixN;rw[if_pos (by omega),if_pos (by omega)];simp
 unfold atI;rw[e];exact h
def qjy (b:Expr):Prop:=∀ o i,subscripted b false o i=operate [o,i] (getItem o i)
def IxR (X:Cx) (r:R2):Prop :=
 ∀ (value slice:Expr) (pins:List (Addr×Obj)) (s:Shared) (σ:St) (H:Hp) (x y:V) (v u:Value) (Q:VK),Inv X pins σ H s->RelV x v->RelV y u->r x y H Q ->
   subscripted slice false v u=operate [v,u] (getItem v u)->wpAny (model X.prog X.w) X.A (subscriptTail value slice v u) (EP X pins σ Q) X.xe s
def MtR (X:Cx) (id:String) (r:V->List V->Hp->VK->Prop):Prop :=
 ∀ (pins:List (Addr×Obj)) (s:Shared) (σ:St) (H:Hp) (x:V) (xs:List V) (v:Value) (us:List Value) (Q:VK),Inv X pins σ H s->RelV x v->Vals xs us->r x xs H Q ->
   wpAny (model X.prog X.w) X.A (call (.builtin id) (v::us)) (EP X pins σ Q) X.xe s
section
variable {X:Cx}{a b:Expr}{ta tb:TE}{pos:Pos}
theorem IxR.or {r r':R2} (h:IxR X r) (h':IxR X r'):IxR X (fun x y H Q=>r x y H Q∨r' x y H Q):=by
 intro value slice pins s σ H x y v u Q I rx ry q hs;rcases q with q|q
 · exact h value slice pins s σ H x y v u Q I rx ry q hs
 · exact h' value slice pins s σ H x y v u Q I rx ry q hs
theorem qI {r:R2} (hr:IxR X r) (ha:PE X a ta) (hb:PE X b tb) (hs:qjy b):PE X (.Subscript a b pos) (tOp r ta tb):=by
 intro pins s σ H Q I h;exact Subscript_ (qlz ha hb I h fun v u s2 x y H2 I2 rx ry q=>hr a b pins s2 σ H2 x y v u Q I2 rx ry q (hs _ _))
inductive qia (K:Frag) (x:V) (y:V) (H:Hp) (Q:VK):Prop
 | mk (p xs i v:_) (h1:x=.ref p) (h2:y=.int i) (h3:SqL K H p xs) (h4:atI xs i=some v) (h5:Q v H):qia K x y H Q
def qlK (K:Frag):R2:=fun x y H Q=>qia K x y H Q
inductive qh9 (K:Frag) (x:V) (y:V) (H:Hp) (Q:VK):Prop
 | mk (p xs i v:_) (h1:x=.ref p) (h2:y=.int i) (h3:SqT K H p xs) (h4:atI xs i=some v) (h5:Q v H):qh9 K x y H Q
def qlI (K:Frag):R2:=fun x y H Q=>qh9 K x y H Q
def qlJ:R2:=fun x y H Q=>∃ z i c,x=.str z∧y=.int i∧z.length≤sizeLine∧atI z.cps.toList i=some c∧Q (.str ⟨#[c]⟩) H
theorem ix_list:IxR X (qlK X.K):=by
 intro value slice pins s σ H x y v u Q I rx ry h hs;obtain⟨p,xs,i,z,rfl,rfl,hq,he,q⟩:=h;cases rx;obtain⟨t,rfl⟩:=ry;obtain⟨its,r,pl,hz⟩:=I.list hq;obtain⟨j,h1,h2,h3,h4,h5⟩:=qdP he;obtain⟨w,ew,rw'⟩:=r.get h2;have hl:=r.length;have hn:=qbA;have fin:EP X pins σ Q w s:=⟨z,H,I,rw',q⟩
 by_cases h0:0≤i
 · have hj:i.toNat=j:=by
     rw[seqIndex_of h0 h5]at h1;exact Option.some.inj h1
   exact item_listR pl.isList h0 (by omega) (by rw[hj];simpa using ew) fin hs
 · have hj:(i+(its.toArray.size:Int)).toNat=j:=by
     rw[seqIndex_neg (by omega) h4]at h1;rw[List.size_toArray,← hl];exact Option.some.inj h1
   exact subscriptTail_builtinR (x:=w) pl.isList.typeIs slot_list_getitem.lookup
     (wpAny_getItem_list_neg (Q:=fun r s'=>r=w∧EP X pins σ Q r s') pl.isList (by omega) (by rw[List.size_toArray]<;>omega) (by omega) (by rw[hj];simpa using ew) ⟨rfl,fin⟩) hs
theorem ix_tup:IxR X (qlI X.K):=by
 intro value slice pins s σ H x y v u Q I rx ry h hs;obtain⟨p,xs,i,z,rfl,rfl,hq,he,q⟩:=h;cases rx;obtain⟨t,rfl⟩:=ry;obtain⟨its,r,pl,hz⟩:=I.tuple hq;obtain⟨j,h1,h2,h3,h4,h5⟩:=qdP he;obtain⟨w,ew,rw'⟩:=r.get h2;have hl:=r.length;have hn:=qbA;have fin:EP X pins σ Q w s:=⟨z,H,I,rw',q⟩
 exact subscriptTail_builtinR (x:=w) pl.typeIs slot_tuple_getitem.lookup
   (getItem_tuple (j:=j) (Q:=fun r s'=>r=w∧EP X pins σ Q r s') pl (by omega) (by omega) (by rw[List.size_toArray,← hl];exact h1) (by simpa using ew) ⟨rfl,fin⟩) hs
theorem qkz:IxR X qlJ:=by
 intro value slice pins s σ H x y v u Q I rx ry h hs;obtain⟨z,i,c,rfl,rfl,hz,he,q⟩:=h;obtain⟨t,rfl⟩:=rx;obtain⟨t',rfl⟩:=ry;obtain⟨j,h1,h2,h3,h4,h5⟩:=qdP he;have hl:z.cps.toList.length=z.length:=by simp[Str.length]
 rw[hl]at h1 h4 h5;have hn:=qbA
 exact tail_any (typeIs_str s z t) slot_str_getitem.lookup (getItem_str (c:=c) (by
   have e1:decide (i < -(2 ^ 63:Int))=false:=decide_eq_false (by omega);have e2:decide (i ≥ 2 ^ 63)=false:=decide_eq_false (by omega)
   rw[e1,e2,Bool.or_false]) (by rw[h1];simpa using h2) ⟨.str ⟨#[c]⟩,H,I.tok _,⟨_,rfl⟩,q⟩) hs
def rIx (K:Frag):R2:=fun x y H Q=>qlK K x y H Q∨qlI K x y H Q∨qlJ x y H Q
theorem qx:IxR X (rIx X.K):=ix_list.or (ix_tup.or qkz)
theorem qeO (its:List Value) (n j:Nat) (u:Value):Obj.mapSeq (·.setIfInBounds j u) { cls:=.type "list",data:=.seq its.toArray n }={ cls:=.type "list",data:=.seq (its.set j u).toArray n }:=by
 simp[Obj.mapSeq]
theorem Inv.lst {pins:List (Addr×Obj)}{σ:St}{H:Hp}{s:Shared}{p:Addr}{xs:List V} (I:Inv X pins σ H s) (h:H p=some (.lst xs)) :
   ∃ (its:List Value) (n:Nat),Vals xs its∧s.heap.get? p=some { cls:=.type "list",data:=.seq its.toArray n }∧xs.length≤sizeLine:=by
 obtain⟨z,its,n,r,e⟩:=I.hok p _ h;exact⟨its,n,r,e,z⟩
theorem Inv.lstUpd {pins:List (Addr×Obj)}{σ:St}{H:Hp}{s:Shared}{p:Addr}{xs ys:List V}{its its':List Value}{n n':Nat}{f:Obj->Obj} (I:Inv X pins σ H s) (h:H p=some (.lst xs))
   (ho:s.heap.get? p=some { cls:=.type "list",data:=.seq its.toArray n }) (hf:f { cls:=.type "list",data:=.seq its.toArray n }={ cls:=.type "list",data:=.seq its'.toArray n' }) (r:Vals ys its') (hz:ys.length≤sizeLine) (t:Nat) :
   Inv X pins σ (upd H p (.lst ys)) { s with heap:=s.heap.update p f,toks:=t }:=by
 have e:(s.heap.update p f).get? p=some { cls:=.type "list",data:=.seq its'.toArray n' }:=by
   rw[Heap.get?_update_self f ho (by rw[hf]<;>rfl),hf]
 refine I.write (x:=p) (e:=p) (by rw[h];trivial) (.inl rfl) (fun b u hb q=>(Heap.get?_update_other _ _ (Ne.symm hb)).trans q) ⟨_,e⟩ ?_;exact⟨hz,its',n',r,e⟩
inductive qfO (o:V) (i:V) (v:V) (H:Hp) (Q:(Hp->Prop)):Prop
 | mk (p xs k j:_) (h1:o=.ref p) (h2:i=.int k) (h3:H p=some (.lst xs)) (h4:ixN xs.length k=some j) (h5:Q (upd H p (.lst (xs.set j v)))):qfO o i v H Q
def qlc:V->V->V->Hp->(Hp->Prop)->Prop:=fun o i v H Q=>qfO o i v H Q
theorem jG:qlV X qlc:=by
 intro pins s σ H o i v ov iv u Q I ro ri rv h;obtain⟨p,xs,k,j,rfl,rfl,hp,hj,q⟩:=h;cases ro;obtain⟨t,rfl⟩:=ri;obtain⟨its,n,r,ho,hz⟩:=I.lst hp;obtain⟨h1,h2,h3,h4⟩:=qgc hj;have hl:=r.length;have hn:=qbA
 have I':Inv X pins σ (upd H p (.lst (xs.set j v))) { s with heap:=s.heap.update p (Obj.mapSeq (·.setIfInBounds j u)) } :=
   I.lstUpd hp ho (qeO its n j u) (r.set rv j) (by rw[List.length_set];exact hz) s.toks
 by_cases h0:0≤k
 · have hk:k.toNat=j:=by
     rw[seqIndex_of h0 h4]at h1;exact Option.some.inj h1
   exact PySem.W.ki_setAt ho h0 (by omega) (by rw[List.size_toArray,← hl];exact h4) (by rw[hk];exact⟨_,I',q⟩)
 · have hk:(k+(its.toArray.size:Int)).toNat=j:=by
     rw[seqIndex_neg (by omega) h3]at h1;rw[List.size_toArray,← hl];exact Option.some.inj h1
   exact PySem.W.ki_setBack ho (by omega) (by rw[List.size_toArray,← hl];exact h3) (by omega) (by rw[hk];exact⟨_,I',q⟩)
theorem tn_ (n:Nat):((-1:Int)+(n:Int)).toNat=n - 1:=by
 rw[Int.add_comm];exact Int.toNat_sub n 1
theorem qhZ (i:Int) (n:Nat):max 0 (min (if i < 0 then i+(n:Int) else i) (n:Int))=((if i < 0 then (i+(n:Int)).toNat else min i.toNat n:Nat):Int):=by
 by_cases h:i < 0
 · have h':i+(n:Int)≤n:=by have:=Int.add_le_add_right (Int.le_of_lt h) n;rwa [Int.zero_add]at this
   rw[if_pos h,if_pos h,Int.min_eq_left h',Int.ofNat_toNat,Int.max_comm]
 · obtain⟨k,rfl⟩:=Int.eq_ofNat_of_zero_le (Int.not_lt.mp h);rw[if_neg h,if_neg h,Int.toNat_natCast];rcases Nat.le_total k n with g|g
   · rw[Nat.min_eq_left g,Int.min_eq_left (Int.ofNat_le.mpr g),Int.max_eq_right (Int.natCast_nonneg _)]
   · rw[Nat.min_eq_right g,Int.min_eq_right (Int.ofNat_le.mpr g),Int.max_eq_right (Int.natCast_nonneg _)]
theorem qcr (lo hi:Option Int) (n:Nat):(sliceBounds lo hi none n).1=((HT.sIx n 0 lo:Nat):Int)∧(sliceBounds lo hi none n).2.1=((HT.sIx n n hi:Nat):Int)∧(sliceBounds lo hi none n).2.2=1:=by
 refine⟨?_,?_,rfl⟩
 · cases lo with
   | none=>simp[sliceBounds,HT.sIx]
   | some i =>
     simp only[sliceBounds,HT.sIx,Option.getD_none,show (1:Int) > 0 by decide,if_true];exact qhZ i n
 · cases hi with
   | none=>simp[sliceBounds,HT.sIx]
   | some i =>
     simp only[sliceBounds,HT.sIx,Option.getD_none,show (1:Int) > 0 by decide,if_true];exact qhZ i n
theorem qbM (its:List Value) (lo hi:Option Int):slicePick its.toArray lo hi none=((its.drop (HT.sIx its.length 0 lo)).take (HT.sIx its.length its.length hi - HT.sIx its.length 0 lo)).toArray:=by
 obtain⟨h1,h2,h3⟩:=qcr lo hi its.toArray.size;unfold slicePick;rw[h1,h2,h3];simp only[sliceRange_one,pick_run,List.size_toArray]<;>rfl
inductive qh6 (K:Frag) (x:V) (lo:Option Int) (hi:Option Int) (H:Hp) (Q:VK):Prop
 | mk (a xs:_) (h1:x=.ref a) (h2:SqL K H a xs) (h3:∀ p,H p=none->Q (.ref p) (upd H p (.lst (qjG xs lo hi)))):qh6 K x lo hi H Q
def qlG (K:Frag):V->Option Int->Option Int->Hp->VK->Prop:=fun x lo hi H Q=>qh6 K x lo hi H Q
theorem sl_list:SlR X (qlG X.K):=by
 intro pins s σ H x v vl vu lo hi sl Q I rx hs pl pu h;obtain⟨a,xs,rfl,hx,q⟩:=h;cases rx;obtain⟨its,r,ht,hz⟩:=I.list hx;have hlen:=r.length;refine⟨"list",_,slot_list_getitem.lookup,ht.isList.typeIs,?_⟩;refine wpAny_getItem_list_slice ht.isList hs pl pu .none (by simp) ?_ (by rw[List.size_toArray]<;>omega);rw[qbM,← hlen];refine⟨.ref s.heap.objs.size,_,I.laid (t':=s.toks) (o:=.lst (qjG xs lo hi)) (fun b ob q=>Heap.get?_push_of_some _ q) (Nat.le_refl _) ?_,rfl,q _ (I.hok.fresh (Nat.le_refl _))⟩;exact⟨Nat.le_trans (qdO xs lo hi) hz,_,0,(r.drop (HT.sIx xs.length 0 lo)).take (HT.sIx xs.length xs.length hi - HT.sIx xs.length 0 lo),Heap.get?_push_size _ rfl⟩
def qaO:V->Bool
 | .non=>true
 | .bl _=>true
 | .int _=>true
 | .str _=>true
 | _=>false
def eqV:V->V->Bool
 | .non,.non=>true
 | .bl a,.bl b=>a == b
 | .bl a,.int b=>(if a then 1 else 0) == b
 | .int a,.bl b=>a == (if b then 1 else 0)
 | .int a,.int b=>a == b
 | .str a,.str b=>a == b
 | _,_=>false
theorem qkG {A:Around}{s:Shared}{y x:V}{u v:Value} (ry:RelV y u) (rx:RelV x v) (fy:qaO y=true) (fx:qaO x=true):SeqAt.EqAt A s u v (eqV y x):=by
 cases y with
 | non =>
   cases ry
   cases x with
   | non=>cases rx;exact SeqAt.EqAt.same _
   | bl b=>cases rx;exact SeqAt.EqAt.none_bool b
   | int b=>obtain⟨t,rfl⟩:=rx;exact SeqAt.EqAt.none_int b t
   | str b=>obtain⟨t,rfl⟩:=rx;exact SeqAt.EqAt.none_str b t
   | _=>exact absurd (show false=true from fx) Bool.false_ne_true
 | bl a =>
   cases ry
   cases x with
   | non=>cases rx;exact SeqAt.EqAt.bool_none a
   | bl b=>cases rx;exact SeqAt.EqAt.bool_bool a b
   | int b=>obtain⟨t,rfl⟩:=rx;exact SeqAt.EqAt.bool_int a b t
   | str b=>obtain⟨t,rfl⟩:=rx;exact SeqAt.EqAt.bool_str a b t
   | _=>exact absurd (show false=true from fx) Bool.false_ne_true
 | int a =>
   obtain⟨t',rfl⟩:=ry
   cases x with
   | non=>cases rx;exact SeqAt.EqAt.int_none a t'
   | bl b=>cases rx;exact SeqAt.EqAt.int_bool a t' b
   | int b=>obtain⟨t,rfl⟩:=rx;exact SeqAt.EqAt.int_int a t' b t
   | str b=>obtain⟨t,rfl⟩:=rx;exact SeqAt.EqAt.int_str a t' b t
   | _=>exact absurd (show false=true from fx) Bool.false_ne_true
 | str a =>
   obtain⟨t',rfl⟩:=ry
   cases x with
   | non=>cases rx;exact SeqAt.EqAt.str_none a t'
   | bl b=>cases rx;exact SeqAt.EqAt.str_bool a t' b
   | int b=>obtain⟨t,rfl⟩:=rx;exact SeqAt.EqAt.str_int a t' b t
   | str b=>obtain⟨t,rfl⟩:=rx;exact SeqAt.EqAt.str_str a t' b t
   | _=>exact absurd (show false=true from fx) Bool.false_ne_true
 | _=>exact absurd (show false=true from fy) Bool.false_ne_true
def eqU (x:V) (u:Value):Bool:=match u with
 | .none=>eqV .non x
 | .bool b=>eqV (.bl b) x
 | .int i _=>eqV (.int i) x
 | .str z _=>eqV (.str z) x
 | _=>false
theorem qgp {x y:V}{u:Value} (r:RelV y u) (f:qaO y=true):eqU x u=eqV y x:=by
 cases y with
 | non=>cases r;rfl
 | bl b=>cases r;rfl
 | int i=>obtain⟨t,rfl⟩:=r;rfl
 | str z=>obtain⟨t,rfl⟩:=r;rfl
 | _=>exact absurd (show false=true from f) Bool.false_ne_true
theorem qdQ {x:V}:∀ {xs:List V}{us:List Value},Vals xs us->xs.all qaO=true->us.any (eqU x)=xs.any fun y=>eqV y x
 | _,_,.nil,_=>rfl
 | y::xs,u::us,.cons r t,f=>by
   rw[List.all_cons,Bool.and_eq_true]at f;rw[List.any_cons,List.any_cons,qgp r f.1,qdQ t f.2]
theorem JS {A:Around}{s:Shared}{x:V}{v:Value} (rx:RelV x v) (fx:qaO x=true):∀ {xs:List V}{us:List Value},Vals xs us->xs.all qaO=true->∀ u∈us,SeqAt.EqAt A s u v (eqU x u)
 | _,_,.nil,_=>fun u hu=>by cases hu
 | y::xs,u::us,.cons r t,f=>fun u' hu=>by
   rw[List.all_cons,Bool.and_eq_true]at f;rcases List.mem_cons.mp hu with rfl|hu
   · rw[qgp r f.1];exact qkG r rx f.1 fx
   · exact JS rx fx t f.2 u' hu
def inV (x:V) (xs:List V):Bool:=xs.any fun y=>eqV y x
inductive qj7 (K:Frag) (neg:Bool) (x:V) (y:V) (H:Hp) (Q:VK):Prop
 | mk (p xs:_) (h1:y=.ref p) (h2:(SqL K H p xs∨SqT K H p xs)) (h3:qaO x=true) (h4:xs.all qaO=true) (h5:Q (.bl (if neg then !inV x xs else inV x xs)) H):qj7 K neg x y H Q
def rIn (K:Frag) (neg:Bool):R2:=fun x y H Q=>qj7 K neg x y H Q
theorem qcM:OpR X (compareOp .NotIn) (rIn X.K true):=by
 intro pins s σ H x y v u Q I rx ry h;obtain⟨p,xs,rfl,hq,fx,fs,q⟩:=h;cases ry;rcases hq with hq|hq
 · obtain⟨its,r,pl,hz⟩:=I.list hq;refine SeqAt.notIn_listAt (eqU x) pl.isList (fun w hw=>JS rx fx r fs w (by simpa using hw)) ⟨.bl _,H,I,rfl,?_⟩;rw[show its.toArray.any (eqU x)=its.any (eqU x) by simp,qdQ r fs];exact q
 · obtain⟨its,r,pl,hz⟩:=I.tuple hq;refine SeqAt.notIn_tupleAt (eqU x) pl (fun w hw=>JS rx fx r fs w (by simpa using hw)) ⟨.bl _,H,I,rfl,?_⟩;rw[show its.toArray.any (eqU x)=its.any (eqU x) by simp,qdQ r fs];exact q
theorem CallR.or {f:Value}{r r':List V->Hp->VK->Prop} (h:CallR X f r) (h':CallR X f r'):CallR X f (fun xs H Q=>r xs H Q∨r' xs H Q):=by
 intro pins s σ H xs us Q I rs q;rcases q with q|q
 · exact h pins s σ H xs us Q I rs q
 · exact h' pins s σ H xs us Q I rs q
theorem zl:CallR X (.type "list") (fun xs H Q=>∃ p ys,xs=[.ref p]∧(SqL X.K H p ys∨SqT X.K H p ys)∧∀ l,H l=none->Q (.ref l) (upd H l (.lst ys))):=by
 intro pins s σ H xs us Q I r h;obtain⟨p,ys,rfl,hq,q⟩:=h;obtain⟨u,rfl,rx⟩:=JH r;cases rx;have fin:∀ (its:List Value),Vals ys its->ys.length≤sizeLine->∀ (h':Heap) (c':Nat),(∀ b o',s.heap.get? b=some o'->h'.get? b=some o') ->
     h'.get? s.heap.objs.size=some { cls:=.type "list",dict:=none,data:=.seq its.toArray c',slots:=#[] }->EP X pins σ Q (.ref s.heap.objs.size) { s with heap:=h' }:=fun its r' hz h' c' kp e =>
   ⟨.ref s.heap.objs.size,_,I.laid (t':=s.toks) kp (Nat.le_refl _) (show ObjOk X.prog X.w _ h' _ (.lst ys) from ⟨hz,its,c',r',e⟩),rfl,q _ (I.hok.fresh (Nat.le_refl _))⟩
 rcases hq with hq|hq
 · obtain⟨its,r',pl,hz⟩:=I.list hq;have hlen:=r'.length;obtain⟨o,ho,hc,n,hd⟩:=pl.isList;exact call_list_seq p (.inl rfl) ho hc hd (fun h' c' kp e=>fin its r' hz h' c' kp e) (by simp only[List.size_toArray]<;>omega)
 · obtain⟨its,r',pl,hz⟩:=I.tuple hq;have hlen:=r'.length;obtain⟨o,ho,hc,n,hd⟩:=pl;exact call_list_seq p (.inr rfl) ho hc hd (fun h' c' kp e=>fin its r' hz h' c' kp e) (by simp only[List.size_toArray]<;>omega)
def tyV (K:Frag) (T:String) (x:V) (H:Hp):Prop:=match x with
 | .str _=>T="str"
 | .int _=>T="int"
 | .ref p=>(T="list"∧∃ xs,SqL K H p xs)∨(T="tuple"∧∃ o,K.lookup p=some o∧o.cls=.type "tuple"∧o.dict=none) ∨
     (T="dict"∧((∃ kvs,H p=some (.dK kvs))∨∃ kvs,H p=some (.dT kvs)))∨(T="set"∧∃ S n,H p=some (.set S n))
 | _=>False
theorem qjL {pins:List (Addr×Obj)}{σ:St}{H:Hp}{s:Shared}{T:String}{x:V}{v:Value} (I:Inv X pins σ H s) (r:RelV x v) (ty:tyV X.K T x H) :
   s.TypeIs v T∧∀ a,v=.ref a->∃ ob,s.heap.get? a=some ob∧ob.dict=none:=by
 cases x with
 | str z =>
   obtain⟨t,rfl⟩:=r;cases (show T="str" from ty);exact⟨typeIs_str s z t,fun _ e=>nomatch e⟩
 | int i =>
   obtain⟨t,rfl⟩:=r;cases (show T="int" from ty);exact⟨typeIs_int s i t,fun _ e=>nomatch e⟩
 | ref p =>
   cases r;rcases ty with ⟨rfl,xs,hq⟩|⟨rfl,o,hk,hc,hd⟩|⟨rfl,hk⟩|⟨rfl,S,n,hk⟩
   · obtain⟨its,_,pl,_⟩:=I.list hq;refine⟨pl.isList.typeIs,fun a e=>?_⟩;cases e;obtain⟨o,n,e,c,hd,_⟩:=pl;exact⟨o,e,hd⟩
   · refine⟨⟨o,I.kIn p o hk,hc⟩,fun a e=>?_⟩;cases e;exact⟨o,I.kIn _ o hk,hd⟩
   · have z:∃ o,s.heap.get? p=some o∧o.ExactDict:=by
       rcases hk with ⟨kvs,hk⟩|⟨kvs,hk⟩
       · obtain⟨_,_,_,_,o,_,_,e,ex,_⟩:=I.hok p _ hk;exact⟨o,e,ex⟩
       · obtain⟨_,_,_,_,o,_,_,e,ex,_⟩:=I.hok p _ hk;exact⟨o,e,ex⟩
     obtain⟨o,e,ex⟩:=z;refine⟨⟨o,e,ex.1⟩,fun a e2=>?_⟩;cases e2;exact⟨o,e,ex.2.1⟩
   · obtain⟨o,_,_,_,e,ex,_⟩:=I.hok p _ hk;refine⟨⟨o,e,ex.1⟩,fun a e2=>?_⟩;cases e2;exact⟨o,e,ex.2.1⟩
 | _=>exact False.elim ty
def tBM (K:Frag) (T:String) (r:V->List V->Hp->VK->Prop) (to:TE) (t:TA):TE:=fun σ H Q=>to σ H fun x H1=>tyV K T x H1∧t σ H1 fun xs H2=>r x xs H2 Q
variable {o e:Expr}{es:List Expr}{to:TE}{t:TA}{name:Str}{apos cpos:Pos}{T id:String}{r:V->List V->Hp->VK->Prop}
theorem Zk (pa:PlainAttrs T) (slot:Slot T name id) (hty:typeOf (.builtin id)=pure (.type "method_descriptor")) (hm:MtR X id r) (ho:PE X o to) (ha:PA X (e::es) t)
   (hbase:attributeBase o name X.env (eval o X.env)=eval o X.env:=by rfl)
   (hfew:((backTo cpos (starEach (e::es) X.env)).all (fun x=>!x.1) && (backToKw cpos (keywordEach [] X.env)).all (fun x=>x.1.isSome)
     && decide ((e::es).length+([]:List Keyword).length+(if ([]:List Keyword).isEmpty then 0 else 1) < 30))=true:=by rfl)
   (hline:(apos.endLine == cpos.line)=true:=by rfl) (hs:starEach (e::es) X.env=(false,eval e X.env)::starEach es X.env:=by rfl) (hplain:(backTo cpos (starEach es X.env)).any (·.1)=false:=by rfl) :
   PE X (.Call (.Attribute o name apos) (e::es) [] cpos) (tBM X.K T r to t):=by
 intro pins s σ H Q I h;refine wpAny_Call_method_late hbase hfew hline rfl (thn (ho pins s σ H _ I h) fun v s1 zz_=>?_);obtain⟨x,H1,I1,r1,ty,q1⟩:=zz_;obtain⟨h1,h2⟩:=qjL I1 r1 ty;refine⟨T,id,pa,slot,hty,h1,h2,?_⟩;have hA:=ha cpos pins s1 σ H1 _ I1 q1;rw[hs]at hA ⊢;refine Calls.callWith_builtin (by show (false || (backTo cpos (starEach es X.env)).any (·.1))=false;rw[hplain]<;>rfl) (Calls.evalArgs_plain ?_);exact thn hA fun us s2 ⟨vs,H2,I2,r2,q2⟩=>hm pins s2 σ H2 x vs v us Q I2 r1 r2 q2
end
def MtM (X:Cx) (id:String) (r:V->List V->Hp->VK->Prop):Prop :=
 ∀ (pins:List (Addr×Obj)) (s:Shared) (σ:St) (H:Hp) (x:V) (xs:List V) (v:Value) (us:List Value) (Q:VK),Inv X pins σ H s->RelV x v->Vals xs us->r x xs H Q ->
   wpAny (model X.prog X.w) X.A (call (.builtin id) (v::us)) (EP X pins σ Q) X.xe s
theorem Vals.one {x:V}{us:List Value} (h:Vals [x] us):∃ u,us=[u]∧RelV x u:=by
 cases h with
 | cons r t=>cases t;exact⟨_,rfl,r⟩
theorem Vals.eraseIdx:∀ {xs:List V}{us:List Value} (i:Nat),Vals xs us->Vals (xs.eraseIdx i) (us.eraseIdx i)
 | _,_,_,.nil=>.nil
 | _,_,0,.cons _ t=>t
 | _,_,i+1,.cons r t=>.cons r (Vals.eraseIdx i t)
theorem qc0 {α:Type}:∀ (l:List α) (i:Nat),(l.eraseIdx i).length≤l.length
 | [],_=>Nat.le_refl _
 | _::_,0=>Nat.le_succ _
 | _::r,i+1=>Nat.succ_le_succ (qc0 r i)
section
variable {X:Cx}{pins:List (Addr×Obj)}{σ:St}{H:Hp}{s:Shared}{l b:Addr}{xs ys zs:List V}
theorem Inv.lset {its its':List Value}{n:Nat}{f:Array Value->Array Value}{t':Nat} (I:Inv X pins σ H s) (hH:H l=some (.lst xs))
   (e:s.heap.get? l=some { cls:=.type "list",data:=.seq its.toArray n }) (hf:f its.toArray=its'.toArray) (hv:Vals ys its') (hz:ys.length≤sizeLine) :
   Inv X pins σ (upd H l (.lst ys)) { s with heap:=s.heap.update l (Obj.mapSeq f),toks:=t' }:=by
 have q:=PySem.IsL.update e f;rw[hf]at q;refine I.write (x:=l) (e:=l) (by rw[hH];exact trivial) (.inl rfl) (fun b' u hb hu=>(Heap.get?_update_other s.heap (Obj.mapSeq f) (Ne.symm hb)).trans hu) ⟨_,q⟩ ?_;exact⟨hz,its',_,hv,q⟩
theorem Inv.lnew {its:List Value}{t':Nat} (I:Inv X pins σ H s) (hv:Vals ys its) (hz:ys.length≤sizeLine) :
   Inv X pins σ (upd H s.heap.objs.size (.lst ys)) { s with heap:=s.heap.push { cls:=.type "list",data:=.seq its.toArray },toks:=t' } :=
 I.laid (fun _ _ q=>Heap.get?_push_of_some _ q) (Nat.le_refl _) ⟨hz,its,0,hv,Heap.get?_push_size _ rfl⟩
theorem Inv.fresh (I:Inv X pins σ H s):H s.heap.objs.size=none:=I.hok.fresh (Nat.le_refl _)
theorem Inv.lstM (I:Inv X pins σ H s) (hH:H l=some (.lst xs)):xs.length≤sizeLine∧∃ (its:List Value) (n:Nat),Vals xs its∧xs.length=its.length∧s.heap.get? l=some { cls:=.type "list",data:=.seq its.toArray n }:=by
 obtain⟨z,its,n,r,e⟩:=I.hok l _ hH;exact⟨z,its,n,r,r.length,e⟩
theorem qhm {n:Nat} (h:n≤sizeLine):Builtin.List.listTooLong n=false:=by
 unfold Builtin.List.listTooLong;exact decide_eq_false (by omega)
end
section
variable {X:Cx}
inductive qcG (x:V) (vs:List V) (H:Hp) (Q:VK):Prop
 | mk (l xs y:_) (h1:x=.ref l) (h2:vs=[y]) (h3:H l=some (.lst xs)) (h4:xs.length < sizeLine) (h5:Q .non (upd H l (.lst (xs++[y])))):qcG x vs H Q
def qi3:V->List V->Hp->VK->Prop:=fun x vs H Q=>qcG x vs H Q
theorem zc:MtM X "list.append" qi3:=by
 intro pins s σ H x vs v us Q I rx rv h;obtain⟨l,xs,y,rfl,rfl,hH,hz,q⟩:=h;cases rx;obtain⟨u,rfl,ru⟩:=rv.one;obtain⟨z,its,n,r,hl,e⟩:=I.lstM hH;refine call_meets F.slot_list_append ⟨_,e,rfl⟩ F.entry_list_append (F.args_list_append_2 _ _) (PySem.list_append l its.toArray n u (by rw[List.size_toArray];omega)) ⟨e,?_⟩;refine⟨.non,_,I.lset (its':=its++[u]) hH e (by simp) (r.append (.cons ru .nil)) ?_,rfl,q⟩;rw[List.length_append,List.length_singleton];omega
def qi2:V->List V->Hp->VK->Prop:=fun x vs H Q=>∃ l b xs zs,x=.ref l∧vs=[.ref b]∧H l=some (.lst xs)∧H b=some (.lst zs)∧xs.length+zs.length≤sizeLine∧Q .non (upd H l (.lst (xs++zs)))
theorem qcX:MtM X "list.extend" qi2:=by
 intro pins s σ H x vs v us Q I rx rv h;obtain⟨l,b,xs,zs,rfl,rfl,hH,hB,hz,q⟩:=h;cases rx;obtain⟨u,rfl,ru⟩:=rv.one;cases ru;obtain⟨z,its,n,r,hl,e⟩:=I.lstM hH;obtain⟨z2,its2,n2,r2,hl2,e2⟩:=I.lstM hB;have hsz:its.toArray.size+its2.toArray.size≤sizeLine:=by rw[List.size_toArray,List.size_toArray];omega
 have hlong:¬ (!its.toArray.isEmpty && Builtin.List.listTooLong (its.toArray.size+its2.toArray.size))=true:=by
   rw[qhm hsz,Bool.and_false];exact Bool.false_ne_true
 refine call_meets F.slot_list_extend ⟨_,e,rfl⟩ F.entry_list_extend (F.args_list_extend_2 _ _)
   (AutoSeq1.list_extend_list_list_0 l its.toArray n b its2.toArray n2 hlong (by rw[List.size_toArray];omega) (by omega)) ⟨e,e2,?_⟩
 refine⟨.non,_,I.lset (its':=its++its2) hH e (by simp) (r.append r2) ?_,rfl,q⟩;rw[List.length_append];omega
def qj5:V->List V->Hp->VK->Prop:=fun x vs H Q=>∃ l xs i k y,x=.ref l∧vs=[.int i]∧H l=some (.lst xs)∧-(2 ^ 63)≤i∧i < 2 ^ 63∧seqIndex? i xs.length=some k∧xs[k]?=some y∧Q y (upd H l (.lst (xs.eraseIdx k)))
theorem qho:MtM X "list.pop" qj5:=by
 intro pins s σ H x vs v us Q I rx rv h;obtain⟨l,xs,i,k,y,rfl,rfl,hH,h1,h2,hk,hy,q⟩:=h;cases rx;obtain⟨u,rfl,ru⟩:=rv.one;obtain⟨t,rfl⟩:=ru;obtain⟨z,its,n,r,hl,e⟩:=I.lstM hH;obtain⟨w,hw,rw'⟩:=r.get hy;refine call_meets F.slot_list_pop ⟨_,e,rfl⟩ F.entry_list_pop (F.args_list_pop_2 _ _)
   (MeetsSeq.list_pop_at l its.toArray n i t k w (fitsIndex_both h1 h2) (by rw[List.size_toArray,← hl];exact hk) (by rw[← Array.getElem?_toList];exact hw) (by rw[List.size_toArray];omega)) ⟨e,?_⟩
 refine⟨y,_,I.lset (its':=its.eraseIdx k) hH e ?_ (r.eraseIdx k) ?_,rw',q⟩
 · show its.toArray.eraseIdxIfInBounds k=(its.eraseIdx k).toArray;rw[List.eraseIdxIfInBounds_toArray]
 · have:=qc0 xs k
   omega
inductive qid (x:V) (y:V) (H:Hp) (Q:VK):Prop
 | mk (l b xs zs:_) (h1:x=.ref l) (h2:y=.ref b) (h3:H l=some (.lst xs)) (h4:H b=some (.lst zs)) (h5:xs.length+zs.length≤sizeLine) (h6:∀ p,H p=none->Q (.ref p) (upd H p (.lst (xs++zs)))):qid x y H Q
def qlN:R2:=fun x y H Q=>qid x y H Q
theorem op_cat:OpR X (binaryOp .Add) qlN:=by
 intro pins s σ H x y v u Q I rx ry h;obtain⟨l,b,xs,zs,rfl,rfl,hH,hB,hz,q⟩:=h;cases rx;cases ry;obtain⟨z,its,n,r,hl,e⟩:=I.lstM hH;obtain⟨z2,its2,n2,r2,hl2,e2⟩:=I.lstM hB;refine PySem.P.add_list e e2 ?_ (by rw[List.size_toArray,List.size_toArray];omega);have ea:its.toArray++its2.toArray=(its++its2).toArray:=by simp
 rw[ea];exact⟨.ref _,_,I.lnew (t':=s.toks) (r.append r2) (by rw[List.length_append];omega),rfl,q _ I.fresh⟩
end
section
variable {κ:Type} [DecidableEq κ]
def qch (kvs:List (κ×V)) (k:κ):Option V:=(kvs.find? fun kv=>decide (kv.1=k)).map (·.2)
def qce (kvs:List (κ×V)) (k:κ) (v:V):List (κ×V) :=
 if (kvs.any fun kv=>decide (kv.1=k))=true then kvs.map (fun kv=>if kv.1=k then (kv.1,v) else kv) else kvs++[(k,v)]
def qdK (kvs:List (κ×V)) (k:κ):List (κ×V):=kvs.filter fun kv=>decide (kv.1≠k)
theorem qbG {p:κ×V}{r:List (κ×V)}{k:κ} (e:p.1=k):qch (p::r) k=some p.2:=by simp[qch,List.find?_cons,e]
theorem qbH {p:κ×V}{r:List (κ×V)}{k:κ} (e:¬ p.1=k):qch (p::r) k=qch r k:=by simp[qch,List.find?_cons,e]
theorem qbI (k:κ):∀ kvs:List (κ×V),(kvs.any fun kv=>decide (kv.1=k))=(qch kvs k).isSome
 | []=>rfl
 | p::r=>by
   rw[List.any_cons];by_cases e:p.1=k
   · simp only[qbG e,decide_eq_true e,Bool.true_or,Option.isSome_some]
   · rw[qbH e,decide_eq_false e,Bool.false_or];exact qbI k r
theorem qaF (kvs:List (κ×V)) (k:κ) (v:V):(qce kvs k v).length≤kvs.length+1:=by
 unfold qce;split
 · rw[List.length_map];omega
 · rw[List.length_append,List.length_cons,List.length_nil];omega
theorem qg5 {kvs:List (κ×V)}{k:κ} (v:V) (h:qch kvs k=none):qce kvs k v=kvs++[(k,v)]:=by
 unfold qce;rw[qbI,h];exact if_neg (by decide)
theorem RelO.isSome_eq {o:Option V}{u:Option Value} (r:RelO o u):o.isSome=u.isSome:=by
 cases o with
 | none=>cases u with
   | none=>rfl
   | some _=>exact(show False from r).elim
 | some _=>cases u with
   | none=>exact(show False from r).elim
   | some _=>rfl
theorem KV.val {kvs:List (κ×V)}{vs:List (κ×Value)} (r:KV kvs vs) (k:κ):RelO (qch kvs k) (valueAt vs k):=by
 unfold KV at r
 induction r with
 | nil=>exact True.intro
 | @cons p q ps qs h t ih =>
   obtain⟨h1,h2⟩:=h;by_cases e:p.1=k
   · have e':q.1=k:=h1.symm.trans e;have b:valueAt (q::qs) k=some q.2:=by simp[valueAt,List.find?_cons,e']
     rw[qbG e,b];exact h2
   · have e':¬ q.1=k:=fun z=>e (h1.trans z);have b:valueAt (q::qs) k=valueAt qs k:=by simp[valueAt,List.find?_cons,e']
     rw[qbH e,b];exact ih
theorem KV.any {kvs:List (κ×V)}{vs:List (κ×Value)} (r:KV kvs vs) (k:κ):(kvs.any fun kv=>decide (kv.1=k))=vs.any fun kv=>decide (kv.1=k):=by
 unfold KV at r
 induction r with
 | nil=>rfl
 | cons h t ih=>rw[List.any_cons,List.any_cons,ih,h.1]
theorem KV.repl {kvs:List (κ×V)}{vs:List (κ×Value)} (r:KV kvs vs) (k:κ) {y:V}{u:Value} (ry:RelV y u) :
   KV (kvs.map fun kv=>if kv.1=k then (kv.1,y) else kv) (vs.map fun kv=>if kv.1=k then (kv.1,u) else kv):=by
 unfold KV at r ⊢
 induction r with
 | nil=>exact .nil
 | @cons p q ps qs h t ih =>
   rw[List.map_cons,List.map_cons];refine .cons ?_ ih;obtain⟨h1,h2⟩:=h;by_cases e:p.1=k
   · rw[if_pos e,if_pos (h1.symm.trans e)];exact⟨h1,ry⟩
   · rw[if_neg e,if_neg (fun z=>e (h1.trans z))];exact⟨h1,h2⟩
theorem KV.put {kvs:List (κ×V)}{vs:List (κ×Value)} (r:KV kvs vs) (k:κ) {y:V}{u:Value} (ry:RelV y u):KV (qce kvs k y) (stored vs k u):=by
 unfold qce stored;rw[r.any k];by_cases e:(vs.any fun kv=>decide (kv.1=k))=true
 · rw[if_pos e,if_pos e];exact r.repl k ry
 · rw[if_neg e,if_neg e];exact Paired.snoc r ⟨rfl,ry⟩
theorem KV.drop {kvs:List (κ×V)}{vs:List (κ×Value)} (r:KV kvs vs) (k:κ):KV (qdK kvs k) (without vs k):=by
 unfold KV at r ⊢;unfold qdK without
 induction r with
 | nil=>exact .nil
 | @cons p q ps qs h t ih =>
   obtain⟨h1,h2⟩:=h;rw[List.filter_cons,List.filter_cons];by_cases e:p.1=k
   · have a:¬ decide (p.1≠k)=true:=by simp[e]
     have b:¬ decide (q.1≠k)=true:=by simp[h1.symm.trans e]
     rw[if_neg a,if_neg b];exact ih
   · have e':¬ q.1=k:=fun z=>e (h1.trans z);have a:decide (p.1≠k)=true:=by simp[e]
     have b:decide (q.1≠k)=true:=by simp[e']
     rw[if_pos a,if_pos b];exact .cons ⟨h1,h2⟩ ih
theorem KV.length {kvs:List (κ×V)}{vs:List (κ×Value)} (r:KV kvs vs):kvs.length=vs.length:=Paired.length r
theorem qhG (kvs:List (κ×V)) (k:κ):(qdK kvs k).length≤kvs.length:=List.length_filter_le _ _
end
theorem qeS {P:Program}{w:World}{k:Key}{u:Value} (r:RelV (kV k) u):(zF P w).is k u=true:=by
 cases k with
 | inl i=>obtain⟨t,e⟩:=(show ∃ t,u=Value.int i t from r);subst e;exact qdE P w i t
 | inr x=>obtain⟨t,e⟩:=(show ∃ t,u=Value.str x t from r);subst e;exact qdD P w x t
theorem qc2 {P:Program}{w:World}:∀ {ks:List Key}{us:List Value},Vals (ks.map kV) us->ItemsAre (zF P w) ks us
 | [],_,r=>by rw[List.map_nil]at r;cases r;exact .nil
 | k::ks,_,r=>by
   rw[List.map_cons]at r
   cases r with
   | cons h t=>exact .cons (qeS h) (qc2 t)
abbrev KT (H:Hp):List (List Key×V)->List (List Key×Addr×Value)->Prop:=Paired fun p q=>p.1=q.1∧H q.2.1=some (.tup (p.1.map kV))∧RelV p.2 q.2.2
theorem KT.val {H:Hp}{kvs:List (List Key×V)}{xs:List (List Key×Addr×Value)} (r:KT H kvs xs) (k:List Key):RelO (qch kvs k) ((atKey xs k).map (·.2)):=by
 induction r with
 | nil=>exact True.intro
 | @cons p q ps qs h t ih =>
   obtain⟨h1,_,h2⟩:=h;by_cases e:p.1=k
   · have e':q.1=k:=h1.symm.trans e;have b:atKey (q::qs) k=some q.2:=by simp[atKey,List.find?_cons,e']
     rw[qbG e,b];exact h2
   · have e':¬ q.1=k:=fun z=>e (h1.trans z);have b:atKey (q::qs) k=atKey qs k:=by simp[atKey,List.find?_cons,e']
     rw[qbH e,b];exact ih
theorem KT.repl {H:Hp}{kvs:List (List Key×V)}{xs:List (List Key×Addr×Value)} (r:KT H kvs xs) (k:List Key) {y:V}{u:Value} (ry:RelV y u) :
   KT H (kvs.map fun kv=>if kv.1=k then (kv.1,y) else kv) (xs.map (putAt k u)):=by
 induction r with
 | nil=>exact .nil
 | @cons p q ps qs h t ih =>
   rw[List.map_cons,List.map_cons];refine .cons ?_ ih;obtain⟨h1,h2,h3⟩:=h;unfold putAt;by_cases e:p.1=k
   · rw[if_pos e,if_pos (h1.symm.trans e)];exact⟨h1,h2,ry⟩
   · rw[if_neg e,if_neg (fun z=>e (h1.trans z))];exact⟨h1,h2,h3⟩
theorem KT.put {H:Hp}{kvs:List (List Key×V)}{xs:List (List Key×Addr×Value)} (r:KT H kvs xs) (k:List Key) {b:Addr}{y:V}{u:Value} (hb:H b=some (.tup (k.map kV))) (ry:RelV y u) :
   KT H (qce kvs k y) (storedH xs k b u):=by
 have e:(kvs.any fun kv=>decide (kv.1=k))=(atKey xs k).isSome:=by
   rw[qbI,(r.val k).isSome_eq,Option.isSome_map]
 unfold qce storedH;rw[e];by_cases q:(atKey xs k).isSome=true
 · rw[if_pos q,if_pos q];exact r.repl k ry
 · rw[if_neg q,if_neg q];exact Paired.snoc r ⟨rfl,hb,ry⟩
theorem KT.keeps {H H':Hp}{kvs:List (List Key×V)}{xs:List (List Key×Addr×Value)} (r:KT H kvs xs) (ht:∀ b ys,H b=some (.tup ys)->H' b=some (.tup ys)):KT H' kvs xs :=
 Paired.mapP r fun _ _ z=>⟨z.1,ht _ _ z.2.1,z.2.2⟩
section
variable {P:Program}{w:World}{H:Hp}{h:Heap}{a:Addr}
theorem qj3 {u:HO} (ok:HOk P w H h) (e:Rd H a u):ObjOk P w H h a u:=e.ok ok
theorem qda {kvs:List (Key×V)} (ok:HOk P w H h) (e:Rd H a (.dK kvs)):kvs.length≤sizeLine∧(a == sysModules)=false∧∃ vs,KV kvs vs∧h.DictOf (zF P w) a vs :=
 show ObjOk P w H h a (.dK kvs) from qj3 ok e
theorem qkI {kvs:List (Key×V)} (ok:HOk P w H h) (e:H a=some (.dK kvs)):kvs.length≤sizeLine∧(a == sysModules)=false∧∃ vs,KV kvs vs∧h.DictOf (zF P w) a vs:=qda ok (.inl e)
theorem qc1 {ks:List Key} (ok:HOk P w H h) (e:H a=some (.tup (ks.map kV))):(tupleKind (zF P w)).is h ks a:=by
 obtain⟨_,its,r,o,h1,h2,n,h3⟩:=(show ObjOk P w H h a (.tup (ks.map kV)) from ok a _ e)
 exact⟨o,its.toArray,n,h1,h2,h3,by simpa using qc2 r⟩
theorem qe0 {kvs:List (List Key×V)} (ok:HOk P w H h) (e:Rd H a (.dT kvs)):kvs.length≤sizeLine∧(a == sysModules)=false ∧
   ∃ xs,KT H kvs xs∧h.DictOfH (tupleKind (zF P w)) a xs:=by
 obtain⟨z,y,xs,r,o,es,ep,h1,h2,h3,h4,h5⟩:=(show ObjOk P w H h a (.dT kvs) from qj3 ok e)
 refine⟨z,y,xs,r,o,es,ep,h1,h2,h3,h4,fun x hx=>?_,h5⟩
 have all:∀ {l:List (List Key×V)}{m:List (List Key×Addr×Value)},KT H l m->∀ x∈m,(tupleKind (zF P w)).is h x.1 x.2.1:=by
   intro l m q
   induction q with
   | nil=>intro x hx;exact nomatch hx
   | @cons p q ps qs hq t ih =>
     intro x hx;rcases List.mem_cons.mp hx with e|hx
     · subst e;exact qc1 ok (by rw[← hq.1];exact hq.2.1)
     · exact ih x hx
 exact all r x hx
theorem qlw {kvs:List (List Key×V)} (ok:HOk P w H h) (e:H a=some (.dT kvs)):kvs.length≤sizeLine∧(a == sysModules)=false ∧
   ∃ xs,KT H kvs xs∧h.DictOfH (tupleKind (zF P w)) a xs:=qe0 ok (.inl e)
end
def qe6 (H:Hp) (a:Addr) (y:V) (r:Option V):Prop :=
 (∃ kvs k,Rd H a (.dK kvs)∧y=kV k∧r=qch kvs k)∨∃ kvs k b,Rd H a (.dT kvs)∧y=.ref b∧H b=some (.tup (k.map kV))∧r=qch kvs k
def DPut (H:Hp) (a:Addr) (y v:V) (H':Hp):Prop :=
 (∃ kvs k,H a=some (.dK kvs)∧y=kV k∧kvs.length < sizeLine∧H'=upd H a (.dK (qce kvs k v))) ∨
 ∃ kvs k b,H a=some (.dT kvs)∧y=.ref b∧H b=some (.tup (k.map kV))∧kvs.length < sizeLine∧H'=upd H a (.dT (qce kvs k v))
theorem DPut.k {H:Hp}{a:Addr}{kvs:List (Key×V)}{k:Key}{v:V} (e:H a=some (.dK kvs)) (hl:kvs.length < sizeLine):DPut H a (kV k) v (upd H a (.dK (qce kvs k v))):=.inl ⟨kvs,k,e,rfl,hl,rfl⟩
section
variable {X:Cx}{pins:List (Addr×Obj)}{σ:St}{H:Hp}{s:Shared}{a:Addr}{y v:V}{u r:Value}{o:Option V}{A:Around}{E:Value->Shared->Prop}
theorem Inv.big (I:Inv X pins σ H s):sysModules < s.heap.objs.size:=by
 have h:mainGlobals < s.heap.objs.size:=(I.mod.glob.keeps I.bk).lt;exact Nat.lt_trans (by decide) h
theorem qgv {Q:Value->Shared->Prop} (hu:A.units+1 < cLine) (I:Inv X pins σ H s) (g:qe6 H a y (some v)) (ry:RelV y u) (h:∀ w' s',Inv X pins σ H s'->RelV v w'->Q w' s') :
   wpAny (model X.prog X.w) A (getItem (.ref a) u) Q E s:=by
 rcases g with ⟨kvs,k,e,ey,l⟩|⟨kvs,k,b,e,ey,eb,l⟩
 · subst ey;obtain⟨z,hd,vs,rel,dd⟩:=qda I.hok e;obtain⟨w',hw,rw'⟩:=RelO.some_of (v:=v) (o:=valueAt vs k) (by rw[l];exact rel.val k);exact wpAny_getItem_of (qeS ry) dd.mapOf hw (h w' _ (I.tok _) rw')
 · subst ey;cases (show u=Value.ref b from ry);obtain⟨z,hd,xs,rel,dd⟩:=qe0 I.hok e;obtain⟨w',hw,rw'⟩:=RelO.some_of (v:=v) (o:=(atKey xs k).map (·.2)) (by rw[l];exact rel.val k);obtain⟨p,hp,hp2⟩:=Option.map_eq_some_iff.mp hw;refine wpAny_getItem_heap (tupleKind_room_in1 hu) (qc1 I.hok eb) dd hp ?_;rw[hp2];exact h w' _ (I.tok _) rw'
theorem qmp {Q:Value->Shared->Prop} (hu:A.units+1 < cLine) (I:Inv X pins σ H s) (g:qe6 H a y o) (ry:RelV y u) (h:∀ s',Inv X pins σ H s'->Q (.bool o.isSome) s') :
   wpAny (model X.prog X.w) A (compareOp .In u (.ref a)) Q E s:=by
 rcases g with ⟨kvs,k,e,ey,l⟩|⟨kvs,k,b,e,ey,eb,l⟩
 · subst ey;obtain⟨z,hd,vs,rel,dd⟩:=qda I.hok e;refine wpAny_in_of (qeS ry) hd dd.mapOf ?_;rw[← (rel.val k).isSome_eq,← l];exact h _ (I.tok _)
 · subst ey;cases (show u=Value.ref b from ry);obtain⟨z,hd,xs,rel,dd⟩:=qe0 I.hok e;refine wpAny_in_heap (tupleKind_room_in1 hu) (qc1 I.hok eb) hd dd ?_;have q:=(rel.val k).isSome_eq;rw[Option.isSome_map]at q;rw[← q,← l];exact h _ (I.tok _)
theorem qjt {Q:Value->Shared->Prop} (hu:A.units+1 < cLine) (I:Inv X pins σ H s) (g:qe6 H a y o) (ry:RelV y u) (h:∀ s',Inv X pins σ H s'->Q (.bool (!o.isSome)) s') :
   wpAny (model X.prog X.w) A (compareOp .NotIn u (.ref a)) Q E s:=by
 rcases g with ⟨kvs,k,e,ey,l⟩|⟨kvs,k,b,e,ey,eb,l⟩
 · subst ey;obtain⟨z,hd,vs,rel,dd⟩:=qda I.hok e;refine wpAny_notIn_of (qeS ry) hd dd.mapOf ?_;rw[← (rel.val k).isSome_eq,← l];exact h _ (I.tok _)
 · subst ey;cases (show u=Value.ref b from ry);obtain⟨z,hd,xs,rel,dd⟩:=qe0 I.hok e;refine wpAny_notIn_heap (tupleKind_room_in1 hu) (qc1 I.hok eb) hd dd ?_;have q:=(rel.val k).isSome_eq;rw[Option.isSome_map]at q;rw[← q,← l];exact h _ (I.tok _)
theorem qdM {h':Heap}{t':Nat}{ob:HO} (I:Inv X pins σ H s) (mu:Mut (H a)) (hs:Heap.SameBut a s.heap h') (he:∃ q,h'.get? a=some q) (new:ObjOk X.prog X.w (upd H a ob) h' a ob) :
   Inv X pins σ (upd H a ob) { s with heap:=h',toks:=t' } :=
 I.write (x:=a) (e:=a) mu (.inl rfl) (fun b q hb z=>(hs.2 b hb).trans z) he new
theorem qix {P:Program}{w:World}{H':Hp}{h':Heap}{kvs:List (Key×V)}{vs:List (Key×Value)} (z:kvs.length≤sizeLine) (hd:(a == sysModules)=false) (rel:KV kvs vs) (dd:h'.DictOf (zF P w) a vs) :
   ObjOk P w H' h' a (.dK kvs):=⟨z,hd,vs,rel,dd⟩
theorem qgu {H':Hp}{Q:Unit->Shared->Prop} (hu:A.units+1 < cLine) (I:Inv X pins σ H s) (g:DPut H a y v H') (ry:RelV y u) (rv:RelV v r) (h:∀ s',Inv X pins σ H' s'->Q () s') :
   wpAny (model X.prog X.w) A (setItem (.ref a) u r) Q E s:=by
 rcases g with ⟨kvs,k,e,ey,l,eH⟩|⟨kvs,k,b,e,ey,eb,l,eH⟩
 · subst ey eH;obtain⟨z,hd,vs,rel,dd⟩:=qkI I.hok e;have hz:vs.length≤sizeLine:=by rw[← rel.length];exact z
   have hl:(qce kvs k v).length≤sizeLine:=by have:=qaF kvs k v;omega
   refine wpAny_setItem_pairs (hsz:=hz) (qeS ry) dd fun h' dd' hs=>h _ ?_;have he:∃ q,h'.get? a=some q:=let ⟨q,_,_,hq,_⟩:=dd';⟨q,hq⟩;exact qdM I (by rw[e];exact True.intro) hs he (qix hl hd (rel.put k rv) dd')
 · subst ey eH;cases (show u=Value.ref b from ry);obtain⟨z,hd,xs,rel,dd⟩:=qlw I.hok e;have hz:xs.length≤sizeLine:=by rw[← Paired.length rel];exact z
   have hl:(qce kvs k v).length≤sizeLine:=by have:=qaF kvs k v;omega
   refine wpAny_setItem_heap (hsz:=hz) (tupleKind_room_in1 hu) (qc1 I.hok eb) dd fun h' dd' hs=>h _ ?_;obtain⟨q,es,ep,hq,h2,h3,h4,_,h5⟩:=dd';refine qdM I (by rw[e];exact True.intro) hs ⟨q,hq⟩ ⟨hl,hd,_,(rel.put k eb rv).keeps fun c ys ec=>?_,q,es,ep,hq,h2,h3,h4,h5⟩;rw[qh (zN ec e (fun z=>nomatch z))];exact ec
end
section
variable {X:Cx}{pins:List (Addr×Obj)}{σ:St}{H:Hp}{s:Shared}{a:Addr}{kvs:List (Key×V)}{k:Key}{u:Value}{A:Around}{E:Value->Shared->Prop}
theorem qlx {v:V}{more:List Value}{Q:Value->Shared->Prop} (I:Inv X pins σ H s) (e:H a=some (.dK kvs)) (ry:RelV (kV k) u) (l:qch kvs k=some v) (hm:more=[]∨∃ x,more=[x])
   (h:∀ w' s',Inv X pins σ (upd H a (.dK (qdK kvs k))) s'->RelV v w'->Q w' s'):wpAny (model X.prog X.w) A (call (.builtin "dict.pop") (.ref a::u::more)) Q E s:=by
 obtain⟨z,hd,vs,rel,dd⟩:=qkI I.hok e;obtain⟨w',hw,rw'⟩:=RelO.some_of (v:=v) (o:=valueAt vs k) (by rw[← l];exact rel.val k)
 have hp:(keyPart u).isSome=true:=by
   cases k with
   | inl i=>obtain⟨t,q⟩:=(show ∃ t,u=Value.int i t from ry);subst q;rfl
   | inr x=>obtain⟨t,q⟩:=(show ∃ t,u=Value.str x t from ry);subst q;rfl
 have ha:argsOk "dict.pop" ⟨.ref a::u::more,[]⟩:=by
   rcases hm with q|⟨x,q⟩
   · subst q;exact PySem.F.args_dict_pop_2 _ _
   · subst q;exact PySem.F.args_dict_pop_3 _ _ _
 refine call_meetsIn PySem.F.slot_dict_pop dd.typeIs PySem.F.entry_dict_pop ha (meets_dict_pop_there (zF X.prog X.w) a (qeS ry) more hm hp)
   ⟨vs,w',dd,by rw[← rel.length];exact z,hw,fun h' dd' hs=>h w' _ ?_ rw'⟩
 have he:∃ q,h'.get? a=some q:=let ⟨q,_,_,hq,_⟩:=dd';⟨q,hq⟩;exact qdM I (by rw[e];exact True.intro) hs he (qix (Nat.le_trans (qhG kvs k) z) hd (rel.drop k) dd')
theorem qly {Q:Value->Shared->Prop} (I:Inv X pins σ H s) (e:Rd H a (.dK kvs)) (h:∀ t s',Inv X pins σ H s'->Q (.int kvs.length t) s'):wpAny (model X.prog X.w) A (call (.builtin "len") [.ref a]) Q E s:=by
 obtain⟨z,hd,vs,rel,dd⟩:=qda I.hok e;refine call_len_dict hd dd (by rw[← rel.length];rw[sizeLine_eq]at z;omega) ?_;rw[← rel.length];exact h _ _ (I.tok _)
end
def qlX (i:Expr):Prop:=∀ ov iv,subscripted i false ov iv=operate [ov,iv] (getItem ov iv)
theorem qiN {prog:Program}{w:World}{A:Around}{E:Value->Shared->Prop}{s:Shared}{env:Env}{value slice:Expr}{pos:Pos}{T id:String}{Q:Value->Shared->Prop}
   (hl:typeLookup (.type T) "__getitem__"=pure (some (.builtin id))) (hs:qlX slice)
   (h:wpAny (model prog w) A (eval value env) (fun o s₁=>wpAny (model prog w) A (eval slice env) (fun i s₂=>s₂.TypeIs o T∧wpAny (model prog w) A (getItem o i) Q E s₂) E s₁) E s) :
   wpAny (model prog w) A (eval (.Subscript value slice pos) env) Q E s:=by
 refine Subscript_ (wpAny_mono h (fun o s₁ h₁=>wpAny_mono h₁ (fun i s₂ h₂=>?_) fun _ _ x=>x) fun _ _ x=>x);obtain⟨hT,h₂⟩:=h₂;unfold subscriptTail;refine wpAny_bind ?_;rw[getitemInPython_of_ne hT.not_modules];refine wpAny_bind (wpAny_specialOf hT hl ?_)
 have fin:wpAny (model prog w) A (subscripted slice false o i) (fun r s₃=>wpAny (model prog w) A (letTemporaryGo value o r >>= fun _=>pure r) Q E s₃) E s₂:=by
   rw[hs o i];exact wpAny_operating (wpAny_mono h₂ (fun r s₃ h₃=>wpAny_bind (wpAny_letTemporaryGo (wpAny_pure h₃))) fun _ _ x=>x)
 first
   | exact wpAny_pure (wpAny_bind fin)
   | exact wpAny_bind (wpAny_pure (wpAny_bind fin))
   | exact wpAny_bind fin
theorem qdL {X:Cx}{pins:List (Addr×Obj)}{σ:St}{H:Hp}{s:Shared}{a:Addr}{y:V}{o:Option V} (I:Inv X pins σ H s) (g:qe6 H a y o):s.TypeIs (.ref a) "dict":=by
 rcases g with ⟨kvs,k,e,_,_⟩|⟨kvs,k,b,e,_,_,_⟩
 · obtain⟨_,_,vs,_,dd⟩:=qda I.hok e;exact dd.typeIs
 · obtain⟨_,_,xs,_,dd⟩:=qe0 I.hok e;exact dd.typeIs
def qk5 (td ty:TE):TE:=fun σ H Q=>td σ H fun x H1=>ty σ H1 fun y H2=>∃ a v,x=.ref a∧qe6 H2 a y (some v)∧Q v H2
def qla (td ty tv:TE):TS:=fun D σ H=>tv σ H fun v H1=>td σ H1 fun x H2=>ty σ H2 fun y H3=>∃ a H4,x=.ref a∧DPut H3 a y v H4∧D.nx σ H4
section
variable {X:Cx}{o i e value:Expr}{pos pos' tpos:Pos}{td ty tv:TE}
theorem qfS (hu:X.A.units+1 < cLine) (ho:PE X o td) (hi:PE X i ty) (hs:qlX i):PE X (.Subscript o i pos) (qk5 td ty):=by
 intro pins s σ H Q I h;refine qiN PySem.F.slot_dict_getitem.lookup hs (thn (ho pins s σ H _ I h) fun u s1 ⟨x,H1,I1,rx,q1⟩=>thn (hi pins s1 σ H1 _ I1 q1) fun iv s2 zz_=>?_);obtain⟨y,H2,I2,ry,a,v,ex,g,q2⟩:=zz_;subst ex;obtain rfl:u=Value.ref a:=rx;exact⟨qdL I2 g,qgv hu I2 g ry fun w' s3 I3 rw'=>⟨v,H2,I3,rw',q2⟩⟩
theorem qfP (hu:X.A.units+1 < cLine) (ho:PE X o td) (hi:PE X i ty) (hv:PE X value tv) (hs:swapsWith value (some (.Subscript o i pos')) pos.line X.env=pure false) :
   PS X (.Assign [.Subscript o i pos'] value pos) (qla td ty tv):=by
 intro pins s σ H D I h;refine wpAny_Assign_Subscript (thn (hv pins s σ H _ I h) fun r s1 ⟨v,H1,I1,rv,q1⟩=>thn (ho pins s1 σ H1 _ I1 q1) fun u s2 ⟨x,H2,I2,rx,q2⟩=>thn (hi pins s2 σ H2 _ I2 q2) fun iv s3 zz_=>?_) hs;obtain⟨y,H3,I3,ry,a,H4,ex,g,q3⟩:=zz_;subst ex;obtain rfl:u=Value.ref a:=rx;exact qgu hu I3 g ry rv fun s4 I4=>⟨σ,H4,I4,q3⟩
end
theorem qhH {P:Program}{w:World}{H:Hp} (h:Heap) (hb:sysModules < h.objs.size):ObjOk P w H (h.push { cls:=.type "dict",data:=.dict #[] }) h.objs.size (.dK []) :=
 ⟨Nat.zero_le _,beq_eq_false_iff_ne.mpr (Ne.symm (Nat.ne_of_lt hb)),[],.nil,Heap.DictOf.new h⟩
def qjT:TE:=fun _ H Q=>∀ p,H p=none->Q (.ref p) (upd H p (.dK []))
section
variable {X:Cx}{pos:Pos}
theorem qbY:PE X (.Dict [] [] pos) qjT:=fun pins s σ H Q I h =>
 wpAny_Dict_empty ⟨.ref s.heap.objs.size,_,I.laid (a:=s.heap.objs.size) (o:=.dK []) (t':=s.toks) (fun _ _ q=>Heap.get?_push_of_some _ q) (Nat.le_refl _) (qhH s.heap I.big),rfl,h _ (I.hok.fresh (Nat.le_refl _))⟩
end
structure M1 (X:Cx) (o:Expr) (m:Str) (apos:Pos) (e:Expr) (cpos:Pos):Prop where
 base:attributeBase o m X.env (eval o X.env)=eval o X.env
 few:((backTo cpos (starEach [e] X.env)).all (fun x=>!x.1) && (backToKw cpos (keywordEach [] X.env)).all (fun x=>x.1.isSome)
   && decide (([e]:List Expr).length+([]:List Keyword).length+(if ([]:List Keyword).isEmpty then 0 else 1) < 30))=true
 line:(apos.endLine == cpos.line)=true
 trees:backTo cpos (starEach [e] X.env)=[(false,eval e X.env)]
def IsD (H:Hp) (a:Addr):Prop:=(∃ kvs,Rd H a (.dK kvs))∨∃ kvs,Rd H a (.dT kvs)
theorem qkB {X:Cx}{pins:List (Addr×Obj)}{σ:St}{H:Hp}{s:Shared}{a:Addr} (I:Inv X pins σ H s) (d:IsD H a) :
   s.TypeIs (.ref a) "dict"∧(∀ b,Value.ref a=.ref b->∃ ob,s.heap.get? b=some ob∧ob.dict=none)∧(a == sysModules)=false:=by
 rcases d with ⟨kvs,e⟩|⟨kvs,e⟩
 · obtain⟨_,hd,vs,_,dd⟩:=qda I.hok e;refine⟨dd.typeIs,fun b q=>?_,hd⟩;cases q;obtain⟨ob,_,_,h1,h2,_⟩:=dd;exact⟨ob,h1,h2.2.1⟩
 · obtain⟨_,hd,xs,_,dd⟩:=qe0 I.hok e;refine⟨dd.typeIs,fun b q=>?_,hd⟩;cases q;obtain⟨ob,_,_,h1,h2,_⟩:=dd;exact⟨ob,h1,h2.2.1⟩
def qjS (td ty:TE):TE:=fun σ H Q=>td σ H fun x H1=>∃ a,x=.ref a∧IsD H1 a∧ty σ H1 fun y H2=>∃ kvs k v,H2 a=some (.dK kvs)∧y=kV k∧qch kvs k=some v∧Q v (upd H2 a (.dK (qdK kvs k)))
section
variable {X:Cx}{o e f:Expr}{apos cpos:Pos}{td ty tx:TE}
theorem qhc (ho:PE X o td) (he:PE X e ty) (m:M1 X o "pop" apos e cpos):PE X (.Call (.Attribute o "pop" apos) [e] [] cpos) (qjS td ty):=by
 intro pins s σ H Q I h;refine wpAny_Call_method m.base m.few m.line PySem.F.plainAttrs_dict PySem.F.slot_dict_pop PySem.F.type_dict_pop (thn (ho pins s σ H _ I h) fun u s1 zz_=>?_);obtain⟨x,H1,I1,rx,a,ex,d,q1⟩:=zz_;subst ex;obtain rfl:u=Value.ref a:=rx;obtain⟨t1,t2,_⟩:=qkB I1 d;refine⟨t1,t2,?_⟩;rw[m.trees];refine Calls.callWith_builtin rfl (Calls.evalArgs_plain (Calls.spliced_cons (thn (he pins s1 σ H1 _ I1 q1) fun iv s2 ⟨y,H2,I2,ry,kvs,k,v,ea,ey,l,q2⟩=>Calls.spliced_nil ?_)));subst ey;exact qlx I2 ea ry l (.inl rfl) fun w' s3 I3 rw'=>⟨v,_,I3,rw',q2⟩
end
end L2
namespace Att
open PySem PySem.W PySem.Calls PyProof.Rows
theorem qaM {P:Params}{h:Heap}:∀ (ns:List Int) (vs:List Value),WellAll P h vs (ns.map WData.int)->IntsAre vs ns:=by
 intro ns
 induction ns with
 | nil =>
   intro vs w;rw[List.map_nil]at w;cases w;exact .nil
 | cons n ns ih =>
   intro vs w;rw[List.map_cons]at w
   cases w with
   | cons a b =>
     cases a;exact .cons _ _ (ih _ b)
theorem qfz {l:OpenLaw}{n:Nat} (hn:l.most=some n) {P:Params}{h:Heap}{args:List WData}{vals:List Value}
   (hpre:l.row.toRowW.claim.pre args=true) (hwl:WellAll P h vals args) :
   ∃ a vs ns,vals=[Value.ref a]∧args=[WData.list (ns.map WData.int)]∧h.get? a=some { cls:=.type "list",data:=.seq vs.toArray }∧IntsAre vs ns∧ns.length≤n:=by
 have hsh:WShape.hasAll [] args [.list .int]=true:=(pre_splitW hpre).1;have hc:l.pre.holds [] { args:=args }=true:=(pre_splitW hpre).2;obtain⟨d,r,rfl,h1,h2⟩:=hasAllW_cons hsh;obtain rfl:=hasAllW_nil h2;obtain⟨xs,rfl,h3⟩:=hasW_list h1;obtain⟨ns,rfl⟩:=items_int h3
 have hlen:ns.length≤n:=by
   unfold OpenLaw.pre at hc
   have h4:(WTm.not (.lt (.lit (.int (n:Int))) (.len (.arg 0)))).holds [] { args:=[.list (ns.map .int)] }=true:=by
     have h4:=(holds_andW hc).1;rw[hn]at h4;exact h4
   have h5:=condW_of h4 (w_not (w_lt w_lit (w_len_list (w_arg rfl))));rw[List.length_map]at h5;refine Nat.le_of_not_lt fun q=>?_;have q':(n:Int) < ((ns.length:Nat):Int):=by omega
   first
     | (rw[decide_eq_true q']at h5;exact absurd h5 (by decide))
     | (simp at h5;omega)
 cases hwl with
 | cons w1 w2 =>
   cases w2
   cases w1 with
   | list ho hall=>exact⟨_,_,ns,rfl,rfl,ho,qaM ns _ hall,hlen⟩
theorem qfQ (l:OpenLaw) (args:List WData):l.row.toRowW.claim.post args (.bool true) args=true :=
 postW_of (r:=l.row.toRowW) (X:=(true == true))
   (show WShape.has [] (.bool true) .bool=true by first|rfl|decide|simp[WShape.has,WShape.arms,WShape.armsAll])
   (show (WTm.eq .res (.lit (.bool true))).value [] { args:=args,res:=some (.bool true),after:=args }=some (.bool (true == true)) from w_eq_bool (w_res rfl) w_lit) rfl
theorem attach_call {l:OpenLaw}{n:Nat}{q:Program}{loose:List Str}{XP:(Str->Option Value)->Heap->Prop}{YP:World->Heap->Prop}{d:DefRec}
   (hn:l.most=some n) (hdf:d.params.defaults=[])
   (call:∀ (w:World) (s₀ s₁:Shared) (mg mb:Str->Option Value) (fa:Addr) (o:Obj) (pm cd doc:Value) (a:Addr) (vs:List Value) (ns:List Int),
     Ground q loose [] XP w s₀ mg mb s₁.heap->YP w s₁.heap ->
     s₁.heap.get? fa=some o->o.data=.func (docDef d.name d.params d.body d.scope pm cd doc)->s₁.heap.CodeRec cd d.name->mg d.name=some (.ref fa) ->
     s₁.heap.get? a=some { cls:=.type "list",data:=.seq vs.toArray }->IntsAre vs ns->ns.length≤n->s₁.gens=#[] ->
     codeAny (model l.prog w) callerA (.call (.ref fa) ⟨[.ref a],[]⟩) (fun r s'=>r=.ok (.ret (.bool true))∧OldK s₁.heap s'.heap∧s'.os=s₁.os∧AllBare s'.gens) s₁) :
   WalkO q loose XP YP l.row.toRowW d [] (fun f vs=>PySem.call f vs):=by
 intro w s₀ s₁ mg mb G Y fa o pm cd doc dV kV ho hd hcd hD hmg hg args vals as hpre hlay hrd hwl hlo;obtain rfl:dV=.none:=Dflts.none hD hdf;obtain rfl:kV=.none:=Dflts.noKw hD;obtain⟨a,vs,ns,rfl,rfl,hobj,hints,hlen⟩:=qfz hn hpre hwl;refine enter_call (codeAny_mono (call w s₀ s₁ mg mb fa o pm cd doc a vs ns G Y ho (fd_plain hd) hcd hmg hobj hints hlen hg) fun r s' hq=>?_);obtain⟨rfl,h2,h3,h4⟩:=hq;exact⟨.inl ⟨.bool true,.bool true,[],rfl,fun _=>rfl,.bool true,qfQ l _,fun _=>⟨List.Pairwise.nil,fun _ hm=>(nomatch hm)⟩⟩,h2,h3,h4⟩
end Att
namespace L2
open PySem PySem.Spec PyProof.Rows
open PySem.W (Frag keepIn kitOne fnOf codeIn kitAny kia_tup)
theorem qcg:∀ {vs:List Value}{ns:List Int},IntsAre vs ns->Vals (ns.map V.int) vs
 | _,_,.nil=>.nil
 | _,_,.cons n t h=>.cons ⟨t,rfl⟩ (qcg h)
def qM (s:Stmt) (j:Nat):Stmt:=match s with
 | .ClassDef _ _ _ body _ _ _ _ _ _ _=>body.getD j (.Pass ⟨0,0,0,0⟩)
 | _=>.Pass ⟨0,0,0,0⟩
def QI (s:Stmt):Arguments:=match s with
 | .FunctionDef _ a _ _ _ _ _ _ _ _=>a
 | _=>{ posonlyargs:=[],args:=[],vararg:=none,kwonlyargs:=[],kw_defaults:=[],kwarg:=none,defaults:=[] }
def zX (s:Stmt):List Stmt:=match s with
 | .FunctionDef _ _ b _ _ _ _ _ _ _=>b
 | _=>[]
def qg (s:Stmt):Scope:=match s with
 | .FunctionDef _ _ _ _ _ _ sc _ _ _=>sc
 | _=>{ kind:=.function,names:=[],isGenerator:=false,isCoroutine:=false }
abbrev CX0:CXT:=fun _ _ _ _ _ _=>False
abbrev E0:XK:=fun _ _ _=>False
theorem qm {X:Cx}:JG CX0 X E0:=fun _ _ _ _ _ _ _ h=>h.elim
structure Fun (K:Frag) (x qual:Str) (st:Stmt) (f:Addr) (fd:FuncData):Prop where
 ex:∃ (oc:Value) (od:Option Addr) (kV doc pm:Value) (an:Option Addr) (cdv ct:Value) (osl:Array (Option Value)),
   fd=fnOf x qual (QI st) (zX st) (qg st) .none kV doc pm an cdv ct∧K.lookup f=some ⟨oc,od,.func fd,osl⟩∧codeIn K cdv qual=true
 kp:keepIn K (.ref f)=true
section
variable {P:Program}{w:World}{K:Frag}{mg:Str->Option Value}{base:Heap}
theorem Fun.ok {x qual:Str}{st:Stmt}{f:Addr}{fd:FuncData}{N ps:List Str}{k:Nat}{sp:Sp} (F:Fun K x qual st f fd) (S:qp N ps (qg st)) (len:∀ vs H Q E,sp vs H Q E->vs.length=ps.length)
   (hbody:∀ (cdv:Value) (A:Around) (outer:List Env) (s:Shared) (H:Hp) (vs:List V) (Q:VK) (E:XK),Room k (A.deeper (envOfC qual (qg st) s.heap.objs.size f cdv))->sp vs H Q E ->
     ∃ t,PSs (zw CX0 P w K mg base N qual (qg st) f cdv A outer s H E).nox (zX st) t∧t { nx:=fun _ H'=>Q .non H',rt:=Q } (JI N vs) H):FnOk P w K mg base CX0 (k+1) f fd ps sp:=by
 obtain⟨oc,od,kV,doc,pm,an,cdv,ct,osl,rfl,lk,hcd⟩:=F.ex;refine qlv lk hcd S len fun A outer s H vs Q E hr hsp=>?_;obtain⟨t,h,q⟩:=hbody cdv A outer s H vs Q E hr hsp;exact⟨t,h.nox,q⟩
theorem Fun.binds {x qual:Str}{st:Stmt}{f:Addr}{fd:FuncData}{ps:List Str} (F:Fun K x qual st f fd)
   (h:∀ (kV doc pm:Value) (an:Option Addr) (cdv ct:Value) (us:List Value),us.length=ps.length->bindArgs (fnOf x qual (QI st) (zX st) (qg st) .none kV doc pm an cdv ct) ⟨us,[]⟩=pure (ps.zip us)):Binds K fd ps []:=by
 obtain⟨oc,od,kV,doc,pm,an,cdv,ct,osl,rfl,lk,hcd⟩:=F.ex;exact .all (h kV doc pm an cdv ct)
theorem qeu {x qual:Str}{st:Stmt}{f:Addr}{oc:Value}{od an:Option Addr}{osl:Array (Option Value)}{kV doc pm cdv ct:Value} (l:K.lookup f=some ⟨oc,od,.func (fnOf x qual (QI st) (zX st) (qg st) .none kV doc pm an cdv ct),osl⟩)
   (c:codeIn K cdv qual=true) (k:keepIn K (.ref f)=true):Fun K x qual st f (fnOf x qual (QI st) (zX st) (qg st) .none kV doc pm an cdv ct):=⟨⟨oc,od,kV,doc,pm,an,cdv,ct,osl,rfl,l,c⟩,k⟩
end
theorem qJ {A:Around}{k:Nat} (hr:Room k A):A.units+1 < cLine:=Nat.lt_of_le_of_lt (Nat.add_le_add_left (by decide:1≤64) _) hr.units
theorem qw {n:Nat} (h:n≤1000):n < sizeLine:=Nat.lt_of_le_of_lt h (by decide)
section
variable {X:Cx}
theorem pv (i:Nat) {x:Str}{pos:Pos} (hN:X.N[i]?=some x:=by rfl) (hv:Vis X.env.scope x:=by first|exact Or.inl rfl|exact Or.inr (Or.inl rfl)|exact Or.inr (Or.inr rfl)) (hd:(x == ("__debug__":Str))=false:=by decide)
   (hcd:(x == ("__classdict__":Str))=false:=by decide):PE X (.Name x pos) (qe7 i):=qkf hN hv hd hcd
theorem qdb:CallR X (.builtin "len") (fun xs H Q=>∃ a kvs,xs=[V.ref a]∧H a=some (.dK kvs)∧Q (.int kvs.length) H):=by
 intro pins s σ H xs us Q I r h;obtain⟨a,kvs,rfl,ha,q⟩:=h;obtain⟨u,rfl,ru⟩:=JH r;cases ru;exact qly I (.inl ha) fun t s' I'=>⟨.int kvs.length,H,I',⟨t,rfl⟩,q⟩
end
theorem qjD {A B:Prop} (h:B):if false=true then A else B:=by
 rw[if_neg Bool.false_ne_true];exact h
theorem qe9 {A B:Prop} (h:A):if true=true then A else B:=by
 rw[if_pos rfl];exact h
def Same (H H':Hp):Prop:=∀ b o,H b=some o->H' b=some o
theorem Same.refl (H:Hp):Same H H:=fun _ _ h=>h
theorem Same.trans {H H1 H2:Hp} (a:Same H H1) (b:Same H1 H2):Same H H2:=fun c o h=>b c o (a c o h)
theorem Same.seq {K:Frag}{H H':Hp}{a:Addr}{xs:List V} (e:Same H H') (h:SqL K H a xs):SqL K H' a xs:=by
 rcases h with (h|⟨o,h⟩)|h
 · exact .inl (.inl (e _ _ h))
 · exact .inl (.inr ⟨o,e _ _ h⟩)
 · exact .inr h
section
variable {X:Cx}{pins:List (Addr×Obj)}{σ:St}{H:Hp}{s:Shared}{h':Heap}
theorem Inv.turnLaid {ch:List Addr}{a:Addr}{o:HO}{t':Nat} (I:Inv X pins σ H s) (k:∀ b u,b∉ch->s.heap.get? b=some u->h'.get? b=some u) (hf:∀ b∈ch,qeF X pins H b)
   (hp:s.heap.objs.size≤a) (new:ObjOk X.prog X.w (upd H a o) h' a o):Inv X pins σ (upd H a o) { s with heap:=h',toks:=t' }:=by
 have hn:H a=none:=I.hok.fresh hp;refine I.step (g':=s.gens) (d':=s.drawn) (ch:=ch) (fun b hb=>?_) (fun b u _ _ hc e _=>k b u hc e) (fun b u _ _ hc e _=>⟨u.slots,k b u hc e⟩)
   (fun b u _ e n=>?_) (fun b u hc e=>⟨u,k b u hc e⟩) (fun b xs e=>?_) (fun b u v e=>?_) (fun b ps e=>?_) (fun m hm=>?_) (fun b u e=>?_) I.bare
 · obtain⟨_,f1,_,f3,f4,f5⟩:=hf b hb;exact⟨f3,f1,f4,f5⟩
 · rw[qh (Nat.ne_of_lt (Nat.lt_of_lt_of_le (Heap.lt_size e) hp))];exact n
 · rw[qh (qi e hn)];exact e
 · rw[qh (qi e hn)];exact e
 · exact⟨#[],by rw[qh (qi e hn),e];simp⟩
 · obtain⟨ob,es,ep,ho,r⟩:=hm;exact⟨ob,es,ep,k _ ob (fun z=>(hf _ z).2.1 rfl) ho,r⟩
 · by_cases hb:b=a
   · subst hb;rw[qc]at e;cases e;exact new
   · rw[qh hb]at e;refine(I.hok b u e).stay (fun c v hc q=>k c v ?_ q) (fun c q=>by rw[qh (qi q hn)];exact q) fun c xs q=>by rw[qh (qi q hn)];exact q
     intro z;have zz:=(hf c z).1;rcases hc with rfl|hc
     · rw[e]at zz;cases zz
     · rw[hc]at zz;cases zz
theorem Inv.turnL {ch:List Addr}{t':Nat} (I:Inv X pins σ H s) (k:∀ b u,b∉ch->s.heap.get? b=some u->h'.get? b=some u) (hf:∀ b∈ch,qeF X pins H b) :
   Inv X pins σ H { s with heap:=h',toks:=t' }:=by
 refine I.step (g':=s.gens) (d':=s.drawn) (ch:=ch) (fun b hb=>?_) (fun b u _ _ hc e _=>k b u hc e) (fun b u _ _ hc e _=>⟨u.slots,k b u hc e⟩)
   (fun b u _ e n=>n) (fun b u hc e=>⟨u,k b u hc e⟩) (fun b xs e=>e) (fun b u v e=>e) (fun b ps e=>⟨#[],by rw[e];simp⟩) (fun m hm=>?_) (fun b u e=>?_) I.bare
 · obtain⟨_,f1,_,f3,f4,f5⟩:=hf b hb;exact⟨f3,f1,f4,f5⟩
 · obtain⟨ob,es,ep,ho,r⟩:=hm;exact⟨ob,es,ep,k _ ob (fun z=>(hf _ z).2.1 rfl) ho,r⟩
 · refine(I.hok b u e).stay (fun c v hc q=>k c v ?_ q) (fun c q=>q) fun c xs q=>q;intro z;have zz:=(hf c z).1;rcases hc with rfl|hc
   · rw[e]at zz;cases zz
   · rw[hc]at zz;cases zz
end
def Ite (K:Frag) (a:Addr):It :=
 ⟨fun i H=>∃ xs x,SqL K H a xs∧xs[i]?=some x,
  fun i H x H'=>∃ p v,H p=none∧x=.ref p∧(∀ xs,SqL K H a xs->xs[i]?=some v)∧H'=upd H p (.tup [.int i,v]),
  fun i H=>∃ xs,SqL K H a xs∧xs.length≤i⟩
theorem qfh {P:Program}{w:World}{K:Frag}{elts:List Expr}{k:Nat}{pos:Pos} (a e it:Addr) (hne:e≠it) :
   qkN P w K (.Tuple elts k pos) (Ite K a) [e,it] e (fun i h=>(∃ old,IsEnum h e it i old)∧h.IsListIter it a i) where
 mem:=by simp
 obj:=fun i h st b hb=>by
   obtain⟨⟨old,he⟩,hit⟩:=st;rcases List.mem_cons.mp hb with rfl|hb
   · exact⟨_,he,fun v z=>by cases z⟩
   · have e1:b=it:=by simpa using hb
     subst e1;obtain⟨o,q,c,d⟩:=hit;exact⟨o,q,fun v z=>by rw[d]at z;cases z⟩
 keep:=fun i h h' st kk=>by
   obtain⟨⟨old,he⟩,hit⟩:=st;exact⟨⟨old,kk e (by simp) _ he⟩,hit.at fun o q=>kk it (by simp) o q⟩
 item:=by
   intro X hP hw hK hc i pins s σ H E I hf st hg;subst hP hw hK;obtain⟨xs,x,hq,hx⟩:=hg;obtain⟨its,rv,p,hz⟩:=I.list hq;obtain⟨u,hu,ru⟩:=rv.get hx;obtain⟨⟨old,he⟩,hit⟩:=st;refine wpAny_pyNext_enum_item he hit p.isList (x:=u) (by simpa using hu) hne fun h1 ho hit1 hT hsz hk=>?_;refine⟨_,rfl,wpAny_letOwnedTupleGo_enum (s:={ s with heap:=h1,toks:=s.toks+1 }) ho fun h2 he2 hs2=>?_⟩;have hel:e < s.heap.objs.size:=Heap.lt_size he;have hil:it < s.heap.objs.size:=by obtain⟨_,q,_⟩:=hit;exact Heap.lt_size q
   have hT2:h2.get? s.heap.objs.size=some { cls:=.type "tuple",data:=.seq #[.int i s.toks,u] }:=(hs2.2 _ (Nat.ne_of_gt hel)).trans hT
   have I1:Inv X pins σ (upd H s.heap.objs.size (.tup [.int i,x])) { s with heap:=h2,toks:=s.toks+1 }:=by
     refine I.turnLaid (ch:=[e,it]) (fun b o hb q=>?_) hf (Nat.le_refl _) ⟨by show 2≤sizeLine;decide,[.int i s.toks,u],.cons ⟨_,rfl⟩ (.cons ru .nil),⟨_,hT2,rfl,_,rfl⟩⟩;have b1:b≠e:=fun z=>hb (by simp[z]);have b2:b≠it:=fun z=>hb (by simp[z]);exact(hs2.2 b b1).trans (hk b o b1 b2 q)
   refine⟨.ref s.heap.objs.size,_,I1,rfl,⟨_,x,I.hok.fresh (Nat.le_refl _),rfl,fun ys hy=>by rw[I.list_inj hy hq];exact hx,rfl⟩,⟨⟨_,by simpa using he2⟩,hit1.at fun o q=>(hs2.2 it hne.symm).trans q⟩,fun b hb=>?_⟩
   have hbl:b < s.heap.objs.size:=by
     rcases List.mem_cons.mp hb with rfl|hb
     · exact hel
     · have e1:b=it:=by simpa using hb
       rw[e1];exact hil
   rw[qh (Nat.ne_of_lt hbl)];exact(hf b hb).1
 done:=by
   intro X hP hw hK hc i pins s σ H E I hf st hg;subst hP hw hK;obtain⟨xs,hq,hx⟩:=hg;obtain⟨its,rv,p,hz⟩:=I.list hq;obtain⟨⟨old,he⟩,hit⟩:=st;have hl:=rv.length;refine wpAny_pyNext_enum_end (I.ok.hd hc) he hit p.isList (by simp;omega) fun h' eb=>⟨rfl,I.turnL (t':=s.toks) (ch:=[e,it]) (fun b o hb q=>eb b o (fun z=>hb (by simp[z])) q) hf⟩
 self:=fun _ _ _ _ _ st h=>by
   obtain⟨⟨old,he⟩,_⟩:=st;exact wpAny_pyIter_enum he h
theorem qgC:bootBuiltins "enumerate"=some (.type "enumerate"):=by decide +kernel
inductive qgg (K:Frag) (R:(It->Hp->Prop)) (vs:List V) (H1:Hp):Prop
 | mk (a:_) (h1:vs=[.ref a]) (h2:(∃ xs,SqL K H1 a xs)) (h3:R (Ite K a) H1):qgg K R vs H1
def qlt (K:Frag) (ta:TA):TI:=fun σ H R=>ta σ H fun vs H1=>qgg K R vs H1
section
variable {X:Cx}
theorem qfR {a:Expr}{ta:TA}{p pos tp:Pos}{elts:List Expr}{kk:Nat} (hg:Gl X "enumerate") (hm:X.mg "enumerate"=none) (ha:PA X [a] ta) (hs:starEach [a] X.env=[(false,eval a X.env)]:=by rfl) :
   PI X (.Tuple elts kk tp) (.Call (.Name "enumerate" p) [a] [] pos) (qlt X.K ta):=by
 intro pins s σ H R I h;refine Call_ (qaI I hg hm qgC (PyProof.Rows.callWith_type1 (thn (ha pos pins s σ H _ I h) fun us s1 zz_=>?_) hs rfl));obtain⟨vs,H1,I1,r1,q1⟩:=zz_;obtain⟨l,e,⟨xs,hq⟩,q⟩:=q1;subst e;obtain⟨u,rfl,ru⟩:=JH r1;cases ru;obtain⟨its,rv,pl,hz⟩:=I1.list hq;refine call_enumerate_list pl.isList fun h' he hit hsz hk=>?_;have I2:Inv X pins σ H1 { s1 with heap:=h' }:=I1.kept (t':=s1.toks) hk;refine wpAny_pyIter_enum he ⟨s1.heap.objs.size+1,[s1.heap.objs.size+1,s1.heap.objs.size],_,Ite X.K l,H1,rfl,I2,qfh l _ _ (Nat.succ_ne_self _),⟨⟨_,he⟩,hit⟩,fun b hb=>?_,q⟩
 have hb1:s1.heap.objs.size≤b:=by
   rcases List.mem_cons.mp hb with e1|hb
   · rw[e1];exact Nat.le_succ _
   · have e1:b=s1.heap.objs.size:=by simpa using hb
     rw[e1];exact Nat.le_refl _
 exact I1.fpOk hb1 (I1.hok.fresh hb1)
end
theorem qex {K:Frag}{a:Addr}{xs:List V}{g:TG}{tb:TS}{D:qgQ}{σ:St}{H:Hp} (Pv:Nat->St->Hp->Prop) (h0:Pv 0 σ H) (hl:∀ i σ H,i≤xs.length->Pv i σ H->SqL K H a xs)
   (hs:∀ i x σ H p,xs[i]?=some x->Pv i σ H->H p=none->g (.ref p) σ (upd H p (.tup [.int i,x])) fun σ2 H2=>tb { D with nx:=Pv (i+1),ct:=Pv (i+1),bk:=D.nx } σ2 H2) (hd:∀ σ H,Pv xs.length σ H->D.nx σ H) :
   ∃ W:Nat->Nat->St->Hp->Prop,(∃ m,W 0 m σ H)∧∀ i m σ H,W i m σ H ->
     ((Ite K a).stop i H∧D.nx σ H)∨((Ite K a).go i H∧∃ N:St->Hp->Prop,(∀ σ' H',N σ' H'->∃ m',m' < m∧W (i+1) m' σ' H')∧∀ x H',(Ite K a).yld i H x H'->g x σ H' fun σ2 H2=>tb { D with nx:=N,ct:=N,bk:=D.nx } σ2 H2):=by
 refine⟨fun i m σ H=>m=xs.length - i∧i≤xs.length∧Pv i σ H,⟨xs.length,by simp,Nat.zero_le _,h0⟩,?_⟩;rintro i m σ H ⟨rfl,hi,p⟩;have q:=hl i σ H hi p;by_cases hlt:i < xs.length
 · refine .inr ⟨⟨xs,xs[i],q,by simp[hlt]⟩,Pv (i+1),fun σ' H' p'=>⟨xs.length - (i+1),by omega,rfl,hlt,p'⟩,fun x H' y=>?_⟩;obtain⟨t,v,hn,rfl,y,rfl⟩:=y;exact hs i v σ _ t (y xs q) p hn
 · have e:i=xs.length:=by omega
   subst e;exact .inl ⟨⟨xs,q,Nat.le_refl _⟩,hd σ H p⟩
def tyN (H:Hp):V->Option String
 | .non=>some "NoneType"
 | .bl _=>some "bool"
 | .int _=>some "int"
 | .str _=>some "str"
 | .ref a=>match H a with
   | some (.lst _)=>some "list"
   | some (.tup _)=>some "tuple"
   | some (.dK _)=>some "dict"
   | _=>none
 | _=>none
def qkY (c t:String):Bool:=t == c || (t == "bool" && c == "int")
theorem qgU {K:Frag}{H:Hp}{v:V}{t:String} (h:tyN H v=some t):qdm K H v (.type t):=by
 cases v with
 | non=>cases h;exact .non
 | bl b=>cases h;exact .bl b
 | int b=>cases h;exact .int b
 | str b=>cases h;exact .str b
 | byt b=>cases h
 | flt b=>cases h
 | ty b=>cases h
 | ref a =>
   simp only[tyN]at h;split at h
   · rename_i e;cases h;exact .lst e
   · rename_i e;cases h;exact .tup e
   · rename_i e;cases h;exact .dK e
   · cases h
def qbJ:List String:=["NoneType","bool","int","str","list","tuple","dict"]
theorem qfe {H:Hp}{v:V}{t:String} (h:tyN H v=some t):t∈qbJ:=by
 cases v with
 | non=>cases h;decide
 | bl b=>cases h;decide
 | int b=>cases h;decide
 | str b=>cases h;decide
 | byt b=>cases h
 | flt b=>cases h
 | ty b=>cases h
 | ref a =>
   simp only[tyN]at h;split at h<;>first|(cases h;decide)|cases h
def jW:List String:=["bool","int","str","list","tuple","dict"]
theorem qip (K:Frag) {t c:String} (ht:t∈qbJ) (hc:c∈jW):kitOne K (.type t) (.type c)=some (qkY c t):=by
 simp only[qbJ,jW,List.mem_cons,List.not_mem_nil,or_false]at ht hc;rcases ht with rfl|rfl|rfl|rfl|rfl|rfl|rfl<;>rcases hc with rfl|rfl|rfl|rfl|rfl|rfl<;>(unfold kitOne PySem.W.kitCls;rfl)
inductive qib (xs:List V) (H:Hp) (Q:VK):Prop
 | mk (x c t:_) (h1:xs=[x,.ty c]) (h2:c∈jW) (h3:tyN H x=some t) (h4:Q (.bl (qkY c t)) H):qib xs H Q
def qmd:List V->Hp->VK->Prop:=fun xs H Q=>qib xs H Q
section
variable {X:Cx}
theorem qY:CallR X (.builtin "isinstance") qmd:=by
 intro pins s σ H xs us Q I r h;obtain⟨x,c,t,rfl,hc,ht,q⟩:=h;obtain⟨u,w',rfl,ru,rw'⟩:=qeG r;cases (show w'=Value.type c from rw');exact qc3 I ru (qgU ht) (qip X.K (qfe ht) hc) fun tk=>⟨.bl _,H,I.tok tk,rfl,q⟩
end
mutual
inductive DV (H:Hp):V->PyData->Prop
 | non:DV H .non .none
 | bl (b):DV H (.bl b) (.bool b)
 | int (i):DV H (.int i) (.int i)
 | str (x):DV H (.str x) (.str x)
 | lst {a xs ds}:Rd H a (.lst xs)->DVs H xs ds->DV H (.ref a) (.list ds)
 | tup {a xs ds}:Rd H a (.tup xs)->DVs H xs ds->DV H (.ref a) (.tuple ds)
inductive DVs (H:Hp):List V->List PyData->Prop
 | nil:DVs H [] []
 | cons {x xs d ds}:DV H x d->DVs H xs ds->DVs H (x::xs) (d::ds)
end
section
variable {P:Program}{w:World}{H:Hp}{h:Heap}
mutual
theorem DV.reads (ok:HOk P w H h):∀ {v:V}{d:PyData}{u:Value},DV H v d->RelV v u->∃ as,Reads h u d as
 | _,_,u,.non,r=>by cases (show u=Value.none from r);exact⟨_,.none⟩
 | _,_,u,.bl b,r=>by cases (show u=Value.bool b from r);exact⟨_,.bool b⟩
 | _,_,u,.int i,r=>by obtain⟨t,q⟩:=(show ∃ t,u=Value.int i t from r);cases q;exact⟨_,.int i t⟩
 | _,_,u,.str x,r=>by obtain⟨t,q⟩:=(show ∃ t,u=Value.str x t from r);cases q;exact⟨_,.str x t⟩
 | _,_,u,.lst (a:=a) rd q,r=>by
   cases (show u=Value.ref a from r);obtain⟨_,its,n,rv,e⟩:=rd.ok ok;obtain⟨as,z⟩:=DVs.reads ok q rv;exact⟨_,.list e rfl rfl z⟩
 | _,_,u,.tup (a:=a) rd q,r=>by
   cases (show u=Value.ref a from r);obtain⟨_,its,rv,ob,e,c,n,d⟩:=rd.ok ok;obtain⟨as,z⟩:=DVs.reads ok q rv;exact⟨_,.tuple e c d z⟩
theorem DVs.reads (ok:HOk P w H h):∀ {vs:List V}{ds:List PyData}{us:List Value},DVs H vs ds->Vals vs us->∃ as,ReadsAll h us ds as
 | _,_,_,.nil,.nil=>⟨_,.nil⟩
 | _,_,_,.cons a b,.cons r t=>by
   obtain⟨as,z⟩:=DV.reads ok a r;obtain⟨bs,y⟩:=DVs.reads ok b t;exact⟨_,.cons z y⟩
end
end
section
variable {X:Cx}
inductive qic (x:V) (y:V) (H:Hp) (Q:VK):Prop
 | mk (d e:_) (h1:DV H x d) (h2:DV H y e) (h3:SeqAt.shaped d=true) (h4:SeqAt.shaped e=true) (h5:Q (.bl (PyData.eqv d e)) H):qic x y H Q
def qlM:R2:=fun x y H Q=>qic x y H Q
inductive qh7 (x:V) (y:V) (H:Hp) (Q:VK):Prop
 | mk (d e:_) (h1:DV H x d) (h2:DV H y e) (h3:SeqAt.shaped d=true) (h4:SeqAt.shaped e=true) (h5:Q (.bl (!PyData.eqv d e)) H):qh7 x y H Q
def qlH:R2:=fun x y H Q=>qh7 x y H Q
theorem qkl (hu:X.A.units+64 < cLine):OpR X (compareOp .Eq) qlM:=by
 intro pins s σ H x y v u Q I rx ry h;obtain⟨d,e,hd,he,sd,se,q⟩:=h;obtain⟨as,ra⟩:=hd.reads I.hok rx;obtain⟨bs,rb⟩:=he.reads I.hok ry;exact eq_dataH ra rb sd se hu ⟨.bl _,H,I,rfl,q⟩
theorem qkk (hu:X.A.units+64 < cLine):OpR X (compareOp .NotEq) qlH:=by
 intro pins s σ H x y v u Q I rx ry h;obtain⟨d,e,hd,he,sd,se,q⟩:=h;obtain⟨as,ra⟩:=hd.reads I.hok rx;obtain⟨bs,rb⟩:=he.reads I.hok ry;exact ne_dataH ra rb sd se hu ⟨.bl _,H,I,rfl,q⟩
def qle:R2:=fun x y H Q=>rI0 (fun i j=>.int (i+j)) x y H Q∨qlN x y H Q∨∃ i j,x=.str i∧y=.str j∧i.length+j.length≤sizeLine∧Q (.str (i++j)) H
theorem Qx:OpR X (binaryOp .Add) qle:=op_add.or (op_cat.or qeL)
def qmf:R2:=fun x y H Q=>rEq x y H Q∨qlM x y H Q
def qmb:R2:=fun x y H Q=>rNe x y H Q∨qlH x y H Q
theorem uEq (hU:X.A.units+64 < cLine):OpR X (compareOp .Eq) qmf:=op_eq.or (qkl hU)
theorem uNe (hU:X.A.units+64 < cLine):OpR X (compareOp .NotEq) qmb:=op_ne.or (qkk hU)
end
theorem Qu:bootBuiltins "tuple"=some (.type "tuple"):=by decide +kernel
theorem qR:bootBuiltins "list"=some (.type "list"):=by decide +kernel
theorem ZM:bootBuiltins "int"=some (.type "int"):=by decide +kernel
theorem Jf:bootBuiltins "bool"=some (.type "bool"):=by decide +kernel
theorem j4:bootBuiltins "str"=some (.type "str"):=by decide +kernel
theorem qG:bootBuiltins "len"=some (.builtin "len"):=by decide +kernel
theorem Qv:bootBuiltins "max"=some (.builtin "max"):=by decide +kernel
theorem ZL:bootBuiltins "min"=some (.builtin "min"):=by decide +kernel
theorem qgD:bootBuiltins "abs"=some (.builtin "abs"):=by decide +kernel
theorem qo:bootBuiltins "isinstance"=some (.builtin "isinstance"):=by decide +kernel
structure Df (K:Frag) (mg:Str->Option Value) (x:Str) (st:Stmt) (ps:List Str) (f:Addr) (fd:FuncData):Prop where
 F:Fun K x x st f fd
 b:Binds K fd ps []
 m:mg x=some (.ref f)
 k:keepIn K (.ref f)=true
theorem qdR {H:Hp}{p q:Addr}{o:HO} (h:upd H p o q=none):q≠p∧H q=none:=by
 by_cases e:q=p
 · subst e;rw[qc]at h;cases h
 · rw[qh e]at h;exact⟨e,h⟩
theorem Same.new {H:Hp}{p:Addr} (o:HO) (h:H p=none):Same H (upd H p o):=fun b u e=>by rw[qh (qi e h)];exact e
theorem Same.then {H H1:Hp} (s:Same H H1) {p:Addr} (o:HO) (h:H1 p=none):Same H (upd H1 p o):=s.trans (Same.new o h)
def But (p:Addr) (H H':Hp):Prop:=∀ b o,H b=some o->b≠p->H' b=some o
theorem But.refl (p:Addr) (H:Hp):But p H H:=fun _ _ h _=>h
theorem But.trans {p:Addr}{H H1 H2:Hp} (a:But p H H1) (b:But p H1 H2):But p H H2:=fun c o h n=>b c o (a c o h n) n
theorem But.new {p:Addr}{H H1:Hp} (s:But p H H1) {q:Addr} (o:HO) (h:H1 q=none):But p H (upd H1 q o):=fun b u e n=>by
 have z:=s b u e n;rw[qh (qi z h)];exact z
theorem But.put {p:Addr}{H H1:Hp} (s:But p H H1) (o:HO):But p H (upd H1 p o):=fun b u e n=>by rw[qh n];exact s b u e n
theorem But.same {p:Addr}{H H1 H2:Hp} (a:But p H H1) (b:Same H1 H2):But p H H2:=fun c o h n=>b c o (a c o h n)
theorem ql {n:Nat} (h:n≤1000):n≤sizeLine:=Nat.le_of_lt (qw h)
theorem q8 {b:Bool}{A B:Prop} (e:b=false) (h:B):if b=true then A else B:=by rw[e];exact qjD h
theorem Jc {b:Bool}{A B:Prop} (e:b=true) (h:A):if b=true then A else B:=by rw[e];exact qe9 h
theorem qkX {b:Bool}{A B:Prop} (h1:b=true->A) (h2:b=false->B):if b=true then A else B:=by
 cases b
 · exact qjD (h2 rfl)
 · exact qe9 (h1 rfl)
theorem Qg {c A B:Prop} [Decidable c] (h1:c->A) (h2:¬ c->B):if (decide c)=true then A else B:=by
 by_cases h:c
 · rw[decide_eq_true h];exact qe9 (h1 h)
 · rw[decide_eq_false h];exact qjD (h2 h)
theorem qeT {c A B:Prop} [Decidable c] (h1:¬ c->A) (h2:c->B):if (!decide c)=true then A else B:=by
 by_cases h:c
 · rw[decide_eq_true h];exact qjD (h2 h)
 · rw[decide_eq_false h];exact qe9 (h1 h)
section
variable {prog:Program}{w:World}{A:Around}{R:Result->Shared->Prop}{s:Shared}
abbrev noE:Value->Shared->Prop:=fun _ _=>False
theorem qaQ {elt target iter:Expr}{ifs:List Expr}{scope:Scope}{pos:Pos}{it acc:Value}{env:Env} (I:Nat->Shared->Prop)
   (turn:∀ n s,I n s->wpAny (model prog w) A (pyNext it) (fun r s₁=>match r with
     | none=>R (.ok .next) s₁
     | some v=>wpAny (model prog w) A (letOwnedTupleGo target it v) (fun _ s₀=>wpAny (model prog w) A (assign target env v) (fun _ s₂ =>
         wpAny (model prog w) A (forIn ifs true fun c r=>if r=true then do let ok ← isTrue c env (eval c env);pure (ForInStep.yield ok) else pure (ForInStep.yield r)) (fun ok s₃ =>
           if ok=true then wpAny (model prog w) A (eval elt env) (fun x s₄ =>
             wpAny (model prog w) A (call (.builtin "list.append") [acc,x]) (fun _ s₅=>∃ m,m < n∧I m s₅) noE s₄) noE s₃
           else ∃ m,m < n∧I m s₃) noE s₂) noE s₀) noE s₁) noE s)
   (n:Nat) (h:I n s) :
   codeAny (model prog w) A (.compLoop (.ListComp elt [⟨target,iter,ifs,0⟩] scope pos) 0 it acc env) R s:=by
 refine codeAny_loop rfl I (fun n s hI=>?_) n h;show wpAny _ A ((compTurn (.ListComp elt [⟨target,iter,ifs,0⟩] scope pos) 0 it acc env).onRaise (fun x=>do noteFrame x env;theTreesLotGoes x)) _ _ s;refine wpAny_noted ?_;rw[compTurn_list];refine wpAny_bind (wpAny_standAt (wpAny_bind (wpAny_mono (turn n s hI) (fun r s₁ h₁=>?_) fun _ _ h'=>h'.elim)))
 cases r with
 | none=>exact wpAny_pure h₁
 | some v =>
   refine wpAny_bind (wpAny_mono h₁ (fun _ s₀ h₀=>?_) fun _ _ h'=>h'.elim);refine wpAny_bind (wpAny_mono h₀ (fun _ s₂ h₂=>wpAny_bind (wpAny_mono h₂ (fun ok s₃ h₃=>?_) fun _ _ h'=>h'.elim)) fun _ _ h'=>h'.elim)
   cases ok with
   | false=>exact wpAny_pure ⟨rfl,h₃⟩
   | true =>
     exact wpAny_bind (wpAny_bind (wpAny_mono h₃ (fun x s₄ h₄=>wpAny_bind (wpAny_mono h₄ (fun _ s₅ h₅=>wpAny_pure (wpAny_pure ⟨rfl,h₅⟩)) fun _ _ h'=>h'.elim)) fun _ _ h'=>h'.elim))
end
def ze (X:Cx) (scope:Scope) (N:List Str) (cl:List (Str×Addr)) (C:Addr) (s₀:Shared) (H₀:Hp) (ex:List Addr) (pn:List (Addr×Obj)):Cx where
 prog:=X.prog
 w:=X.w
 K:=X.K
 mg:=X.mg
 base:=X.base
 A:=X.A
 N:=N
 s₀:=s₀
 H₀:=H₀
 env:=compEnvC scope cl C X.env
 outer:=X.stack
 stack:=X.stack
 ex:=ex
 fn:=fun x=>!(cl.lookup x).isSome
 calm:=X.calm
 pn:=pn
 xe:=noE
def st0 (js:List (Option Nat)) (σ:St):St:=js.map fun o=>o.bind fun j=>(σ[j]?).join
def PTs (X:Cx) (ifs:List Expr) (t:TT):Prop :=
 ∀ (pins:List (Addr×Obj)) (s:Shared) (σ:St) (H:Hp) (Q:Bool->Hp->Prop),Inv X pins σ H s->t σ H Q ->
   wpAny (model X.prog X.w) X.A (forIn ifs true fun c r=>if r=true then do let ok ← isTrue c X.env (eval c X.env);pure (ForInStep.yield ok) else pure (ForInStep.yield r)) (TP X pins σ Q) X.xe s
def ql2:TT:=fun _ H Q=>Q true H
theorem Qa {X:Cx}:PTs X [] ql2:=fun _ _ _ H _ I h=>wpAny_tests_nil ⟨H,I,h⟩
theorem qas {X:Cx}{c:Expr}{t:TT} (h:PT X c t):PTs X [c] t:=fun pins s σ H Q I q=>wpAny_tests_one (h pins s σ H Q I q)
def jZ (J:It) (g:TG) (tt:TT) (te:TE) (D:Addr) (Q:VK) (σ0:St) (H0:Hp):Prop :=
 ∃ W:Nat->Nat->St->Hp->Prop,(∃ m,W 0 m σ0 H0)∧∀ i m σ' H',W i m σ' H' ->
   (J.stop i H'∧Q (.ref D) H')∨(J.go i H'∧∃ N:St->Hp->Prop,(∀ σ2 H2,N σ2 H2->∃ m',m' < m∧W (i+1) m' σ2 H2) ∧
     ∀ x H2,J.yld i H' x H2->g x σ' H2 fun σ3 H3=>tt σ3 H3 fun ok H4=>if ok=true then te σ3 H4 fun y H5=>∃ ys,H5 D=some (.lst ys)∧ys.length < sizeLine∧N σ3 (upd H5 D (.lst (ys++[y]))) else N σ3 H4)
def qiM (wi:TI) (g:TG) (tt:TT) (te:TE) (js:List (Option Nat)):TE:=fun σ H Q=>wi σ H fun J H1=>∀ D,H1 D=none->jZ J g tt te D Q (st0 js σ) (upd H1 D (.lst []))
structure CompOk (X:Cx) (scope:Scope) (N:List Str) (cl:List (Str×Addr)) (js:List (Option Nat)):Prop where
 clos:closureFor scope X.env=pure cl
 sub:∀ x c,cl.lookup x=some c->X.env.cells.lookup x=some c
 all:∀ x,((relabel scope X.env).names.lookup x=some .cell∨(relabel scope X.env).names.lookup x=some .free)->∃ c,cl.lookup x=some c
 cell:∀ y∈scope.names,y.2≠.cell
 kind:scope.kind=.function
 names:∀ y∈scope.names,y.2=.local->scope.names.lookup y.1=some .local
 len:js.length=N.length
 fr:∀ (i j:Nat) (x:Str),js[i]?=some (some j)->N[i]?=some x->X.N[j]?=some x∧X.env.kindOf x=some .cell∧((relabel scope X.env).names.lookup x=some .cell∨(relabel scope X.env).names.lookup x=some .free)
section
variable {X:Cx}
theorem qiP {js:List (Option Nat)}{σ:St}{i:Nat}{v:V} (h:(st0 js σ)[i]?=some (some v)):∃ j,js[i]?=some (some j)∧σ[j]?=some (some v):=by
 unfold st0 at h;rw[List.getElem?_map]at h
 cases e:js[i]? with
 | none=>rw[e]at h;cases h
 | some o =>
   rw[e]at h
   cases o with
   | none=>cases h
   | some j =>
     refine⟨j,rfl,?_⟩;have h':(σ[j]?).join=some v:=by simpa using h
     cases e2:σ[j]? with
     | none=>rw[e2]at h';cases h'
     | some o2=>rw[e2]at h';cases o2 with
       | none=>cases h'
       | some u=>rw[show u=v by simpa using h']
theorem qju {pins:List (Addr×Obj)}{σ:St}{H:Hp}{s:Shared}{scope:Scope}{N:List Str}{cl:List (Str×Addr)}{js:List (Option Nat)}{C:Addr}{fp:List Addr} (k:CompOk X scope N cl js) (I:Inv X pins σ H s)
   (hf:∀ b∈fp,qeF X pins H b) (hfl:∀ b∈fp,b < s.heap.objs.size) (hC:s.heap.objs.size≤C):(ze X scope N cl C s H fp (X.pn++pins)).Ok where
 mod:=I.ok.mod
 kind:=k.kind
 glob:=I.ok.glob
 blt:=I.ok.blt
 above:=hC
 inj:=fun x y c h1 h2=>I.ok.inj x y c (k.sub _ _ h1) (k.sub _ _ h2)
 has:=fun x h=>k.all x h
 cab:=fun x c h1 h2=>by
   have h1':(!(cl.lookup x).isSome)=true:=h1;have h2':cl.lookup x=some c:=h2;rw[h2']at h1';cases h1'
 hd:=I.ok.hd
 frames:=I.ok.frames
 stk:=.inl rfl
 exf:=fun b hb=>⟨Nat.ne_of_lt (Nat.lt_of_lt_of_le (hfl b hb) hC),fun x c h=>(hf b hb).2.2.2.2.1 x c (k.sub _ _ h)⟩
 bs:=I.bs
 bsz:=Nat.le_trans I.ok.bsz I.sz
 noex:=fun b o e hb=>by
   rcases (hf b hb).2.2.2.1 with z|z
   · exact I.ok.noex b o e z
   · exact absurd (Nat.lt_of_lt_of_le (Heap.lt_size e) (Nat.le_trans I.ok.bsz z)) (Nat.lt_irrefl _)
 exfs:=fun b hb z=>by
   rcases List.mem_cons.mp (I.stkSub b z) with e|e
   · exact(hf b hb).2.1 e
   · exact(hf b hb).2.2.1 e
 funs:=I.stack
 frf:=I.stkFree
theorem qeA {pins:List (Addr×Obj)}{σ:St}{H:Hp}{s:Shared}{h1:Heap}{t':Nat}{scope:Scope}{N:List Str}{cl:List (Str×Addr)}{js:List (Option Nat)}{C D:Addr}{fp:List Addr}{m:Str->Option Value} (k:CompOk X scope N cl js) (I:Inv X pins σ H s)
   (hf:∀ b∈fp,qeF X pins H b) (hfl:∀ b∈fp,b < s.heap.objs.size) (hD:s.heap.objs.size≤D) (hC:s.heap.objs.size≤C) (hDC:D≠C)
   (hn:h1.Ns C m) (hl:h1.get? D=some { cls:=.type "list",data:=.seq ([]:List Value).toArray }) (hk:∀ b o,s.heap.get? b=some o->h1.get? b=some o) :
   Inv (ze X scope N cl C s H fp (X.pn++pins)) [] (st0 js σ) (upd H D (.lst [])) { s with heap:=h1,toks:=t' }:=by
 have fD:H D=none:=I.hok.fresh hD;have fC:H C=none:=I.hok.fresh hC;have nC:∀ b,b < s.heap.objs.size->b≠C:=fun b hb=>Nat.ne_of_lt (Nat.lt_of_lt_of_le hb hC);refine⟨qju k I hf hfl hC,rfl,I.bare,?_,?_,?_,?_,?_,?_,?_,?_⟩
 · exact(Un.laid (fs:=frs X.stack) (ex:=fp) (o:=.lst []) hk hD fD)
 · refine⟨m,hn,fun i x v e1 e2 e3=>?_⟩;obtain⟨j,f1,f2⟩:=qiP e2;obtain⟨g1,g2,g3⟩:=k.fr i j x f1 e1;obtain⟨m',hn',hl'⟩:=I.loc;obtain⟨u,ru,lk⟩:=hl' j x v g1 f2 (.inr (.inl g2));refine⟨u,ru,.inr ⟨g3,?_⟩⟩;obtain⟨c,hc⟩:=k.all x g3;rcases lk with ⟨z,_⟩|⟨_,c',hc',ic⟩
   · rw[g2]at z;cases z
   · have e:=k.sub _ _ hc;rw[hc']at e;cases e;obtain⟨o,ho,hd⟩:=ic;exact⟨c,hc,o,hk _ _ ho,hd⟩
 · intro x c h;obtain⟨v,o,ho,hd⟩:=I.cell x c (k.sub _ _ h);exact⟨v,o,hk _ _ ho,hd⟩
 · show (upd H D (.lst [])) C=none;rw[qh hDC.symm];exact fC
 · intro x c h;obtain⟨v,o,ho,hd⟩:=I.cell x c (k.sub _ _ h);rw[qh (Nat.ne_of_lt (Nat.lt_of_lt_of_le (Heap.lt_size ho) hD))];exact I.freeC x c (k.sub _ _ h)
 · intro p hp;have hp':p∈X.pn++pins:=by simpa[ze] using hp
   obtain⟨e,n,ne,nf,d⟩:=I.pin p hp';have lt:=Heap.lt_size e;refine⟨hk _ _ e,by rw[qh (Nat.ne_of_lt (Nat.lt_of_lt_of_le lt hD))];exact n,nC _ lt,fun z=>?_,d⟩;rcases List.mem_cons.mp (I.stkSub _ z) with e|e
   · exact ne e
   · exact nf e
 · exact I.hok.laid hk hD ⟨Nat.zero_le _,[],0,.nil,hl⟩
 · show (st0 js σ).length=N.length;unfold st0;rw[List.length_map];exact k.len
theorem qhd {Cm:Cx->Prop}{elt iter tg:Expr}{ifs:List Expr}{scope:Scope}{pos:Pos}{wi:TI}{g:TG}{tt:TT}{te:TE}{N:List Str}{cl:List (Str×Addr)}{js:List (Option Nat)} (hc:∀ C s₀ H₀ ex pn,Cm (ze X scope N cl C s₀ H₀ ex pn)) (k:CompOk X scope N cl js) (hi:PIC Cm X tg iter wi)
   (hg:∀ C s₀ H₀ ex pn,PG (ze X scope N cl C s₀ H₀ ex pn) tg g) (ht:∀ C s₀ H₀ ex pn,PTs (ze X scope N cl C s₀ H₀ ex pn) ifs tt) (he:∀ C s₀ H₀ ex pn,PE (ze X scope N cl C s₀ H₀ ex pn) elt te)
   (hs:∀ x,foldedSetIterable iter X.env x=pure x:=by intro _;rfl) :
   PE X (.ListComp elt [⟨tg,iter,ifs,0⟩] scope pos) (qiM wi g tt te js):=by
 intro pins s σ H Q I h;rw[eval_ListComp];refine wpAny_comprehension_free (use:=none) rfl hs k.clos k.kind k.names ?_;refine thn (hi pins s σ H _ I h) fun v s1 h1=>thn h1 fun itv s2 h2=>?_;obtain⟨it,fp,tn,J,H2,e,I2,T,st2,f2,hD⟩:=h2;subst e;refine wpAny_newObj_type (wpAny_newFunctionEnv k.cell (by intro y hy;simp at hy) (fun h₁ hns₁ hsb₁=>?_) k.kind);dsimp only at hns₁ hsb₁ ⊢;generalize hH2:s2.heap.push { cls:=.type "list",dict:=none,data:=.seq ([]:List Value).toArray }=P2 at hns₁ hsb₁ ⊢;have hC:P2.objs.size=s2.heap.objs.size+1:=by rw[← hH2,Heap.size_push]
 have hDC:s2.heap.objs.size≠P2.objs.size:=by rw[hC];exact Nat.ne_of_lt (Nat.lt_succ_self _)
 have hCle:s2.heap.objs.size≤P2.objs.size:=by rw[hC];exact Nat.le_succ _
 have old:∀ b o,s2.heap.get? b=some o->h₁.get? b=some o:=fun b o e=>hsb₁.extBut b o (Nat.ne_of_lt (Nat.lt_of_lt_of_le (Heap.lt_size e) hCle)) (Heap.get?_push_of_some _ (hH2▸Heap.get?_push_of_some _ e));have hacc:h₁.get? s2.heap.objs.size=some { cls:=.type "list",data:=.seq ([]:List Value).toArray }:=hsb₁.extBut _ _ hDC (Heap.get?_push_of_some _ (hH2▸Heap.get?_push_size _ rfl))
 have hfl:∀ b∈fp,b < s2.heap.objs.size:=fun b hb=>by
   obtain⟨o,e,_⟩:=T.obj _ _ st2 b hb;exact Heap.lt_size e
 have fD:H2 s2.heap.objs.size=none:=I2.hok.fresh (Nat.le_refl _);obtain⟨W,⟨m0,w0⟩,turn⟩:=hD _ fD
 have IX:Inv (ze X scope N cl P2.objs.size s2 H2 fp (X.pn++pins)) [] (st0 js σ) (upd H2 s2.heap.objs.size (.lst [])) { s2 with heap:=h₁,toks:=s2.toks+([]:List (Str×Value)).length } :=
   qeA k I2 f2 hfl (Nat.le_refl _) hCle hDC hns₁ hacc old
 have hg':=hg P2.objs.size s2 H2 fp (X.pn++pins);have ht':=ht P2.objs.size s2 H2 fp (X.pn++pins);have he':=he P2.objs.size s2 H2 fp (X.pn++pins)
 have stat:∀ {H':Hp},(∀ b∈fp,H' b=none)->∀ b∈fp,qeF (ze X scope N cl P2.objs.size s2 H2 fp (X.pn++pins)) [] H' b:=fun hn b hb=>by
   obtain⟨g0,g1,g2,g3,g4,g5⟩:=f2 b hb;refine⟨hn b hb,Nat.ne_of_lt (Nat.lt_of_lt_of_le (hfl b hb) hCle),fun z=>?_,.inl hb,fun x c h=>g4 x c (k.sub _ _ h),fun p hp=>g5 p (by simpa[ze] using hp)⟩;rcases List.mem_cons.mp (I2.stkSub b z) with e|e
   · exact g1 e
   · exact g2 e
 have loop:∀ s₃:Shared,s₃={ s2 with heap:=h₁,toks:=s2.toks+([]:List (Str×Value)).length } ->
     codeAny (model X.prog X.w) X.A (.compLoop (.ListComp elt [⟨tg,iter,ifs,0⟩] scope pos) 0 (.ref it) (.ref s2.heap.objs.size) (compEnvC scope cl P2.objs.size X.env))
       (compPost (model X.prog X.w) X.A X.xe none (EP X pins σ Q) (.ref s2.heap.objs.size) P2.objs.size) s₃:=by
   rintro s₃ rfl;refine qaQ (fun n s'=>∃ i σ' H',Inv (ze X scope N cl P2.objs.size s2 H2 fp (X.pn++pins)) [] σ' H' s'∧tn i s'.heap∧(∀ b∈fp,H' b=none)∧W i n σ' H') ?_ m0
     ⟨0,st0 js σ,_,IX,T.keep _ _ _ st2 (fun b hb o e=>old b o e),fun b hb=>by rw[qh (Nat.ne_of_lt (hfl b hb))];exact(f2 b hb).1,w0⟩
   rintro n s3 ⟨i,σ3,H3,I3,st3,fr3,w3⟩;rcases turn i n σ3 H3 w3 with ⟨stop,qn⟩|⟨go,N2,hN,step⟩
   · refine thn (T.done (ze X scope N cl P2.objs.size s2 H2 fp (X.pn++pins)) rfl rfl rfl (hc _ _ _ _ _) i [] s3 σ3 H3 noE I3 (stat fr3) st3 stop) fun r s4 ⟨hr,I4⟩=>?_;subst hr;obtain⟨m4,hn4,_⟩:=id I4.loc;refine⟨m4,hn4,fun h' hsb=>⟨.ref s2.heap.objs.size,H3,?_,rfl,qn⟩⟩;have u4:Un (frs X.stack) fp H2 H3 s2.heap s4.heap:=I4.base;have ltC:∀ b o,s2.heap.get? b=some o->b≠P2.objs.size:=fun b o e=>Nat.ne_of_lt (Nat.lt_of_lt_of_le (Heap.lt_size e) hCle)
     have u5:Un (frs X.stack) fp H2 H3 s2.heap h' :=
       { keep:=fun b o e n hb hx=>hsb.extBut b o (ltC b o e) (u4.keep b o e n hb hx)
         slot:=fun b o e n hb hx=>by
           obtain⟨sl,q⟩:=u4.slot b o e n hb hx;exact⟨sl,hsb.extBut b _ (ltC b o e) q⟩
         free:=u4.free
         there:=fun b o e hx=>by
           obtain⟨o',q⟩:=u4.there b o e hx;exact⟨o',hsb.extBut b _ (ltC b o e) q⟩
         tups:=u4.tups
         frzs:=u4.frzs
         tbls:=u4.tbls }
     have fC:H3 P2.objs.size=none:=I4.free
     have hok5:HOk X.prog X.w H3 h':=fun b u e=>(I4.hok b u e).stay (fun c v hc' q=>hsb.extBut c v (fun z=>by
       rcases hc' with y|y
       · rw[y]at z;rw[z,fC]at e;cases e
       · rw[z,fC]at y;cases y) q) (fun _ q=>q) fun _ _ q=>q
     exact I2.call' (s':={ s4 with heap:=h' }) I4.os u5 hok5 I4.bare fun b hb=>by
       obtain⟨g0,g1,g2,g3,g4,g5⟩:=f2 b hb;exact⟨g3,g1,g4,g5⟩
   · refine thn (T.item (ze X scope N cl P2.objs.size s2 H2 fp (X.pn++pins)) rfl rfl rfl (hc _ _ _ _ _) i [] s3 σ3 H3 noE I3 (stat fr3) st3 go) fun r s4 ⟨u,hr,h4⟩=>?_;subst hr;refine thn h4 fun _ s5 zz_=>?_;obtain⟨x,H5,I5,r5,y5,st5,fr5⟩:=zz_;have I5':=I5.pinned (stat fr5) (T.obj _ _ st5);refine thn (hg' _ s5 σ3 H5 x u _ I5' r5 (step x H5 y5)) fun _ s6 zz_=>?_;obtain⟨σ6,H6,I6,q6⟩:=zz_;refine thn (ht' _ s6 σ6 H6 _ I6 q6) fun ok s7 zz_=>?_;obtain⟨H7,I7,q7⟩:=zz_;have again:∀ {s8:Shared}{σ8:St}{H8:Hp},Inv (ze X scope N cl P2.objs.size s2 H2 fp (X.pn++pins)) ([]++qbv fp s5.heap) σ8 H8 s8->N2 σ8 H8 ->
         ∃ m,m < n∧∃ i σ' H',Inv (ze X scope N cl P2.objs.size s2 H2 fp (X.pn++pins)) [] σ' H' s8∧tn i s8.heap∧(∀ b∈fp,H' b=none)∧W i m σ' H':=fun {s8 σ8 H8} I8 n8=>by
       obtain⟨m',hm,w8⟩:=hN σ8 H8 n8;refine⟨m',hm,i+1,σ8,H8,I8.unpinned,T.keep _ _ _ st5 fun b hb o e=>(I8.pin (b,o) (List.mem_append_right _ (List.mem_append_right _ (zW hb e)))).1,fun b hb=>?_,w8⟩;obtain⟨o,e,d⟩:=T.obj _ _ st5 b hb;exact(I8.pin (b,o) (List.mem_append_right _ (List.mem_append_right _ (zW hb e)))).2.1
     cases ok with
     | false=>exact again I7 (by simpa using q7)
     | true =>
       have q7':te σ6 H7 fun y H5=>∃ ys,H5 s2.heap.objs.size=some (.lst ys)∧ys.length < sizeLine∧N2 σ6 (upd H5 s2.heap.objs.size (.lst (ys++[y]))):=by simpa using q7
       refine thn (he' _ s7 σ6 H7 _ I7 q7') fun xv s8 zz_=>?_;obtain⟨y,H8,I8,r8,ys,hy,hlen,n8⟩:=zz_;refine thn (zc (X:=ze X scope N cl P2.objs.size s2 H2 fp (X.pn++pins)) _ s8 σ6 H8 (.ref s2.heap.objs.size) [y] (.ref s2.heap.objs.size) [xv] (fun _ H9=>N2 σ6 H9) I8 rfl (.cons r8 .nil) ⟨_,ys,y,rfl,rfl,hy,hlen,n8⟩) fun _ s9 ⟨_,H9,I9,_,n9⟩=>again I9 n9
 exact codeAny_compStart_list (loop _ rfl) (T.self _ 0 _ _ _ (T.keep _ _ _ st2 (fun b hb o e=>old b o e)) (loop _ rfl))
theorem Qb {elt iter tg:Expr}{ifs:List Expr}{scope:Scope}{pos:Pos}{wi:TI}{g:TG}{tt:TT}{te:TE}{N:List Str}{cl:List (Str×Addr)}{js:List (Option Nat)} (hc:X.calm=true) (k:CompOk X scope N cl js) (hi:PI X tg iter wi)
   (hg:∀ C s₀ H₀ ex pn,PG (ze X scope N cl C s₀ H₀ ex pn) tg g) (ht:∀ C s₀ H₀ ex pn,PTs (ze X scope N cl C s₀ H₀ ex pn) ifs tt) (he:∀ C s₀ H₀ ex pn,PE (ze X scope N cl C s₀ H₀ ex pn) elt te)
   (hs:∀ x,foldedSetIterable iter X.env x=pure x:=by intro _;rfl) :
   PE X (.ListComp elt [⟨tg,iter,ifs,0⟩] scope pos) (qiM wi g tt te js):=qhd (Cm:=fun X=>X.calm=true) (fun _ _ _ _ _=>hc) k hi hg ht he hs
end
def Its (x:Str):It:=⟨fun i _=>i < x.cps.size,fun i H v H'=>H'=H∧∃ c,x.cps[i]?=some c∧v=.str ⟨#[c]⟩,fun i _=>x.cps.size≤i⟩
theorem qis {M:Model}{A:Around}{E:Value->Shared->Prop}{s:Shared}{tg:Expr}{it:Addr}{y:Str}{t:Tok}{Q:Unit->Shared->Prop} (hQ:Q () s):wpAny M A (letOwnedTupleGo tg (.ref it) (.str y t)) Q E s:=by
 unfold letOwnedTupleGo;cases tg<;>exact wpAny_pure hQ
theorem qgW {P:Program}{w:World}{K:Frag}{tg:Expr} (it:Addr) (x:Str) (t:Tok) (ty:String) (hty:ty="str_ascii_iterator"∨ty="str_iterator") :
   qkN P w K tg (Its x) [it] it (fun i h=>h.IsStrIter it ty x t i) where
 mem:=by simp
 obj:=fun i h st b hb=>by
   have e:b=it:=by simpa using hb
   subst e;obtain⟨o,e,c,d⟩:=st;exact⟨o,e,fun v z=>by rw[d]at z;cases z⟩
 keep:=fun i h h' st k=>by
   obtain⟨o,e,r⟩:=st;exact⟨o,k it (by simp) o e,r⟩
 item:=by
   intro X hP hw hK hc i pins s σ H E I hf st hg;subst hP hw hK;obtain⟨f0,f1,f2,f3,f4,f5⟩:=hf it (by simp);have hi:i < x.cps.size:=hg;rcases hty with rfl|rfl
   · refine wpAny_pyNext_ascii_item st (c:=x.cps[i]) (by simp[hi]) fun h' st' sb=>?_;have I1:Inv X pins σ H { s with heap:=h',toks:=s.toks+1 }:=I.turned (fun b o hb e=>sb.extBut b o hb e) f0 f1 f3 f4 f5;exact⟨_,rfl,qis (s:={ s with heap:=h',toks:=s.toks+1 }) ⟨.str ⟨#[x.cps[i]]⟩,H,I1,⟨_,rfl⟩,⟨rfl,x.cps[i],by simp[hi],rfl⟩,st',fun b hb=>(hf b hb).1⟩⟩
   · refine wpAny_pyNext_wide_item st (c:=x.cps[i]) (by simp[hi]) fun h' st' sb=>?_;have I1:Inv X pins σ H { s with heap:=h',toks:=s.toks+1 }:=I.turned (fun b o hb e=>sb.extBut b o hb e) f0 f1 f3 f4 f5;exact⟨_,rfl,qis (s:={ s with heap:=h',toks:=s.toks+1 }) ⟨.str ⟨#[x.cps[i]]⟩,H,I1,⟨_,rfl⟩,⟨rfl,x.cps[i],by simp[hi],rfl⟩,st',fun b hb=>(hf b hb).1⟩⟩
 done:=by
   intro X hP hw hK hc i pins s σ H E I hf st hg;subst hP hw hK;obtain⟨f0,f1,f2,f3,f4,f5⟩:=hf it (by simp);have hi:x.cps.size≤i:=hg;rcases hty with rfl|rfl
   · exact wpAny_pyNext_ascii_end (I.ok.hd hc) st (by simp[hi]) fun h' eb=>⟨rfl,I.turned (t':=s.toks) (fun b o hb e=>eb b o hb e) f0 f1 f3 f4 f5⟩
   · exact wpAny_pyNext_wide_end (I.ok.hd hc) st (by simp[hi]) fun h' eb=>⟨rfl,I.turned (t':=s.toks) (fun b o hb e=>eb b o hb e) f0 f1 f3 f4 f5⟩
 self:=fun _ _ _ _ _ st h=>by
   rcases hty with rfl|rfl
   · exact wpAny_pyIter_striter_ascii st h
   · exact wpAny_pyIter_striter_wide st h
def qmm (te:TE):TI:=fun σ H R=>te σ H fun x H1=>∃ z,x=.str z∧R (Its z) H1
section
variable {X:Cx}{tg:Expr}
theorem qke {e:Expr}{te:TE} (he:PE X e te):PI X tg e (qmm te):=by
 intro pins s σ H R I h;refine thn (he pins s σ H _ I h) fun v s1 zz_=>?_;obtain⟨x,H1,I1,r1,q1⟩:=zz_;obtain⟨z,e,q⟩:=q1;subst e;obtain⟨t,rfl⟩:=r1
 have fin:∀ ty,(ty="str_ascii_iterator"∨ty="str_iterator")->PIE X pins σ tg R (.ref s1.heap.objs.size) { s1 with heap:=s1.heap.push { cls:=.type ty,data:=.fields #[.str z t,.int 0 0] } }:=fun ty hty=>by
   refine⟨s1.heap.objs.size,[s1.heap.objs.size],_,_,H1,rfl,I1.kept (t':=s1.toks) fun b o e=>Heap.get?_push_of_some _ e,qgW _ z t ty hty,⟨_,Heap.get?_push_size _ rfl,rfl,rfl⟩,fun b hb=>?_,q⟩;have e:b=s1.heap.objs.size:=by simpa using hb
   subst e;exact I1.fpOk (Nat.le_refl _) (I1.hok.fresh (Nat.le_refl _))
 cases ha:z.cps.all (· < 128)
 · exact wpAny_pyIter_wide ha (fin _ (.inr rfl))
 · exact wpAny_pyIter_ascii ha (fin _ (.inl rfl))
end
theorem qhL {x:Str}{g:TG}{tt:TT}{te:TE}{D:Addr}{Q:VK}{σ:St}{H:Hp} (Pv:Nat->St->Hp->Prop) (h0:Pv 0 σ H)
   (hs:∀ i c σ H,x.cps[i]?=some c->Pv i σ H->g (.str ⟨#[c]⟩) σ H fun σ3 H3=>tt σ3 H3 fun ok H4=>if ok=true then te σ3 H4 fun y H5=>∃ ys,H5 D=some (.lst ys)∧ys.length < sizeLine∧Pv (i+1) σ3 (upd H5 D (.lst (ys++[y]))) else Pv (i+1) σ3 H4)
   (hd:∀ σ H,Pv x.cps.size σ H->Q (.ref D) H) :
   jZ (Its x) g tt te D Q σ H:=by
 refine⟨fun i m σ H=>m=x.cps.size - i∧i≤x.cps.size∧Pv i σ H,⟨x.cps.size,by simp,Nat.zero_le _,h0⟩,?_⟩;rintro i m σ H ⟨rfl,hi,p⟩;by_cases hlt:i < x.cps.size
 · refine .inr ⟨hlt,Pv (i+1),fun σ' H' p'=>⟨x.cps.size - (i+1),by omega,rfl,hlt,p'⟩,fun v H' y=>?_⟩;obtain⟨rfl,c,hc,rfl⟩:=y;exact hs i c σ _ hc p
 · have e:i=x.cps.size:=by omega
   subst e;exact .inl ⟨Nat.le_refl _,hd σ H p⟩
theorem qbD {lo:Int}{n:Nat}{g:TG}{tt:TT}{te:TE}{D:Addr}{Q:VK}{σ:St}{H:Hp} (Pv:Nat->St->Hp->Prop) (h0:Pv 0 σ H)
   (hs:∀ i σ H,i < n->Pv i σ H->g (.int (lo+i)) σ H fun σ3 H3=>tt σ3 H3 fun ok H4=>if ok=true then te σ3 H4 fun y H5=>∃ ys,H5 D=some (.lst ys)∧ys.length < sizeLine∧Pv (i+1) σ3 (upd H5 D (.lst (ys++[y]))) else Pv (i+1) σ3 H4)
   (hd:∀ σ H,Pv n σ H->Q (.ref D) H) :
   jZ (Itr lo n) g tt te D Q σ H:=by
 refine⟨fun i m σ H=>m=n - i∧i≤n∧Pv i σ H,⟨n,by simp,Nat.zero_le _,h0⟩,?_⟩;rintro i m σ H ⟨rfl,hi,p⟩;by_cases hlt:i < n
 · refine .inr ⟨hlt,Pv (i+1),fun σ' H' p'=>⟨n - (i+1),by omega,rfl,hlt,p'⟩,fun v H' y=>?_⟩;obtain⟨rfl,rfl⟩:=y;exact hs i σ _ hlt p
 · have e:i=n:=by omega
   subst e;exact .inl ⟨Nat.le_refl _,hd σ H p⟩
theorem zD {K:Frag}{a:Addr}{xs:List V}{g:TG}{tt:TT}{te:TE}{D:Addr}{Q:VK}{σ:St}{H:Hp} (Pv:Nat->St->Hp->Prop) (h0:Pv 0 σ H) (hl:∀ i σ H,i≤xs.length->Pv i σ H->SqL K H a xs)
   (hs:∀ i x σ H,xs[i]?=some x->Pv i σ H->g x σ H fun σ3 H3=>tt σ3 H3 fun ok H4=>if ok=true then te σ3 H4 fun y H5=>∃ ys,H5 D=some (.lst ys)∧ys.length < sizeLine∧Pv (i+1) σ3 (upd H5 D (.lst (ys++[y]))) else Pv (i+1) σ3 H4)
   (hd:∀ σ H,Pv xs.length σ H->Q (.ref D) H) :
   jZ (Itl K a) g tt te D Q σ H:=by
 refine⟨fun i m σ H=>m=xs.length - i∧i≤xs.length∧Pv i σ H,⟨xs.length,by simp,Nat.zero_le _,h0⟩,?_⟩;rintro i m σ H ⟨rfl,hi,p⟩;have q:=hl i σ H hi p;by_cases hlt:i < xs.length
 · refine .inr ⟨⟨xs,xs[i],q,by simp[hlt]⟩,Pv (i+1),fun σ' H' p'=>⟨xs.length - (i+1),by omega,rfl,hlt,p'⟩,fun v H' y=>?_⟩;obtain⟨e,y⟩:=y;subst e;exact hs i v σ _ (y xs q) p
 · have e:i=xs.length:=by omega
   subst e;exact .inl ⟨⟨xs,q,Nat.le_refl _⟩,hd σ H p⟩
theorem qgE:∀ {bs:List Bool}{us:List Value},Vals (bs.map V.bl) us->us=bs.map Value.bool
 | [],_,r=>by cases r;rfl
 | b::bs,_,r=>by
   cases r with
   | cons r t =>
     cases r;rw[qgE t];rfl
section
variable {X:Cx}
def qmg (K:Frag):List V->Hp->VK->Prop:=fun xs H Q=>∃ (p:Addr) (bs:List Bool),xs=[.ref p]∧SqL K H p (bs.map V.bl)∧Q (.bl (bs.all id)) H
theorem qdk {α:Type} (f:α->Bool) (d:α):∀ l:List α,(List.range l.length).all (fun i=>f (l.getD i d))=l.all f
 | []=>rfl
 | a::l=>by
   rw[List.length_cons,List.range_succ_eq_map,List.all_cons,List.all_map,List.all_cons,← qdk f d l];rfl
theorem qdd (hc:X.calm=true):CallR X (.builtin "all") (qmg X.K):=by
 intro pins s σ H xs us Q I r h;obtain⟨p,bs,rfl,hq,q⟩:=h;obtain⟨u,rfl,ru⟩:=JH r;cases ru;obtain⟨its,rv,pl,hz⟩:=I.list hq;have eits:=qgE rv;subst eits;have hlt:p < s.heap.objs.size:=by obtain⟨_,_,e,_⟩:=pl;exact Heap.lt_size e
 refine call_all_walk (wpAny_pyIter_list pl.isList ?_);have W:=Walks.list (prog:=X.prog) (w:=X.w) (A:=X.A.in1) (I.ok.hd hc) s.heap.objs.size p (Nat.ne_of_lt hlt) (bs.map Value.bool).toArray;refine⟨_,_,_,_,_,_,(fun i=>(bs.getD i true)),rfl,W,⟨⟨_,Heap.get?_push_size _ rfl,rfl,rfl⟩,pl.isList.push _⟩,?_,?_⟩
 · intro i v s' Q' E' hP hQ;have hv:(bs.map Value.bool)[i]?=some v:=by simpa using hP
   rw[List.getElem?_map]at hv
   cases e:bs[i]? with
   | none=>rw[e]at hv;cases hv
   | some b =>
     rw[e]at hv;cases hv;have e2:bs.getD i true=b:=by rw[List.getD_eq_getElem?_getD,e];rfl
     have hQ:Q' (bs.getD i true) s':=hQ;rw[e2]at hQ;exact wpAny_truthy_bool hQ
 · intro h' tk hk;have es:(bs.map Value.bool).toArray.size=bs.length:=by simp
   have ea:(List.range (bs.map Value.bool).toArray.size).all (fun i=>bs.getD i true)=bs.all id:=by rw[es];exact qdk id true bs
   refine⟨.bl _,H,?_,by rw[ea];rfl,q⟩;exact I.kept (t':=tk) fun b o e=>hk b o (by simp;exact Nat.ne_of_lt (Heap.lt_size e)) (Heap.get?_push_of_some _ e)
end
theorem qdf:bootBuiltins "all"=some (.builtin "all"):=by decide +kernel
section
variable {X:Cx}
def qlF:V->Option Int->Option Int->Hp->VK->Prop:=fun x lo hi H Q=>∃ z,x=.str z∧z.length≤sizeLine∧Q (.str (Txt.slice z lo hi)) H
theorem qjZ:SlR X qlF:=by
 intro pins s σ H x v vl vu lo hi sl Q I rx hs pl pu h;obtain⟨z,rfl,hz,q⟩:=h;obtain⟨t,rfl⟩:=rx;refine⟨"str",_,F.slot_str_getitem.lookup,typeIs_str _ _ _,?_⟩;have fin:∀ t' k,EP X pins σ Q (.str (Txt.slice z lo hi) t') { s with toks:=k }:=fun t' k=>⟨.str _,H,I.tok k,⟨_,rfl⟩,q⟩
 obtain⟨o,e1,e2,e3⟩:=hs
 cases pl with
 | none =>
   cases pu with
   | none=>exact wpAny_getItem_str_slice (l:=none) (u:=none) (st:=none) ⟨o,e1,e2,e3⟩ rfl (post_val_or_str ⟨Nat.le_trans (Txt.slice_le z _ _) hz,fin⟩)
   | int j u=>exact wpAny_getItem_str_slice (l:=none) (u:=some (j,u)) (st:=none) ⟨o,e1,e2,e3⟩ rfl (post_val_or_str ⟨Nat.le_trans (Txt.slice_le z _ _) hz,fin⟩)
 | int i ui =>
   cases pu with
   | none=>exact wpAny_getItem_str_slice (l:=some (i,ui)) (u:=none) (st:=none) ⟨o,e1,e2,e3⟩ rfl (post_val_or_str ⟨Nat.le_trans (Txt.slice_le z _ _) hz,fin⟩)
   | int j u=>exact wpAny_getItem_str_slice (l:=some (i,ui)) (u:=some (j,u)) (st:=none) ⟨o,e1,e2,e3⟩ rfl (post_val_or_str ⟨Nat.le_trans (Txt.slice_le z _ _) hz,fin⟩)
theorem uSl:SlR X (fun x lo hi H Q=>qlG X.K x lo hi H Q∨qlF x lo hi H Q):=sl_list.or qjZ
theorem qcN:OpR X (compareOp .LtE) (fun x y H Q=>∃ i j,x=.str i∧y=.str j∧Q (.bl (!decide (j.cps.toList < i.cps.toList))) H):=by
 intro pins s σ H x y v u Q I rx ry h;obtain⟨i,j,rfl,rfl,q⟩:=h;obtain⟨t,rfl⟩:=rx;obtain⟨t',rfl⟩:=ry;exact P.le_str ⟨.bl _,H,I,rfl,q⟩
end
def zZ (cells:List (Str×Addr)):List (Str×NameKind)->List (Str×Addr)->List (Str×Addr)
 | [],acc=>acc
 | (n,k)::r,acc=>zZ cells r (if k == .free then (n,(cells.lookup n).getD 0)::acc else acc)
def qiB (env:Env) (x:Str×NameKind) (cs:List (Str×Addr)):Sem (ForInStep (List (Str×Addr))):=match x with
 | (name,kind)=>if (kind == NameKind.free)=true then (do let a ← cellOf env name;pure (ForInStep.yield ((name,a)::cs))) else pure (ForInStep.yield cs)
theorem qgw {env:Env}{n:Str}{k:NameKind}{acc:List (Str×Addr)} (h:k=.free->∃ c,env.cells.lookup n=some c) :
   qiB env (n,k) acc=pure (ForInStep.yield (if k == .free then (n,(env.cells.lookup n).getD 0)::acc else acc)):=by
 by_cases hk:k=.free
 · subst hk;obtain⟨c,hc⟩:=h rfl;show (do let a ← cellOf env n;pure (ForInStep.yield ((n,a)::acc)))=(pure (ForInStep.yield ((n,(env.cells.lookup n).getD 0)::acc)):Sem _);unfold cellOf;rw[hc];rfl
 · cases k<;>first|exact absurd rfl hk|rfl
theorem qbE {env:Env}:∀ (names:List (Str×NameKind)) (acc:List (Str×Addr)),(∀ y∈names,y.2=.free->∃ c,env.cells.lookup y.1=some c) ->
   (forIn names acc (qiB env))=(pure (zZ env.cells names acc):Sem (List (Str×Addr)))
 | [],acc,_=>rfl
 | (n,k)::r,acc,h=>by
   rw[List.forIn_cons,qgw fun e=>h (n,k) List.mem_cons_self e];exact qbE (env:=env) r _ fun y hy=>h y (List.mem_cons_of_mem _ hy)
theorem Je {scope:Scope}{env:Env} (h:∀ y∈scope.names,y.2=.free->∃ c,env.cells.lookup y.1=some c):closureFor scope env=pure (zZ env.cells scope.names []):=by
 unfold closureFor;exact(congrArg (fun (m:Sem (List (Str×Addr)))=>m >>= fun cs=>pure cs) (qbE (env:=env) scope.names [] h)).trans rfl
theorem zI {cells:List (Str×Addr)}{x:Str}:∀ (names:List (Str×NameKind)) (acc:List (Str×Addr)),(∀ y∈names,y.2=.free->∃ c,cells.lookup y.1=some c)->(∀ c,acc.lookup x=some c->cells.lookup x=some c) ->
   (∀ c,(zZ cells names acc).lookup x=some c->cells.lookup x=some c)∧(((x,NameKind.free)∈names∨(acc.lookup x).isSome=true)->((zZ cells names acc).lookup x).isSome=true)
 | [],acc,_,ha=>⟨ha,fun h=>h.elim (fun z=>nomatch z) id⟩
 | (n,k)::r,acc,h,ha=>by
   unfold zZ;have hr:∀ y∈r,y.2=.free->∃ c,cells.lookup y.1=some c:=fun y hy=>h y (List.mem_cons_of_mem _ hy)
   cases hk:(k == NameKind.free) with
   | false =>
     obtain⟨i1,i2⟩:=zI (cells:=cells) (x:=x) r acc hr ha;refine⟨by simpa using i1,fun z=>?_⟩
     have:((zZ cells r acc).lookup x).isSome=true:=i2 (by
       rcases z with z|z
       · rcases List.mem_cons.mp z with e|e
         · cases e;cases hk
         · exact .inl e
       · exact .inr z)
     simpa using this
   | true =>
     obtain⟨c,hc⟩:=h (n,k) List.mem_cons_self (by simpa using hk);have hc:cells.lookup n=some c:=hc;have ek:k=NameKind.free:=by simpa using hk
     subst ek
     have ha':∀ c',((n,(cells.lookup n).getD 0)::acc).lookup x=some c'->cells.lookup x=some c':=fun c' z=>by
       rw[List.lookup_cons]at z
       cases e:x == n with
       | true =>
         rw[e]at z;have e':x=n:=by simpa using e
         rw[e',hc]at *;simpa using z
       | false=>rw[e]at z;exact ha c' z
     obtain⟨i1,i2⟩:=zI (cells:=cells) (x:=x) r _ hr ha';refine⟨i1,fun z=>i2 ?_⟩;by_cases e:x=n
     · right;rw[List.lookup_cons,e];simp
     · rcases z with z|z
       · rcases List.mem_cons.mp z with q|q
         · cases q;exact absurd rfl e
         · exact .inl q
       · right;rw[List.lookup_cons]
         have:(x == n)=false:=by simpa using e
         rw[this];exact z
theorem ZQ {x:Str}{k:NameKind}:∀ {names:List (Str×NameKind)},names.lookup x=some k->(x,k)∈names
 | [],h=>by cases h
 | (n,j)::r,h=>by
   rw[List.lookup_cons]at h
   cases e:x == n with
   | true =>
     rw[e]at h;have e':x=n:=by simpa using e
     cases h;rw[e'];exact List.mem_cons_self
   | false=>rw[e]at h;exact List.mem_cons_of_mem _ (ZQ h)
theorem qar {scope:Scope}{env:Env}{x:Str}{k:NameKind} (h:(x,k)∈(relabel scope env).names):(x,k)∈scope.names∨(k=.cell∧(x,NameKind.free)∈scope.names):=by
 have h':(x,k)∈scope.names.map fun (n,k)=>if (k == .free && env.scope.kind == .function && env.kindOf n == some .cell) then (n,.cell) else (n,k):=h
 obtain⟨⟨n,j⟩,hm,e⟩:=List.mem_map.mp h';simp only at e;split at e
 · rename_i c
   cases e
   have:j=.free:=by
     have c1:=(Bool.and_eq_true_iff.mp (Bool.and_eq_true_iff.mp c).1).1;simpa using c1
   subst this;exact .inr ⟨rfl,hm⟩
 · cases e;exact .inl hm
theorem Qr {env:Env}{x:Str} (hX:env.scope.kind=.function) (g3:env.kindOf x=some .cell):∀ {names:List (Str×NameKind)},names.lookup x=some .free ->
   (names.map fun (n,k)=>if (k == NameKind.free && env.scope.kind == .function && env.kindOf n == some .cell) then (n,NameKind.cell) else (n,k)).lookup x=some .cell
 | [],h=>by cases h
 | (n,k)::r,h=>by
   have ih:=Qr hX g3 (names:=r);show List.lookup x ((if (k == NameKind.free && env.scope.kind == .function && env.kindOf n == some .cell)=true then (n,NameKind.cell) else (n,k))::_)=_;rw[List.lookup_cons]at h
   cases e:x == n with
   | true =>
     rw[e]at h;have e':x=n:=by simpa using e
     have ek:k=.free:=by simpa using h
     rw[ek,← e',if_pos (show (NameKind.free == NameKind.free && env.scope.kind == .function && env.kindOf x == some .cell)=true by rw[hX,g3];decide),List.lookup_cons];simp
   | false =>
     rw[e]at h;by_cases hc:(k == NameKind.free && env.scope.kind == .function && env.kindOf n == some .cell)=true
     · rw[if_pos hc,List.lookup_cons,e];exact ih h
     · rw[if_neg hc,List.lookup_cons,e];exact ih h
theorem CompOk.of {X:Cx}{scope:Scope}{N:List Str}{js:List (Option Nat)} (hkind:scope.kind=.function) (hcell:∀ y∈scope.names,y.2≠.cell) (hnames:∀ y∈scope.names,y.2=.local->scope.names.lookup y.1=some .local)
   (hX:X.env.scope.kind=.function) (hfree:∀ y∈scope.names,y.2=.free->X.env.kindOf y.1=some .cell∧∃ c,X.env.cells.lookup y.1=some c) (len:js.length=N.length)
   (hfr:∀ (i j:Nat) (x:Str),js[i]?=some (some j)->N[i]?=some x->X.N[j]?=some x∧scope.names.lookup x=some .free) :
   CompOk X scope N (zZ X.env.cells scope.names []) js where
 clos:=Je fun y hy z=>(hfree y hy z).2
 sub:=fun x c h=>(zI scope.names [] (fun y hy z=>(hfree y hy z).2) (fun c h=>by cases h)).1 c h
 all:=fun x h=>by
   have hm:(x,NameKind.free)∈scope.names:=by
     rcases h with h|h
     · rcases qar (ZQ h) with z|⟨_,z⟩
       · exact absurd rfl (hcell _ z)
       · exact z
     · rcases qar (ZQ h) with z|⟨e,_⟩
       · exact z
       · cases e
   have:=(zI (cells:=X.env.cells) (x:=x) scope.names [] (fun y hy z=>(hfree y hy z).2) (fun c h=>by cases h)).2 (.inl hm)
   exact Option.isSome_iff_exists.mp this
 cell:=hcell
 kind:=hkind
 names:=hnames
 len:=len
 fr:=fun i j x h1 h2=>by
   obtain⟨g1,g2⟩:=hfr i j x h1 h2;obtain⟨g3,_⟩:=hfree (x,.free) (ZQ g2) rfl;refine⟨g1,g3,.inl ?_⟩;exact Qr hX g3 g2
def qjq (sc:Scope) (N0 N:List Str) (js:List (Option Nat)):Bool:=(js.zip N).all fun p=>match p.1 with
 | none=>true
 | some j=>N0[j]? == some p.2 && sc.names.lookup p.2 == some .free
theorem qew {sc:Scope}{N0:List Str}:∀ {js:List (Option Nat)}{N:List Str},qjq sc N0 N js=true->∀ (i j:Nat) (x:Str),js[i]?=some (some j)->N[i]?=some x->N0[j]?=some x∧sc.names.lookup x=some .free:=by
 intro js N h i j x h1 h2
 have hm:(some j,x)∈js.zip N:=by
   refine List.mem_of_getElem? (i:=i) ?_;rw[List.getElem?_zip_eq_some];exact⟨h1,h2⟩
 have:=List.all_eq_true.mp h _ hm
 simpa using this
theorem CompOk.def {CX:CXT}{P:Program}{w:World}{K:Frag}{mg:Str->Option Value}{base:Heap}{N0:List Str}{qual:Str}{sc0:Scope}{f:Addr}{cd:Value}{A:Around}{outer:List Env}{s:Shared}{H:Hp}{E:XK}{scope:Scope}
   (N:List Str) (js:List (Option Nat)) (hk0:sc0.kind=.function:=by rfl) (hk:scope.kind=.function:=by rfl) (hcell:∀ y∈scope.names,y.2≠.cell:=by decide +kernel) (hnames:∀ y∈scope.names,y.2=.local->scope.names.lookup y.1=some .local:=by decide +kernel)
   (hfr0:∀ y∈scope.names,y.2=.free->sc0.names.lookup y.1=some .cell:=by decide +kernel) (len:js.length=N.length:=by rfl) (hfr:qjq scope N0 N js=true:=by decide +kernel) :
   CompOk (zw CX P w K mg base N0 qual sc0 f cd A outer s H E).nox scope N (zZ (zw CX P w K mg base N0 qual sc0 f cd A outer s H E).nox.env.cells scope.names []) js :=
 CompOk.of hk hcell hnames hk0 (fun y hy z=>⟨hfr0 y hy z,Option.isSome_iff_exists.mp (PySem.W.cellsFrom_some _ _ _ (.inl (hfr0 y hy z)))⟩) len (qew hfr)
section
variable {prog:Program}{w:World}{A:Around}{E:Value->Shared->Prop}{s:Shared}
theorem qhl {j u:Addr}{k:Nat}{xs:Array Value}{x:Value}{Q:Value->Shared->Prop} (a:s.heap.IsTupleIter j u k) (b:s.heap.IsTuple u xs) (e:xs[k]?=some x)
   (q:∀ h',h'.IsTupleIter j u (k+1)->Heap.SameBut j s.heap h'->Q x { s with heap:=h' }):wpAny (model prog w) A (Builtin.SmallTypes.nextOf (.ref j)) Q E s:=by
 obtain⟨oj,gj,cj,dj⟩:=id a;obtain⟨ou,gu,_,nu,du⟩:=b;unfold Builtin.SmallTypes.nextOf;refine wpAny_bind (wpAny_callSpecial?_slot (name:=Str.ofString "__next__") a.typeIs F.slot_tuple_iterator_next (wpAny_call_entry F.slot_tuple_iterator_next a.typeIs F.entry_tuple_iterator_next ?_ (F.args_tuple_iterator_next_1 _)));show wpAny _ _ (field (.ref j) 0 >>= _) _ _ s;refine wpAny_bind (wpAny_field gj dj (x:=.ref u) rfl ?_);show wpAny _ _ (if (Value.ref u == Value.none)=true then _ else _) _ _ s;rw[if_neg (show ¬ ((Value.ref u == Value.none)=true) from Bool.false_ne_true)];show wpAny _ _ (field (.ref j) 1 >>= _) _ _ s;refine wpAny_bind (wpAny_field gj dj (x:=.int k 0) rfl ?_);show wpAny _ _ (seqItems? (.ref u) >>= _) _ _ s;refine wpAny_bind (wpAny_seqItems gu du ?_);simp only[Int.toNat_natCast,e];refine wpAny_bind (wpAny_setField gj dj (by simp) (wpAny_pure ⟨x,rfl,wpAny_pure (q _ ?_ (Heap.SameBut.update ..))⟩));refine⟨_,Heap.get?_update_self _ gj (Obj.isFreed_of_fields (Obj.data_mapFields dj _)),(Obj.cls_mapFields ..).trans cj,?_⟩;rw[Obj.data_mapFields dj];simp[rawInt]
theorem qjf {j u:Addr}{k:Nat}{xs:Array Value}{Q:Value->Shared->Prop} (hd:A.handled=none) (a:s.heap.IsTupleIter j u k) (b:s.heap.IsTuple u xs) (e:xs[k]?=none)
   (q:∀ h' z,Heap.ExtBut j s.heap h'->(∃ o,h'.get? z=some o∧o.cls=.type "StopIteration")->E (.ref z) { s with heap:=h' }):wpAny (model prog w) A (Builtin.SmallTypes.nextOf (.ref j)) Q E s:=by
 obtain⟨oj,gj,cj,dj⟩:=id a;obtain⟨ou,gu,_,nu,du⟩:=b;unfold Builtin.SmallTypes.nextOf;refine wpAny_bind (wpAny_callSpecial?_slot (name:=Str.ofString "__next__") a.typeIs F.slot_tuple_iterator_next (wpAny_call_entry F.slot_tuple_iterator_next a.typeIs F.entry_tuple_iterator_next ?_ (F.args_tuple_iterator_next_1 _)));show wpAny _ _ (field (.ref j) 0 >>= _) _ _ s;refine wpAny_bind (wpAny_field gj dj (x:=.ref u) rfl ?_);show wpAny _ _ (if (Value.ref u == Value.none)=true then _ else _) _ _ s;rw[if_neg (show ¬ ((Value.ref u == Value.none)=true) from Bool.false_ne_true)];show wpAny _ _ (field (.ref j) 1 >>= _) _ _ s;refine wpAny_bind (wpAny_field gj dj (x:=.int k 0) rfl ?_);show wpAny _ _ (seqItems? (.ref u) >>= _) _ _ s;refine wpAny_bind (wpAny_seqItems gu du ?_);simp only[Int.toNat_natCast,e];refine wpAny_bind (wpAny_rule (wpAny_bind (wpAny_setField gj dj (by simp) ?_)));show wpAny _ _ (newExc (.type "StopIteration") [] >>= _) _ _ { s with heap:=_ };refine wpAny_bind ?_;simp only[newExc,newTuple];refine wpAny_bind (wpAny_newObj_type ?_ (by size_fits));refine wpAny_bind (m:=firstArgMember _ _) (wpAny_of_eq (a:=Value.none) (by first|rfl|(simp only[firstArgMember];rfl)) (wpAny_newObj_type ?_ (by size_fits)));simp only[raiseNew];refine wpAny_bind (wpAny_handled ?_)
 first|rw[show A.in1.handled=none from hd]|rw[hd]
 exact wpAny_bind (wpAny_pure (wpAny_throw (q _ _ (((Heap.SameBut.update ..).extBut.push _).push _) ⟨_,Heap.get?_push_size _ rfl,rfl⟩)))
def itK:Bool->Heap->Addr->Addr->Nat->Prop
 | false,h,j,u,k=>h.IsListIter j u k
 | true,h,j,u,k=>h.IsTupleIter j u k
def sqK:Bool->Heap->Addr->Array Value->Prop
 | false,h,u,xs=>h.IsList u xs
 | true,h,u,xs=>h.IsTuple u xs
theorem itK.at {t:Bool}{h h':Heap}{j u:Addr}{k:Nat} (x:itK t h j u k) (e:∀ o,h.get? j=some o->h'.get? j=some o):itK t h' j u k:=by
 cases t with
 | false=>exact Heap.IsListIter.at x e
 | true=>obtain⟨o,g,r⟩:=x;exact⟨o,e o g,r⟩
theorem itK.get {t:Bool}{h:Heap}{j u:Addr}{k:Nat} (x:itK t h j u k):∃ o,h.get? j=some o∧o.data=.fields #[.ref u,.int k 0]:=by
 cases t with
 | false=>obtain⟨o,g,_,d⟩:=x;exact⟨o,g,d⟩
 | true=>obtain⟨o,g,_,d⟩:=x;exact⟨o,g,d⟩
theorem sqK.at {t:Bool}{h h':Heap}{u:Addr}{xs:Array Value} (x:sqK t h u xs) (e:∀ o,h.get? u=some o->h'.get? u=some o):sqK t h' u xs:=by
 cases t with
 | false=>exact Heap.IsList.at x e
 | true=>obtain⟨o,g,r⟩:=x;exact⟨o,e o g,r⟩
theorem sqK.lt {t:Bool}{h:Heap}{u:Addr}{xs:Array Value} (x:sqK t h u xs):u < h.objs.size:=by
 cases t with
 | false=>obtain⟨o,g,_⟩:=x;exact Heap.lt_size g
 | true=>obtain⟨o,g,_⟩:=x;exact Heap.lt_size g
theorem qb5 {t:Bool}{j u:Addr}{k:Nat}{xs:Array Value}{x:Value}{Q:Value->Shared->Prop} (a:itK t s.heap j u k) (b:sqK t s.heap u xs) (e:xs[k]?=some x)
   (q:∀ h',itK t h' j u (k+1)->Heap.SameBut j s.heap h'->Q x { s with heap:=h' }):wpAny (model prog w) A (Builtin.SmallTypes.nextOf (.ref j)) Q E s:=by
 cases t with
 | false=>exact wpAny_nextOf_list_item a b e q
 | true=>exact qhl a b e q
theorem qf1 {t:Bool}{j u:Addr}{k:Nat}{xs:Array Value}{Q:Value->Shared->Prop} (hd:A.handled=none) (a:itK t s.heap j u k) (b:sqK t s.heap u xs) (e:xs[k]?=none)
   (q:∀ h' z,Heap.ExtBut j s.heap h'->(∃ o,h'.get? z=some o∧o.cls=.type "StopIteration")->E (.ref z) { s with heap:=h' }):wpAny (model prog w) A (Builtin.SmallTypes.nextOf (.ref j)) Q E s:=by
 cases t with
 | false=>exact wpAny_nextOf_list_end hd a b e q
 | true=>exact qjf hd a b e q
theorem qiI {t:Bool}{z TI TO i1 i2 l1 l2:Addr}{k:Nat}{xs ys:Array Value}{x y a b:Value}{Q:Value->Shared->Prop} (D:ZipApart z TI TO i1 i2 l1 l2)
   (gz:IsZip s.heap z TI TO .none) (gI:IsPair s.heap TI (.ref i1) (.ref i2)) (gO:IsPair s.heap TO a b) (j1:itK t s.heap i1 l1 k) (j2:itK t s.heap i2 l2 k) (m1:sqK t s.heap l1 xs) (m2:sqK t s.heap l2 ys) (ex:xs[k]?=some x) (ey:ys[k]?=some y)
   (q:∀ h',IsZip h' z TI TO (rawInt s.heap.objs.size)->IsPair h' TO x y->itK t h' i1 l1 (k+1)->itK t h' i2 l2 (k+1)->IsPair h' s.heap.objs.size x y ->
     (∀ c o,c≠z->c≠TO->c≠i1->c≠i2->s.heap.get? c=some o->h'.get? c=some o)->Q (.ref s.heap.objs.size) { s with heap:=h' }) :
   wpAny (model prog w) A (Builtin.«zip.__next__» ⟨[.ref z],[]⟩) (fun fin s'=>∃ v,fin=.done (.ret v)∧Q v s') E s:=by
 show wpAny _ _ (field (.ref z) 2 >>= _) _ _ s;refine wpAny_bind (wpAny_field gz rfl (x:=.bool false) rfl ?_);show wpAny _ _ (field (.ref z) 3 >>= _) _ _ s;refine wpAny_bind (wpAny_field gz rfl (x:=.ref TI) rfl (wpAny_bind (wpAny_seqItems gI rfl ?_)));show wpAny _ _ (Builtin.SmallTypes.ownedTupleIsFree (.ref z) >>= _) _ _ s;refine wpAny_bind ?_;unfold Builtin.SmallTypes.ownedTupleIsFree;refine wpAny_bind (wpAny_field gz rfl (x:=.none) rfl (wpAny_pure ?_));simp only[if_true];refine wpAny_bind (wpAny_rule (wpAny_bind (wpAny_field gz rfl (x:=.ref TO) rfl (wpAny_bind (wpAny_setField_rec gz (by simp) fun g1 z1 n1=>?_)))));replace z1:IsZip g1 z TI TO .ellipsis:=z1;refine wpAny_bind ?_;simp only[List.zipIdx_cons,List.zipIdx_nil,List.forIn_cons,List.forIn_nil];refine wpAny_bind (wpAny_bind (wpAny_onRaise ?_));show wpAny _ _ (Builtin.SmallTypes.nextOf (.ref i1) >>= _) _ _ { s with heap:=g1 };refine wpAny_bind (qb5 (t:=t) (s:={ s with heap:=g1 }) (j1.at fun o e=>n1.extBut _ o D.i1z e) (m1.at fun o e=>n1.extBut _ o D.l1z e) ex fun g2 j12 n2=>wpAny_pure ?_);have O2:IsPair g2 TO a b:=n2.extBut _ _ D.TOi1 (n1.extBut _ _ D.TOz gO);refine wpAny_bind (wpAny_seqItems O2 rfl (wpAny_bind (wpAny_updateSeq_pair O2 fun g3 O3 n3=>?_)));replace O3:IsPair g3 TO x b:=O3;refine wpAny_bind (wpAny_letGo (wpAny_pure (wpAny_bind (wpAny_bind (wpAny_onRaise ?_)))));show wpAny _ _ (Builtin.SmallTypes.nextOf (.ref i2) >>= _) _ _ { s with heap:=g3 };have k3:∀ c o,c≠z->c≠i1->c≠TO->s.heap.get? c=some o->g3.get? c=some o:=fun c o c1 c2 c3 e=>n3.extBut _ _ c3 (n2.extBut _ _ c2 (n1.extBut _ _ c1 e));refine wpAny_bind (qb5 (t:=t) (s:={ s with heap:=g3 }) (j2.at fun o e=>k3 _ o D.i2z D.i12.symm D.TOi2.symm e) (m2.at fun o e=>k3 _ o D.l2z D.l2i1 D.l2TO e) ey fun g4 j24 n4=>wpAny_pure ?_);have O4:IsPair g4 TO x b:=n4.extBut _ _ D.TOi2 O3;refine wpAny_bind (wpAny_seqItems O4 rfl (wpAny_bind (wpAny_updateSeq_pair O4 fun g5 O5 n5=>?_)));replace O5:IsPair g5 TO x y:=O5;refine wpAny_bind (wpAny_letGo (wpAny_pure (wpAny_pure (wpAny_bind (wpAny_seqItems O5 rfl (wpAny_bind (wpAny_newTuple ?_)))))));have sz:g5.objs.size=s.heap.objs.size:=by rw[n5.1,n4.1,n3.1,n2.1,n1.1]
 have z5:IsZip g5 z TI TO .ellipsis:=n5.extBut _ _ D.TOz.symm (n4.extBut _ _ D.i2z.symm (n3.extBut _ _ D.TOz.symm (n2.extBut _ _ D.i1z.symm z1)));have k5:∀ c o,c≠z->c≠TO->c≠i1->c≠i2->s.heap.get? c=some o->g5.get? c=some o:=fun c o c1 c2 c3 c4 e=>n5.extBut _ _ c2 (n4.extBut _ _ c4 (k3 c o c1 c3 c2 e));have p1:itK t g5 i1 l1 (k+1):=((j12.at fun o e=>n3.extBut _ o D.TOi1.symm e).at fun o e=>n4.extBut _ o D.i12 e).at fun o e=>n5.extBut _ o D.TOi1.symm e;have p2:itK t g5 i2 l2 (k+1):=j24.at fun o e=>n5.extBut _ o D.TOi2.symm e;have lz:z < g5.objs.size:=Heap.lt_size z5;show wpAny _ _ (Builtin.SmallTypes.ownedTupleHandOut (.ref z) (.ref g5.objs.size) >>= _) _ _ { s with heap:=_ };refine wpAny_bind ?_;unfold Builtin.SmallTypes.ownedTupleHandOut;have z6:IsZip (g5.push { cls:=.type "tuple",data:=.seq #[x,y] }) z TI TO .ellipsis:=Heap.get?_push_of_some _ z5;refine wpAny_bind (wpAny_setField_rec z6 (by simp) fun g7 z7 n7=>?_);replace z7:IsZip g7 z TI TO (rawInt g5.objs.size):=z7;refine wpAny_setField_rec z7 (by simp) fun g8 z8 n8=>?_;replace z8:IsZip g8 z TI TO (rawInt g5.objs.size):=z8;have up:∀ c o,c≠z->g5.get? c=some o->g8.get? c=some o:=fun c o c1 e=>n8.extBut _ _ c1 (n7.extBut _ _ c1 (Heap.get?_push_of_some _ e));have T8:IsPair g8 g5.objs.size x y:=n8.extBut _ _ (Nat.ne_of_gt lz) (n7.extBut _ _ (Nat.ne_of_gt lz) (Heap.get?_push_size _ rfl));rw[sz]at z8 T8;refine wpAny_pure ⟨_,rfl,?_⟩;show Q (.ref g5.objs.size) { s with heap:=g8 };rw[sz];exact q g8 z8 (up _ _ D.TOz O5) (p1.at fun o e=>up _ o D.i1z e) (p2.at fun o e=>up _ o D.i2z e) T8 fun c o c1 c2 c3 c4 e=>up c o c1 (k5 c o c1 c2 c3 c4 e)
theorem qjI {t:Bool}{z TI TO i1 i2 l1 l2:Addr}{k:Nat}{xs ys:Array Value}{a b:Value}{Q:Fin->Shared->Prop} (hd:A.handled=none) (D:ZipApart z TI TO i1 i2 l1 l2)
   (gz:IsZip s.heap z TI TO .none) (gI:IsPair s.heap TI (.ref i1) (.ref i2)) (gO:IsPair s.heap TO a b) (j1:itK t s.heap i1 l1 k) (j2:itK t s.heap i2 l2 k) (m1:sqK t s.heap l1 xs) (m2:sqK t s.heap l2 ys) (en:xs[k]?=none∨ys[k]?=none)
   (q:∀ h' v,(∀ c o,c≠z->c≠TO->c≠i1->c≠i2->s.heap.get? c=some o->h'.get? c=some o)->(∃ o,h'.get? v=some o∧o.cls=.type "StopIteration")->E (.ref v) { s with heap:=h' }) :
   wpAny (model prog w) A (Builtin.«zip.__next__» ⟨[.ref z],[]⟩) Q E s:=by
 show wpAny _ _ (field (.ref z) 2 >>= _) _ _ s;refine wpAny_bind (wpAny_field gz rfl (x:=.bool false) rfl ?_);show wpAny _ _ (field (.ref z) 3 >>= _) _ _ s;refine wpAny_bind (wpAny_field gz rfl (x:=.ref TI) rfl (wpAny_bind (wpAny_seqItems gI rfl ?_)));show wpAny _ _ (Builtin.SmallTypes.ownedTupleIsFree (.ref z) >>= _) _ _ s;refine wpAny_bind ?_;unfold Builtin.SmallTypes.ownedTupleIsFree;refine wpAny_bind (wpAny_field gz rfl (x:=.none) rfl (wpAny_pure ?_));simp only[if_true];refine wpAny_bind (wpAny_rule (wpAny_bind (wpAny_field gz rfl (x:=.ref TO) rfl (wpAny_bind (wpAny_setField_rec gz (by simp) fun g1 z1 n1=>?_)))));replace z1:IsZip g1 z TI TO .ellipsis:=z1;refine wpAny_bind ?_;simp only[List.zipIdx_cons,List.zipIdx_nil,List.forIn_cons,List.forIn_nil];refine wpAny_bind (wpAny_bind (wpAny_onRaise ?_));show wpAny _ _ (Builtin.SmallTypes.nextOf (.ref i1) >>= _) _ _ { s with heap:=g1 };have a1:itK t g1 i1 l1 k:=j1.at fun o e=>n1.extBut _ o D.i1z e;have b1:sqK t g1 l1 xs:=m1.at fun o e=>n1.extBut _ o D.l1z e
 cases ex:xs[k]? with
 | none =>
   refine wpAny_bind (qf1 (t:=t) (s:={ s with heap:=g1 }) hd a1 b1 ex fun g2 v n2 sv=>?_);obtain⟨ov,gv,cv⟩:=sv;have z2:IsZip g2 z TI TO .ellipsis:=n2 _ _ D.i1z.symm z1;have vz:v≠z:=fun e=>by subst e;rw[z2]at gv;cases gv;simp at cv
   exact wpAny_setField_rec z2 (by simp) fun g3 _ n3=>q g3 v (fun c o c1 _ c3 _ e=>n3.extBut _ _ c1 (n2 _ _ c3 (n1.extBut _ _ c1 e))) ⟨ov,n3.extBut _ _ vz gv,cv⟩
 | some x =>
   have ey:ys[k]?=none:=en.resolve_left fun e=>by rw[ex]at e;cases e
   refine wpAny_bind (qb5 (t:=t) (s:={ s with heap:=g1 }) a1 b1 ex fun g2 j12 n2=>wpAny_pure ?_);have O2:IsPair g2 TO a b:=n2.extBut _ _ D.TOi1 (n1.extBut _ _ D.TOz gO);refine wpAny_bind (wpAny_seqItems O2 rfl (wpAny_bind (wpAny_updateSeq_pair O2 fun g3 O3 n3=>?_)));refine wpAny_bind (wpAny_letGo (wpAny_pure (wpAny_bind (wpAny_bind (wpAny_onRaise ?_)))));show wpAny _ _ (Builtin.SmallTypes.nextOf (.ref i2) >>= _) _ _ { s with heap:=g3 };have k3:∀ c o,c≠z->c≠i1->c≠TO->s.heap.get? c=some o->g3.get? c=some o:=fun c o c1 c2 c3 e=>n3.extBut _ _ c3 (n2.extBut _ _ c2 (n1.extBut _ _ c1 e));refine wpAny_bind (qf1 (t:=t) (s:={ s with heap:=g3 }) hd (j2.at fun o e=>k3 _ o D.i2z D.i12.symm D.TOi2.symm e) (m2.at fun o e=>k3 _ o D.l2z D.l2i1 D.l2TO e) ey fun g4 v n4 sv=>?_);obtain⟨ov,gv,cv⟩:=sv;have z4:IsZip g4 z TI TO .ellipsis:=n4 _ _ D.i2z.symm (n3.extBut _ _ D.TOz.symm (n2.extBut _ _ D.i1z.symm z1));have vz:v≠z:=fun e=>by subst e;rw[z4]at gv;cases gv;simp at cv
   exact wpAny_setField_rec z4 (by simp) fun g5 _ n5=>q g5 v (fun c o c1 c2 c3 c4 e=>n5.extBut _ _ c1 (n4 _ _ c4 (k3 c o c1 c3 c2 e))) ⟨ov,n5.extBut _ _ vz gv,cv⟩
theorem qg8 {t:Bool}{z TI TO i1 i2 l1 l2:Addr}{k:Nat}{xs ys:Array Value}{x y a b:Value}{Q:Option Value->Shared->Prop} (D:ZipApart z TI TO i1 i2 l1 l2)
   (gz:IsZip s.heap z TI TO .none) (gI:IsPair s.heap TI (.ref i1) (.ref i2)) (gO:IsPair s.heap TO a b) (j1:itK t s.heap i1 l1 k) (j2:itK t s.heap i2 l2 k) (m1:sqK t s.heap l1 xs) (m2:sqK t s.heap l2 ys) (ex:xs[k]?=some x) (ey:ys[k]?=some y)
   (q:∀ h',IsZip h' z TI TO (rawInt s.heap.objs.size)->IsPair h' TO x y->itK t h' i1 l1 (k+1)->itK t h' i2 l2 (k+1)->IsPair h' s.heap.objs.size x y ->
     (∀ c o,c≠z->c≠TO->c≠i1->c≠i2->s.heap.get? c=some o->h'.get? c=some o)->Q (some (.ref s.heap.objs.size)) { s with heap:=h' }) :
   wpAny (model prog w) A (pyNext (.ref z)) Q E s:=by
 have T:s.TypeIs (.ref z) "zip":=⟨_,gz,rfl⟩
 unfold pyNext
 exact wpAny_bind (wpAny_attempt (wpAny_callSpecial?_slot (name:=Str.ofString "__next__") T F.slot_zip_next (wpAny_call_entry F.slot_zip_next T F.entry_zip_next
   (qiI D gz gI gO j1 j2 m1 m2 ex ey fun h' c1 c2 c3 c4 c5 c6=>wpAny_pure (q h' c1 c2 c3 c4 c5 c6)) (F.args_zip_next_1 _))))
theorem qi7 {t:Bool}{z TI TO i1 i2 l1 l2:Addr}{k:Nat}{xs ys:Array Value}{a b:Value}{Q:Option Value->Shared->Prop} (hd:A.handled=none) (D:ZipApart z TI TO i1 i2 l1 l2)
   (gz:IsZip s.heap z TI TO .none) (gI:IsPair s.heap TI (.ref i1) (.ref i2)) (gO:IsPair s.heap TO a b) (j1:itK t s.heap i1 l1 k) (j2:itK t s.heap i2 l2 k) (m1:sqK t s.heap l1 xs) (m2:sqK t s.heap l2 ys) (en:xs[k]?=none∨ys[k]?=none)
   (q:∀ h',(∀ c o,c≠z->c≠TO->c≠i1->c≠i2->s.heap.get? c=some o->h'.get? c=some o)->Q none { s with heap:=h' }):wpAny (model prog w) A (pyNext (.ref z)) Q E s:=by
 have T:s.TypeIs (.ref z) "zip":=⟨_,gz,rfl⟩
 unfold pyNext
 refine wpAny_bind (wpAny_attempt (wpAny_callSpecial?_slot (name:=Str.ofString "__next__") T F.slot_zip_next (wpAny_call_entry F.slot_zip_next T F.entry_zip_next
   (qjI hd D gz gI gO j1 j2 m1 m2 en fun h' v hk sv=>?_) (F.args_zip_next_1 _))))
 obtain⟨o,go,co⟩:=sv;exact wpAny_bind (wpAny_isInstance (T:="StopIteration") (b:=true) ⟨o,go,co⟩ isSubtype_stop (wpAny_pure (q _ hk)))
end
def itN:Bool->String
 | false=>"list_iterator"
 | true=>"tuple_iterator"
abbrev zk1 (t:Bool) (h:Heap) (u:Addr):Heap:=h.push { cls:=.type (itN t),data:=.fields #[.ref u,.int 0 0] }
abbrev zk3 (t:Bool) (h:Heap) (u v:Addr):Heap:=(zk1 t (zk1 t h u) v).push { cls:=.type "tuple",data:=.seq #[.ref h.objs.size,.ref (zk1 t h u).objs.size] }
abbrev zk4 (t:Bool) (h:Heap) (u v:Addr):Heap:=(zk3 t h u v).push { cls:=.type "tuple",data:=.seq #[.none,.none] }
abbrev zk5 (t:Bool) (h:Heap) (u v:Addr):Heap:=(zk4 t h u v).push { cls:=.type "zip",data:=.fields #[.none,.bool false,.bool false,.ref (zk1 t (zk1 t h u) v).objs.size,.ref (zk3 t h u v).objs.size] }
theorem qjH (t:Bool) (u v:Addr) (xs ys:Array Value):Meets (Builtin.«zip.__new__» ⟨[.type "zip",.ref u,.ref v],[]⟩) (fun _ R s=>sqK t s.heap u xs∧sqK t s.heap v ys ∧
     R (.ok (.ret (.ref (zk4 t s.heap u v).objs.size))) { s with heap:=zk5 t s.heap u v }) :=
 .of_wp fun prog w A R s h=>by
   obtain⟨hp,g,d,tk,os⟩:=s;obtain⟨m1,m2,h⟩:=h;have hsub:=sub_zip
   cases t with
   | false =>
     have L1:Heap.IsList (Shared.heap ⟨hp,g,d,tk,os⟩) u xs:=m1;have L2:Heap.IsList (Shared.heap ⟨hp.push { cls:=.type "list_iterator",data:=.fields #[.ref u,.int 0 0] },g,d,tk,os⟩) v ys:=Heap.IsList.push m2 _
     wp_walk using wpAny_pyIter_list L1,wpAny_pyIter_list L2
     exact⟨_,rfl,h⟩
   | true =>
     have L1:Heap.IsTuple (Shared.heap ⟨hp,g,d,tk,os⟩) u xs:=m1;have L2:Heap.IsTuple (Shared.heap ⟨hp.push { cls:=.type "tuple_iterator",data:=.fields #[.ref u,.int 0 0] },g,d,tk,os⟩) v ys:=Heap.IsTuple.push m2 _
     wp_walk using wpAny_pyIter_tuple L1,wpAny_pyIter_tuple L2
     exact⟨_,rfl,h⟩
section
variable {prog:Program}{w:World}{A:Around}{E:Value->Shared->Prop}{s:Shared}
theorem itK.new {t:Bool}{h:Heap}{j u:Addr} (g:h.get? j=some { cls:=.type (itN t),data:=.fields #[.ref u,.int 0 0] }):itK t h j u 0:=by
 cases t with
 | false=>exact⟨_,g,rfl,rfl⟩
 | true=>exact⟨_,g,rfl,rfl⟩
theorem qgx {t:Bool}{u v:Addr}{xs ys:Array Value}{Q:Value->Shared->Prop} (m1:sqK t s.heap u xs) (m2:sqK t s.heap v ys)
   (q:∀ h',IsZip h' (s.heap.objs.size+4) (s.heap.objs.size+2) (s.heap.objs.size+3) .none->IsPair h' (s.heap.objs.size+2) (.ref s.heap.objs.size) (.ref (s.heap.objs.size+1)) ->
     IsPair h' (s.heap.objs.size+3) .none .none->itK t h' s.heap.objs.size u 0->itK t h' (s.heap.objs.size+1) v 0->(∀ c o,s.heap.get? c=some o->h'.get? c=some o)->Q (.ref (s.heap.objs.size+4)) { s with heap:=h' }) :
   wpAny (model prog w) A (call (.type "zip") [.ref u,.ref v]) Q E s:=by
 refine callType_new F.called_zip (by decide) (F.typeCall_zip_2 _ _) (F.newCall_zip_2 _ _) (fun obj=>F.args_object_init_3 obj _ _) F.entry_zip_new (qjH t u v xs ys) ⟨m1,m2,?_⟩;have y1:(zk1 t s.heap u).objs.size=s.heap.objs.size+1:=Heap.size_push ..;have y2:(zk1 t (zk1 t s.heap u) v).objs.size=s.heap.objs.size+2:=by rw[Heap.size_push,y1]
 have y3:(zk3 t s.heap u v).objs.size=s.heap.objs.size+3:=by rw[Heap.size_push,y2]
 have y4:(zk4 t s.heap u v).objs.size=s.heap.objs.size+4:=by rw[Heap.size_push,y3]
 have f5:(zk5 t s.heap u v).get? (zk4 t s.heap u v).objs.size=some _:=Heap.get?_push_size _ rfl;have f4:(zk5 t s.heap u v).get? (zk3 t s.heap u v).objs.size=some _:=Heap.get?_push_of_some _ (Heap.get?_push_size _ rfl);have f3:(zk5 t s.heap u v).get? (zk1 t (zk1 t s.heap u) v).objs.size=some _:=Heap.get?_push_of_some _ (Heap.get?_push_of_some _ (Heap.get?_push_size _ rfl));have f2:(zk5 t s.heap u v).get? (zk1 t s.heap u).objs.size=some _:=Heap.get?_push_of_some _ (Heap.get?_push_of_some _ (Heap.get?_push_of_some _ (Heap.get?_push_size _ rfl)));have f1:(zk5 t s.heap u v).get? s.heap.objs.size=some _:=Heap.get?_push_of_some _ (Heap.get?_push_of_some _ (Heap.get?_push_of_some _ (Heap.get?_push_of_some _ (Heap.get?_push_size _ rfl))));show _∧_;rw[y2,y3,y4]at f5;rw[y1,y2]at f3;rw[y3]at f4;rw[y1]at f2;rw[y4];exact⟨⟨_,f5,rfl⟩,q _ f5 f3 f4 (.new f1) (.new f2) fun c o e=>Heap.get?_push_of_some _ (Heap.get?_push_of_some _ (Heap.get?_push_of_some _ (Heap.get?_push_of_some _ (Heap.get?_push_of_some _ e))))⟩
end
def SqK (K:Frag):Bool->Hp->Addr->List V->Prop
 | false=>SqL K
 | true=>SqT K
def Itz (K:Frag) (t:Bool) (a b:Addr):It :=
 ⟨fun i H=>∃ xs ys x y,SqK K t H a xs∧SqK K t H b ys∧xs[i]?=some x∧ys[i]?=some y,
  fun i H v H'=>∃ p x y,H p=none∧v=.ref p∧(∀ xs ys,SqK K t H a xs->SqK K t H b ys->xs[i]?=some x∧ys[i]?=some y)∧H'=upd H p (.tup [x,y]),
  fun i H=>∃ xs ys,SqK K t H a xs∧SqK K t H b ys∧(xs.length≤i∨ys.length≤i)⟩
section
variable {X:Cx}{pins:List (Addr×Obj)}{σ:St}{H:Hp}{s:Shared}
theorem Inv.seqK {t:Bool}{a:Addr}{xs:List V} (I:Inv X pins σ H s) (h:SqK X.K t H a xs):∃ its:List Value,Vals xs its∧sqK t s.heap a its.toArray∧xs.length≤sizeLine:=by
 cases t with
 | false =>
   obtain⟨its,rv,p,z⟩:=I.list h;exact⟨its,rv,p.isList,z⟩
 | true=>exact I.tuple h
theorem Inv.seqK_inj {t:Bool}{a:Addr}{xs ys:List V} (I:Inv X pins σ H s) (h:SqK X.K t H a xs) (h':SqK X.K t H a ys):xs=ys:=by
 cases t with
 | false=>exact I.list_inj h h'
 | true=>exact I.tuple_inj h h'
end
structure ZSt (t:Bool) (z TI TO i1 i2 a b:Addr) (i:Nat) (h:Heap):Prop where
 gz:IsZip h z TI TO .none
 gI:IsPair h TI (.ref i1) (.ref i2)
 gO:∃ u v,IsPair h TO u v
 j1:itK t h i1 a i
 j2:itK t h i2 b i
theorem qff {Cm:Cx->Prop}{sp:Nat->Hp->Prop}{P:Program}{w:World}{K:Frag}{elts:List Expr}{k:Nat}{pos:Pos}{t:Bool} (z TI TO i1 i2 a b:Addr) (D:ZipApart z TI TO i1 i2 a b)
   (dn:∀ (X:Cx),X.prog=P->X.w=w->X.K=K->Cm X->∀ (i:Nat) (pins:List (Addr×Obj)) (s:Shared) (σ:St) (H:Hp) (E:Value->Shared->Prop),Inv X pins σ H s->(∀ b∈[z,TI,TO,i1,i2],qeF X pins H b)->ZSt t z TI TO i1 i2 a b i s.heap->sp i H ->
     wpAny (model P w) X.A (pyNext (.ref z)) (fun r s1=>r=none∧Inv X pins σ H s1) E s) :
   qhR Cm P w K (.Tuple elts k pos) ⟨(Itz K t a b).go,(Itz K t a b).yld,sp⟩ [z,TI,TO,i1,i2] z (ZSt t z TI TO i1 i2 a b) where
 mem:=by simp
 obj:=fun i h st c hc=>by
   obtain⟨gz,gI,⟨u,v,gO⟩,j1,j2⟩:=st;simp only[List.mem_cons,List.not_mem_nil,or_false]at hc;rcases hc with rfl|rfl|rfl|rfl|rfl
   · exact⟨_,gz,fun v e=>by cases e⟩
   · exact⟨_,gI,fun v e=>by cases e⟩
   · exact⟨_,gO,fun v e=>by cases e⟩
   · obtain⟨o,g,d⟩:=j1.get;exact⟨o,g,fun v e=>by rw[d]at e;cases e⟩
   · obtain⟨o,g,d⟩:=j2.get;exact⟨o,g,fun v e=>by rw[d]at e;cases e⟩
 keep:=fun i h h' st kk=>by
   obtain⟨gz,gI,⟨u,v,gO⟩,j1,j2⟩:=st;exact⟨kk z (by simp) _ gz,kk TI (by simp) _ gI,⟨u,v,kk TO (by simp) _ gO⟩,j1.at fun o e=>kk i1 (by simp) o e,j2.at fun o e=>kk i2 (by simp) o e⟩
 item:=by
   intro X hP hw hK hc i pins s σ H E I hf st hg;subst hP hw hK;obtain⟨xs,ys,x,y,hq,hq2,hx,hy⟩:=hg;obtain⟨its,rv,p,hz⟩:=I.seqK hq;obtain⟨its2,rv2,p2,hz2⟩:=I.seqK hq2;obtain⟨u,hu,ru⟩:=rv.get hx;obtain⟨u2,hu2,ru2⟩:=rv2.get hy;obtain⟨gz,gI,⟨_,_,gO⟩,j1,j2⟩:=st;refine qg8 (t:=t) D gz gI gO j1 j2 p p2 (x:=u) (y:=u2) (by simpa using hu) (by simpa using hu2) fun h1 w1 w2 w3 w4 w5 hk=>?_;refine⟨_,rfl,wpAny_letOwnedTupleGo_zip (s:={ s with heap:=h1 }) w1 fun h2 gz2 hs2=>?_⟩;have lz:z < s.heap.objs.size:=Heap.lt_size gz;have lI:TI < s.heap.objs.size:=Heap.lt_size gI;have lO:TO < s.heap.objs.size:=Heap.lt_size gO;have l1:i1 < s.heap.objs.size:=by obtain⟨o,g,_⟩:=j1.get;exact Heap.lt_size g
   have l2:i2 < s.heap.objs.size:=by obtain⟨o,g,_⟩:=j2.get;exact Heap.lt_size g
   have T2:h2.get? s.heap.objs.size=some { cls:=.type "tuple",data:=.seq #[u,u2] }:=(hs2.2 _ (Nat.ne_of_gt lz)).trans w5
   have I1:Inv X pins σ (upd H s.heap.objs.size (.tup [x,y])) { s with heap:=h2,toks:=s.toks }:=by
     refine I.turnLaid (ch:=[z,TI,TO,i1,i2]) (fun c o hc q=>?_) hf (Nat.le_refl _) ⟨by show 2≤sizeLine;decide,[u,u2],.cons ru (.cons ru2 .nil),⟨_,T2,rfl,_,rfl⟩⟩;have c1:c≠z:=fun e=>hc (by simp[e]);exact(hs2.2 c c1).trans (hk c o c1 (fun e=>hc (by simp[e])) (fun e=>hc (by simp[e])) (fun e=>hc (by simp[e])) q)
   refine⟨.ref s.heap.objs.size,_,I1,rfl,⟨_,x,y,I.hok.fresh (Nat.le_refl _),rfl,fun ys1 ys2 q1 q2=>by rw[I.seqK_inj q1 hq,I.seqK_inj q2 hq2];exact⟨hx,hy⟩,rfl⟩,?_,fun c hc=>?_⟩
   · exact⟨gz2,(hs2.2 _ D.TIz).trans (hk _ _ D.TIz D.TITO D.TIi1 D.TIi2 gI),⟨_,_,(hs2.2 _ D.TOz).trans w2⟩,w3.at fun o e=>(hs2.2 _ D.i1z).trans e,w4.at fun o e=>(hs2.2 _ D.i2z).trans e⟩
   · have hcl:c < s.heap.objs.size:=by
       simp only[List.mem_cons,List.not_mem_nil,or_false]at hc;rcases hc with rfl|rfl|rfl|rfl|rfl<;>assumption
     rw[qh (Nat.ne_of_lt hcl)];exact(hf c hc).1
 done:=dn
 self:=fun _ _ _ _ _ st h=>wpAny_pyIter_zip st.gz h
theorem qgV {P:Program}{w:World}{K:Frag}{elts:List Expr}{k:Nat}{pos:Pos}{t:Bool} (z TI TO i1 i2 a b:Addr) (D:ZipApart z TI TO i1 i2 a b) :
   qkN P w K (.Tuple elts k pos) (Itz K t a b) [z,TI,TO,i1,i2] z (ZSt t z TI TO i1 i2 a b):=qff (Cm:=fun X=>X.calm=true) (sp:=(Itz K t a b).stop) z TI TO i1 i2 a b D (by
   intro X hP hw hK hc i pins s σ H E I hf st hg;subst hP hw hK;obtain⟨xs,ys,hq,hq2,hx⟩:=hg;obtain⟨its,rv,p,hz⟩:=I.seqK hq;obtain⟨its2,rv2,p2,hz2⟩:=I.seqK hq2;obtain⟨gz,gI,⟨_,_,gO⟩,j1,j2⟩:=st;have e1:=rv.length;have e2:=rv2.length
   refine qi7 (t:=t) (I.ok.hd hc) D gz gI gO j1 j2 p p2 (by simp;omega) fun h' hk=>⟨rfl,I.turnL (t':=s.toks) (ch:=[z,TI,TO,i1,i2]) (fun c o hc q=>hk c o (fun e=>hc (by simp[e])) (fun e=>hc (by simp[e])) (fun e=>hc (by simp[e])) (fun e=>hc (by simp[e])) q) hf⟩)
theorem qgA:bootBuiltins "zip"=some (.type "zip"):=by decide +kernel
inductive qir (K:Frag) (sp:Bool->Addr->Addr->Nat->Hp->Prop) (R:(It->Hp->Prop)) (vs:List V) (H1:Hp):Prop
 | mk (t a b:_) (h1:vs=[.ref a,.ref b]) (h2:(∃ xs,SqK K t H1 a xs)) (h3:(∃ ys,SqK K t H1 b ys)) (h4:R ⟨(Itz K t a b).go,(Itz K t a b).yld,sp t a b⟩ H1):qir K sp R vs H1
def qkC (K:Frag) (sp:Bool->Addr->Addr->Nat->Hp->Prop) (ta:TA):TI:=fun σ H R=>ta σ H fun vs H1=>qir K sp R vs H1
abbrev qml (K:Frag) (ta:TA):TI:=qkC K (fun t a b=>(Itz K t a b).stop) ta
section
variable {X:Cx}
theorem qi8 {Cm:Cx->Prop}{sp:Bool->Addr->Addr->Nat->Hp->Prop}{e1 e2:Expr}{ta:TA}{p pos tp:Pos}{elts:List Expr}{kk:Nat} (T:∀ (t:Bool) (z TI TO i1 i2 a b:Addr),ZipApart z TI TO i1 i2 a b->qhR Cm X.prog X.w X.K (.Tuple elts kk tp) ⟨(Itz X.K t a b).go,(Itz X.K t a b).yld,sp t a b⟩ [z,TI,TO,i1,i2] z (ZSt t z TI TO i1 i2 a b)) (hg:Gl X "zip") (hm:X.mg "zip"=none) (ha:PA X [e1,e2] ta) (hs:starEach [e1,e2] X.env=(false,eval e1 X.env)::starEach [e2] X.env:=by rfl)
   (hpl:(backTo pos (starEach [e2] X.env)).any (·.1)=false:=by rfl):PIC Cm X (.Tuple elts kk tp) (.Call (.Name "zip" p) [e1,e2] [] pos) (qkC X.K sp ta):=by
 intro pins s σ H R I h;refine Call_ (qaI I hg hm qgA (PyProof.Rows.callWith_type1 (thn (ha pos pins s σ H _ I h) fun us s1 zz_=>?_) hs hpl));obtain⟨vs,H1,I1,r1,q1⟩:=zz_;obtain⟨t,a,b,e,⟨xs,hq⟩,⟨ys,hq2⟩,q⟩:=q1;subst e;obtain⟨u,v,rfl,ru,rv⟩:=qeG r1;cases ru;cases rv;obtain⟨its,rv,pl,hz⟩:=I1.seqK hq;obtain⟨its2,rv2,pl2,hz2⟩:=I1.seqK hq2;refine qgx (t:=t) pl pl2 fun h' gz gI gO j1 j2 hk=>?_;have I2:Inv X pins σ H1 { s1 with heap:=h' }:=I1.kept (t':=s1.toks) hk;have la:=pl.lt;have lb:=pl2.lt
 have D:ZipApart (s1.heap.objs.size+4) (s1.heap.objs.size+2) (s1.heap.objs.size+3) s1.heap.objs.size (s1.heap.objs.size+1) a b:=by
   constructor<;>(intro h;have h':=@id (@Eq Nat _ _) h;clear h;revert la lb h';exact fun (la:@LT.lt Nat _ _ _) (lb:@LT.lt Nat _ _ _) h'=>by omega)
 refine wpAny_pyIter_zip gz ⟨s1.heap.objs.size+4,_,_,_,H1,rfl,I2,T t _ _ _ _ _ _ _ D,⟨gz,gI,⟨_,_,gO⟩,j1,j2⟩,fun c hc=>?_,q⟩
 have hc1:s1.heap.objs.size≤c:=by
   simp only[List.mem_cons,List.not_mem_nil,or_false]at hc;rcases hc with rfl|rfl|rfl|rfl|rfl<;>omega
 exact I1.fpOk hc1 (I1.hok.fresh hc1)
theorem qig {e1 e2:Expr}{ta:TA}{p pos tp:Pos}{elts:List Expr}{kk:Nat} (hg:Gl X "zip") (hm:X.mg "zip"=none) (ha:PA X [e1,e2] ta) (hs:starEach [e1,e2] X.env=(false,eval e1 X.env)::starEach [e2] X.env:=by rfl)
   (hpl:(backTo pos (starEach [e2] X.env)).any (·.1)=false:=by rfl):PI X (.Tuple elts kk tp) (.Call (.Name "zip" p) [e1,e2] [] pos) (qml X.K ta):=qi8 (Cm:=fun X=>X.calm=true) (sp:=fun t a b=>(Itz X.K t a b).stop) (fun t z TI TO i1 i2 a b D=>qgV z TI TO i1 i2 a b D) hg hm ha hs hpl
end
theorem qez {K:Frag}{t:Bool}{a b:Addr}{xs ys:List V}{g:TG}{tt:TT}{te:TE}{D:Addr}{Q:VK}{σ0:St}{H0:Hp} (Pv:Nat->St->Hp->Prop) (he:xs.length=ys.length) (h0:Pv 0 σ0 H0)
   (hl:∀ i σ H,i≤xs.length->Pv i σ H->SqK K t H a xs∧SqK K t H b ys)
   (hs:∀ i x y σ H p,xs[i]?=some x->ys[i]?=some y->Pv i σ H->H p=none->g (.ref p) σ (upd H p (.tup [x,y])) fun σ3 H3=>tt σ3 H3 fun ok H4=>if ok=true then te σ3 H4 fun v H5=>∃ zs,H5 D=some (.lst zs)∧zs.length < sizeLine∧Pv (i+1) σ3 (upd H5 D (.lst (zs++[v]))) else Pv (i+1) σ3 H4)
   (hd:∀ σ H,Pv xs.length σ H->Q (.ref D) H):jZ (Itz K t a b) g tt te D Q σ0 H0:=by
 refine⟨fun i m σ H=>m=xs.length - i∧i≤xs.length∧Pv i σ H,⟨xs.length,by simp,Nat.zero_le _,h0⟩,?_⟩;rintro i m σ H ⟨rfl,hi,p⟩;obtain⟨q1,q2⟩:=hl i σ H hi p;by_cases hlt:i < xs.length
 · have hlt2:i < ys.length:=by omega
   refine .inr ⟨⟨xs,ys,xs[i],ys[i],q1,q2,by simp[hlt],by simp[hlt2]⟩,Pv (i+1),fun σ' H' p'=>⟨xs.length - (i+1),by omega,rfl,hlt,p'⟩,fun x H' y=>?_⟩;obtain⟨c,u,v,hn,rfl,z,rfl⟩:=y;obtain⟨z1,z2⟩:=z xs ys q1 q2;exact hs i u v σ _ c z1 z2 p hn
 · have e:i=xs.length:=by omega
   subst e;exact .inl ⟨⟨xs,ys,q1,q2,.inl (Nat.le_refl _)⟩,hd σ H p⟩
def qc5 (t:String) (cs:List String):Bool:=cs.any fun c=>qkY c t
theorem qc4 (K:Frag) {t:String} (ht:t∈qbJ):∀ {cs:List String},(∀ c∈cs,c∈jW)->kitAny K (.type t) (cs.map Value.type)=some (qc5 t cs)
 | [],_=>rfl
 | c::r,h=>by
   have e:=qip K ht (h c List.mem_cons_self);have ih:=qc4 K ht (cs:=r) fun d hd=>h d (List.mem_cons_of_mem _ hd);show (match kitOne K (.type t) (.type c) with|some true=>some true|some false=>kitAny K (.type t) (r.map Value.type)|none=>none)=_;rw[e]
   cases q:qkY c t with
   | true=>simp[qc5,q]
   | false=>simp only[ih];simp[qc5,q]
theorem qfc:∀ {cs:List String}{us:List Value},Vals (cs.map V.ty) us->us=cs.map Value.type
 | [],_,.nil=>rfl
 | c::r,_,.cons a b=>by
   cases (show _=Value.type c from a);rw[qfc b];rfl
section
variable {X:Cx}{pins:List (Addr×Obj)}{σ:St}{H:Hp}{s:Shared}{A:Around}{E:Value->Shared->Prop}{Q:Value->Shared->Prop}{b:Bool}
theorem qeU {x:V}{u:Value}{t:String}{tp:Addr}{dd:Option Addr}{its:List Value}{n:Nat}{sl:Array (Option Value)} (I:Inv X pins σ H s) (rx:RelV x u) (ty:tyN H x=some t) (g:s.heap.get? tp=some ⟨.type "tuple",dd,.seq its.toArray n,sl⟩)
   (e:kitAny X.K (.type t) its=some b) (h:∀ tk,Q (.bool b) { s with toks:=tk }):wpAny (model X.prog X.w) A (call (.builtin "isinstance") [u,.ref tp]) Q E s:=by
 cases x with
 | non=>cases ty;cases (show u=Value.none from rx);exact kia_tup PySem.W.kitx_none I.kIn True.intro g e (fun z=>nomatch z) h
 | bl y=>cases ty;cases (show u=Value.bool y from rx);exact kia_tup PySem.W.kitx_bool I.kIn True.intro g e (fun z=>nomatch z) h
 | int i=>cases ty;obtain⟨k,q⟩:=(show ∃ t,u=Value.int i t from rx);cases q;exact kia_tup PySem.W.kitx_int I.kIn True.intro g e (fun z=>nomatch z) h
 | str y=>cases ty;obtain⟨k,q⟩:=(show ∃ t,u=Value.str y t from rx);cases q;exact kia_tup PySem.W.kitx_str I.kIn True.intro g e (fun z=>nomatch z) h
 | byt y=>cases ty
 | flt y=>cases ty
 | ty y=>cases ty
 | ref a =>
   cases (show u=Value.ref a from rx);simp only[tyN]at ty;split at ty
   · rename_i ea;cases ty
     obtain⟨_,_,n,_,h1⟩:=(show ObjOk X.prog X.w H s.heap a (.lst _) from I.hok a _ ea)
     exact kia_tup PySem.W.kitx_list I.kIn ⟨_,h1,rfl⟩ g e (fun z=>nomatch z) h
   · rename_i ea;cases ty
     obtain⟨_,_,_,p⟩:=(show ObjOk X.prog X.w H s.heap a (.tup _) from I.hok a _ ea)
     obtain⟨o,h1,h2,_⟩:=p;exact kia_tup PySem.W.kitx_tuple I.kIn ⟨o,h1,h2⟩ g e (fun z=>nomatch z) h
   · rename_i ea;cases ty
     obtain⟨_,_,vs,_,p⟩:=(show ObjOk X.prog X.w H s.heap a (.dK _) from I.hok a _ ea)
     obtain⟨o,es,ep,h1,h2,_⟩:=p;exact kia_tup PySem.W.kitx_dict I.kIn ⟨o,h1,h2.1⟩ g e (fun z=>nomatch z) h
   · cases ty
end
def qmc:List V->Hp->VK->Prop:=fun xs H Q=>∃ x p cs t,xs=[x,.ref p]∧H p=some (.tup (cs.map V.ty))∧(∀ c∈cs,c∈jW)∧tyN H x=some t∧Q (.bl (qc5 t cs)) H
theorem qhO {X:Cx}:CallR X (.builtin "isinstance") qmc:=by
 intro pins s σ H xs us Q I r h;obtain⟨x,p,cs,t,rfl,hp,hc,ht,q⟩:=h;obtain⟨u,w',rfl,ru,rw'⟩:=qeG r;cases rw';obtain⟨_,its,rv,o,g,c,n,d⟩:=(show ObjOk X.prog X.w H s.heap p (.tup _) from I.hok p _ hp)
 obtain rfl:=qfc rv;obtain⟨oc,od,oda,osl⟩:=o;simp only at c d;subst c d;exact qeU I ru ht g (qc4 X.K (qfe ht) hc) fun tk=>⟨.bl _,H,I.tok tk,rfl,q⟩
theorem Same.but {G H H':Hp}{p:Addr} (s:Same G H) (b:But p H H') (n:G p=none):Same G H':=fun c o e=>b c o (s c o e) (qi e n)
theorem Same.put {G H:Hp}{p:Addr} (s:Same G H) (n:G p=none) (o:HO):Same G (upd H p o):=fun c u e=>by rw[qh (qi e n)];exact s c u e
theorem Same.none {G H:Hp}{p:Addr} (s:Same G H) (n:H p=none):G p=none:=by
 cases e:G p with
 | none=>rfl
 | some o=>rw[s p o e]at n;cases n
theorem But.none {H H':Hp}{p q:Addr} (b:But p H H') (n:H' q=none) (h:q≠p):H q=none:=by
 cases e:H q with
 | none=>rfl
 | some o=>rw[b q o e h]at n;cases n
theorem But.putN {H H':Hp}{p q:Addr} (b:But p H H') (n:H q=Option.none) (o:HO):But p H (upd H' q o):=fun c u e h=>by rw[qh (qi e n)];exact b c u e h
def cut (H:Hp) (ts:List Addr):Hp:=fun b=>if b∈ts then none else H b
theorem qy {H:Hp}{ts:List Addr}{b:Addr} (h:b∈ts):cut H ts b=none:=by unfold cut;rw[if_pos h]
theorem qH {H:Hp}{ts:List Addr}{b:Addr} (h:b∉ts):cut H ts b=H b:=by unfold cut;rw[if_neg h]
theorem qv (H:Hp) (ts:List Addr):Same (cut H ts) H:=fun b o e=>by
 by_cases h:b∈ts
 · rw[qy h]at e;cases e
 · rw[qH h]at e;exact e
theorem Same.cut {G H:Hp}{ts:List Addr} (s:Same G H) (n:∀ b∈ts,G b=Option.none):Same G (L2.cut H ts):=fun b o e=>by
 rw[qH fun z=>by rw[n b z]at e;cases e];exact s b o e
inductive qeD (H:Hp) (p:Addr):Prop
 | mk (c x y:Int) (h1:H p=some (.lst [.int c,.int x,.int y])):qeD H p
def PoolAt (H:Hp) (p:Addr):Prop:=qeD H p
theorem PoolAt.same {H H':Hp}{p:Addr} (h:PoolAt H p) (s:Same H H'):PoolAt H' p:=by
 obtain⟨c,x,y,e⟩:=h;exact⟨c,x,y,s _ _ e⟩
theorem PoolAt.ne {H:Hp}{p q:Addr} (h:PoolAt H p) (hq:H q=none):q≠p:=by
 obtain⟨c,x,y,e⟩:=h;exact(qi e hq).symm
theorem PoolAt.upd {H:Hp}{p q:Addr} (h:PoolAt H p) (n:q≠p) (o:HO):PoolAt (L2.upd H q o) p:=by
 obtain⟨c,x,y,e⟩:=h;exact⟨c,x,y,by rw[qh n.symm];exact e⟩
structure LL (H:Hp) (a:Addr) (qs:List Addr) (zss:List (List V)):Prop where
 at_:H a=some (.lst (qs.map V.ref))
 len:qs.length=zss.length
 each:∀ (i:Nat) q zs,qs[i]?=some q->zss[i]?=some zs->H q=some (.lst zs)
 out:a∉qs
theorem LL.same {H H':Hp}{a:Addr}{qs:List Addr}{zss:List (List V)} (h:LL H a qs zss) (s:Same H H'):LL H' a qs zss :=
 ⟨s _ _ h.at_,h.len,fun i q zs e1 e2=>s _ _ (h.each i q zs e1 e2),h.out⟩
theorem LL.get {H:Hp}{a:Addr}{qs:List Addr}{zss:List (List V)} (h:LL H a qs zss) {q:Addr} (m:q∈qs):∃ zs∈zss,H q=some (.lst zs):=by
 obtain⟨i,hi,e⟩:=List.mem_iff_getElem.mp m;have hz:i < zss.length:=by rw[← h.len];exact hi
 exact⟨zss[i],List.getElem_mem hz,h.each i q _ (by rw[List.getElem?_eq_getElem hi,e]) (List.getElem?_eq_getElem hz)⟩
theorem LL.cut {H:Hp}{a:Addr}{qs ts:List Addr}{zss:List (List V)} (h:LL H a qs zss) (n:a∉ts) (m:∀ q∈qs,q∉ts):LL (L2.cut H ts) a qs zss :=
 ⟨by rw[qH n];exact h.at_,h.len,fun i q zs e1 e2=>by rw[qH (m q (List.mem_of_getElem? e1))];exact h.each i q zs e1 e2,h.out⟩
theorem snoc_get {α:Type}{xs:List α}{x y:α}{i:Nat} (h:(xs++[x])[i]?=some y):xs[i]?=some y∨(i=xs.length∧y=x):=by
 rw[List.getElem?_append]at h;by_cases hi:i < xs.length
 · rw[if_pos hi]at h;exact .inl h
 · rw[if_neg hi]at h
   have e:i - xs.length=0:=by
     cases n:i - xs.length with
     | zero=>rfl
     | succ k=>rw[n]at h;simp at h
   rw[e]at h;exact .inr ⟨by omega,by simpa using h.symm⟩
theorem LL.snoc {H:Hp}{a q:Addr}{qs:List Addr}{zss:List (List V)}{zs:List V} (h:LL H a qs zss) (hq:H q=some (.lst zs)) (n:q≠a):LL (upd H a (.lst ((qs.map V.ref)++[.ref q]))) a (qs++[q]) (zss++[zs]) where
 at_:=by rw[qc,List.map_append];rfl
 len:=by rw[List.length_append,List.length_append,h.len];rfl
 each:=fun i r ys e1 e2=>by
   have hr:r≠a:=by
     rcases snoc_get e1 with e|⟨_,e⟩
     · intro z;exact h.out (z▸List.mem_of_getElem? e)
     · rw[e];exact n
   rw[qh hr];rcases snoc_get e1 with e|⟨ei,e⟩
   · rcases snoc_get e2 with e'|⟨ei',_⟩
     · exact h.each i r ys e e'
     · have:=(List.getElem?_eq_some_iff.mp e).1
       rw[ei',← h.len]at this;exact absurd this (Nat.lt_irrefl _)
   · rcases snoc_get e2 with e'|⟨_,e'⟩
     · have:=(List.getElem?_eq_some_iff.mp e').1
       rw[ei,h.len]at this;exact absurd this (Nat.lt_irrefl _)
     · rw[e,e'];exact hq
 out:=fun m=>by
   rcases List.mem_append.mp m with m|m
   · exact h.out m
   · exact n (by simpa using m:a=q).symm
theorem LL.nil {H:Hp}{a:Addr} (h:H a=some (.lst [])):LL H a [] []:=⟨h,rfl,fun i q zs e=>by simp at e,by simp⟩
theorem qgG {xs:List V}{i:Int} (h0:0≤i) (h1:i < xs.length):∃ v,atI xs i=some v∧v∈xs:=by
 obtain⟨n,rfl⟩:=Int.eq_ofNat_of_zero_le h0;have hn:n < xs.length:=by omega
 exact⟨xs[n],zA (List.getElem?_eq_getElem hn),List.getElem_mem hn⟩
def bnd (lo hi:Int):List V->Bool
 | []=>true
 | .int i::r=>decide (lo≤i) && decide (i≤hi) && bnd lo hi r
 | _::_=>false
theorem qiC {lo hi:Int}:∀ {xs:List V},bnd lo hi xs=true->∀ v∈xs,∃ i,v=.int i∧lo≤i∧i≤hi
 | .int j::r,h,v,m=>by
   simp only[bnd,Bool.and_eq_true,decide_eq_true_eq]at h;rcases List.mem_cons.mp m with e|m
   · exact⟨j,e,h.1.1,h.1.2⟩
   · exact qiC (xs:=r) h.2 v m
 | .non::r,h,_,_=>by cases h
 | .bl _::r,h,_,_=>by cases h
 | .str _::r,h,_,_=>by cases h
 | .byt _::r,h,_,_=>by cases h
 | .flt _::r,h,_,_=>by cases h
 | .ty _::r,h,_,_=>by cases h
 | .ref _::r,h,_,_=>by cases h
theorem qeh {K:Frag} (lo hi:Int) {G:Hp}{l:Addr}{xs:List V}{d:Int}{Q:VK} (e:G l=some (.lst xs)) (d0:0≤d) (d1:d < xs.length) (ai:bnd lo hi xs=true) (k:∀ i,lo≤i->i≤hi->Q (.int i) G):rIx K (.ref l) (.int d) G Q:=by
 obtain⟨v,hv,mv⟩:=qgG d0 d1;obtain⟨i,rfl,h1,h2⟩:=qiC ai v mv;exact .inl ⟨l,_,_,_,rfl,rfl,SqL.of e,hv,k i h1 h2⟩
def ho:Bool->List V->HO
 | false,xs=>.lst xs
 | true,xs=>.tup xs
def SV (H:Hp):Nat->V->V->Prop
 | 0,x,y=>(∃ i,x=.int i∧y=.int i)∨(x=.non∧y=.non)
 | n+1,x,y=>∃ (t:Bool) (a b:Addr) (xs ys:List V),x=.ref a∧y=.ref b∧H a=some (ho t xs)∧H b=some (ho t ys)∧xs.length=ys.length∧xs.length≤1000∧∀ (i:Nat) u v,xs[i]?=some u->ys[i]?=some v->SV H n u v
theorem SqK.of {K:Frag}{H:Hp}{t:Bool}{a:Addr}{xs:List V} (h:H a=some (ho t xs)):SqK K t H a xs:=by
 cases t with
 | false=>exact SqL.of h
 | true=>exact SqT.of h
def tnK:Bool->String
 | false=>"list"
 | true=>"tuple"
theorem tyK {H:Hp}{t:Bool}{a:Addr}{xs:List V} (h:H a=some (ho t xs)):tyN H (.ref a)=some (tnK t):=by
 cases t with
 | false=>simp only[tyN,ho]at h ⊢;rw[h];rfl
 | true=>simp only[tyN,ho]at h ⊢;rw[h];rfl
theorem qlQ {K:Frag}{H:Hp}{t:Bool}{a:Addr}{xs:List V} (h:H a=some (ho t xs)):qlY K (.ref a) H xs.length:=by
 cases t with
 | false=>exact .inl ⟨xs,SqL.of h,rfl⟩
 | true=>exact .inr ⟨xs,SqT.of h,rfl⟩
theorem tyN_same {H H':Hp} (e:Same H H') {v:V}{t:String} (h:tyN H v=some t):tyN H' v=some t:=by
 cases v with
 | ref a =>
   simp only[tyN]at h ⊢;split at h
   · rename_i q;rw[e _ _ q];exact h
   · rename_i q;rw[e _ _ q];exact h
   · rename_i q;rw[e _ _ q];exact h
   · cases h
 | _=>exact h
def qg4 (K:Frag):List V->Hp->VK->Prop:=fun xs H Q=>∃ p ys,xs=[.ref p]∧(SqL K H p ys∨SqT K H p ys)∧∀ l,H l=none->Q (.ref l) (upd H l (.lst ys))
section
variable {X:Cx}
theorem qau {i:Nat}{x:Str}{pos' pos:Pos}{elt iter tg:Expr}{ifs:List Expr}{scope:Scope}{cpos:Pos}{wi:TI}{g:TG}{tt:TT}{te:TE}{N:List Str}{cl:List (Str×Addr)}{js:List (Option Nat)} (hN:X.N.Nodup) (hi0:X.N[i]?=some x) (hx:Loc X.env.scope x)
   (hc:X.calm=true) (k:CompOk X scope N cl js) (hi:PI X tg iter wi)
   (hg:∀ C s₀ H₀ ex pn,PG (ze X scope N cl C s₀ H₀ ex pn) tg g) (ht:∀ C s₀ H₀ ex pn,PTs (ze X scope N cl C s₀ H₀ ex pn) ifs tt) (he:∀ C s₀ H₀ ex pn,PE (ze X scope N cl C s₀ H₀ ex pn) elt te)
   (hsw:swapsWith (.ListComp elt [⟨tg,iter,ifs,0⟩] scope cpos) (some (.Name x pos')) pos.line X.env=pure true:=by rfl)
   (hf:X.fn x=true∨X.env.scope.names.lookup x=some .local:=by first|exact .inl rfl|exact .inr rfl|assumption)
   (hs:∀ x,foldedSetIterable iter X.env x=pure x:=by intro _;rfl) :
   PS X (.Assign [.Name x pos'] (.ListComp elt [⟨tg,iter,ifs,0⟩] scope cpos) pos) (qkU (qiM wi g tt te js) (qhD i)):=by
 intro pins s σ H D0 I h;rw[exec_Assign_Name_used _ _ _ _ hsw];refine wpAny_bind (wpAny_standAt (wpAny_bind ?_));show wpAny _ X.A (do let _ ← comprehension (.ListComp elt [⟨tg,iter,ifs,0⟩] scope cpos) scope X.env _ (newList []) false (eval iter X.env) (some (assign (.Name x pos') X.env))) _ _ s;refine wpAny_bind (wpAny_mono (wpAny_comprehension_free (use:=some (assign (.Name x pos') X.env)) (Q:=fun _ s'=>∃ σ' H',Inv X pins σ' H' s'∧D0.nx σ' H') rfl hs k.clos k.kind k.names ?_) (fun _ s' hq=>wpAny_pure (wpAny_pure hq)) fun _ _ e=>e);refine thn (hi pins s σ H _ I h) fun v s1 h1=>thn h1 fun itv s2 h2=>?_;obtain⟨it,fp,tn,J,H2,e,I2,T,st2,f2,hD⟩:=h2;subst e;refine wpAny_newObj_type (wpAny_newFunctionEnv k.cell (by intro y hy;simp at hy) (fun h₁ hns₁ hsb₁=>?_) k.kind);dsimp only at hns₁ hsb₁ ⊢;generalize hH2:s2.heap.push { cls:=.type "list",dict:=none,data:=.seq ([]:List Value).toArray }=P2 at hns₁ hsb₁ ⊢;have hC:P2.objs.size=s2.heap.objs.size+1:=by rw[← hH2,Heap.size_push]
 have hDC:s2.heap.objs.size≠P2.objs.size:=by rw[hC];exact Nat.ne_of_lt (Nat.lt_succ_self _)
 have hCle:s2.heap.objs.size≤P2.objs.size:=by rw[hC];exact Nat.le_succ _
 have old:∀ b o,s2.heap.get? b=some o->h₁.get? b=some o:=fun b o e=>hsb₁.extBut b o (Nat.ne_of_lt (Nat.lt_of_lt_of_le (Heap.lt_size e) hCle)) (Heap.get?_push_of_some _ (hH2▸Heap.get?_push_of_some _ e));have hacc:h₁.get? s2.heap.objs.size=some { cls:=.type "list",data:=.seq ([]:List Value).toArray }:=hsb₁.extBut _ _ hDC (Heap.get?_push_of_some _ (hH2▸Heap.get?_push_size _ rfl))
 have hfl:∀ b∈fp,b < s2.heap.objs.size:=fun b hb=>by
   obtain⟨o,e,_⟩:=T.obj _ _ st2 b hb;exact Heap.lt_size e
 have fD:H2 s2.heap.objs.size=none:=I2.hok.fresh (Nat.le_refl _);obtain⟨W,⟨m0,w0⟩,turn⟩:=hD _ fD
 have IX:Inv (ze X scope N cl P2.objs.size s2 H2 fp (X.pn++pins)) [] (st0 js σ) (upd H2 s2.heap.objs.size (.lst [])) { s2 with heap:=h₁,toks:=s2.toks+([]:List (Str×Value)).length } :=
   qeA k I2 f2 hfl (Nat.le_refl _) hCle hDC hns₁ hacc old
 have hg':=hg P2.objs.size s2 H2 fp (X.pn++pins);have ht':=ht P2.objs.size s2 H2 fp (X.pn++pins);have he':=he P2.objs.size s2 H2 fp (X.pn++pins)
 have stat:∀ {H':Hp},(∀ b∈fp,H' b=none)->∀ b∈fp,qeF (ze X scope N cl P2.objs.size s2 H2 fp (X.pn++pins)) [] H' b:=fun hn b hb=>by
   obtain⟨g0,g1,g2,g3,g4,g5⟩:=f2 b hb;refine⟨hn b hb,Nat.ne_of_lt (Nat.lt_of_lt_of_le (hfl b hb) hCle),fun z=>?_,.inl hb,fun x c h=>g4 x c (k.sub _ _ h),fun p hp=>g5 p (by simpa[ze] using hp)⟩;rcases List.mem_cons.mp (I2.stkSub b z) with e|e
   · exact g1 e
   · exact g2 e
 have loop:∀ s₃:Shared,s₃={ s2 with heap:=h₁,toks:=s2.toks+([]:List (Str×Value)).length } ->
     codeAny (model X.prog X.w) X.A (.compLoop (.ListComp elt [⟨tg,iter,ifs,0⟩] scope cpos) 0 (.ref it) (.ref s2.heap.objs.size) (compEnvC scope cl P2.objs.size X.env))
       (compPost (model X.prog X.w) X.A X.xe (some (assign (.Name x pos') X.env)) (fun _ s'=>∃ σ' H',Inv X pins σ' H' s'∧D0.nx σ' H') (.ref s2.heap.objs.size) P2.objs.size) s₃:=by
   rintro s₃ rfl;refine qaQ (fun n s'=>∃ i σ' H',Inv (ze X scope N cl P2.objs.size s2 H2 fp (X.pn++pins)) [] σ' H' s'∧tn i s'.heap∧(∀ b∈fp,H' b=none)∧W i n σ' H') ?_ m0
     ⟨0,st0 js σ,_,IX,T.keep _ _ _ st2 (fun b hb o e=>old b o e),fun b hb=>by rw[qh (Nat.ne_of_lt (hfl b hb))];exact(f2 b hb).1,w0⟩
   rintro n s3 ⟨i,σ3,H3,I3,st3,fr3,w3⟩;rcases turn i n σ3 H3 w3 with ⟨stop,qn⟩|⟨go,N2,hN,step⟩
   · refine thn (T.done (ze X scope N cl P2.objs.size s2 H2 fp (X.pn++pins)) rfl rfl rfl hc i [] s3 σ3 H3 noE I3 (stat fr3) st3 stop) fun r s4 ⟨hr,I4⟩=>?_;subst hr;obtain⟨m4,hn4,_⟩:=id I4.loc;have u4:Un (frs X.stack) fp H2 H3 s2.heap s4.heap:=I4.base;have fC:H3 P2.objs.size=none:=I4.free
     have I6:Inv X pins σ H3 s4:=I2.call' (s':=s4) I4.os u4 I4.hok I4.bare fun b hb=>by
       obtain⟨g0,g1,g2,g3,g4,g5⟩:=f2 b hb;exact⟨g3,g1,g4,g5⟩
     have fpC:qeF X pins H3 P2.objs.size:=I2.fpOk hCle fC;have hn4':s4.heap.Ns P2.objs.size m4:=hn4;obtain⟨oC,esC,epC,gC,rC⟩:=id hn4';have I7:=I6.pinned (fp:=[P2.objs.size]) (fun b hb=>by rw[show b=P2.objs.size by simpa using hb];exact fpC) (fun b hb=>⟨oC,by rw[show b=P2.objs.size by simpa using hb];exact gC,fun v z=>by rw[rC.1]at z;cases z⟩);show wpAny _ X.A (assign (.Name x pos') X.env (.ref s2.heap.objs.size)) _ _ s4;refine wpAny_assign_Name (JR I7 hN hi0 hx (v:=.ref s2.heap.objs.size) rfl (fun s5 I8=>?_) hf);have g5:=(I8.pin (P2.objs.size,oC) (List.mem_append_right _ (List.mem_append_right _ (zW (by simp) gC)))).1;refine⟨m4,hn4'.at' (fun o e=>by rw[gC]at e;cases e;exact g5),fun h' hsb=>⟨_,H3,?_,qn⟩⟩;exact I8.unpinned.turnL (t':=s5.toks) (ch:=[P2.objs.size]) (fun b o hb e=>hsb.extBut b o (fun z=>hb (by simp[z])) e) (fun b hb=>by rw[show b=P2.objs.size by simpa using hb];exact fpC)
   · refine thn (T.item (ze X scope N cl P2.objs.size s2 H2 fp (X.pn++pins)) rfl rfl rfl hc i [] s3 σ3 H3 noE I3 (stat fr3) st3 go) fun r s4 ⟨u,hr,h4⟩=>?_;subst hr;refine thn h4 fun _ s5 zz_=>?_;obtain⟨x,H5,I5,r5,y5,st5,fr5⟩:=zz_;have I5':=I5.pinned (stat fr5) (T.obj _ _ st5);refine thn (hg' _ s5 σ3 H5 x u _ I5' r5 (step x H5 y5)) fun _ s6 zz_=>?_;obtain⟨σ6,H6,I6,q6⟩:=zz_;refine thn (ht' _ s6 σ6 H6 _ I6 q6) fun ok s7 zz_=>?_;obtain⟨H7,I7,q7⟩:=zz_;have again:∀ {s8:Shared}{σ8:St}{H8:Hp},Inv (ze X scope N cl P2.objs.size s2 H2 fp (X.pn++pins)) ([]++qbv fp s5.heap) σ8 H8 s8->N2 σ8 H8 ->
         ∃ m,m < n∧∃ i σ' H',Inv (ze X scope N cl P2.objs.size s2 H2 fp (X.pn++pins)) [] σ' H' s8∧tn i s8.heap∧(∀ b∈fp,H' b=none)∧W i m σ' H':=fun {s8 σ8 H8} I8 n8=>by
       obtain⟨m',hm,w8⟩:=hN σ8 H8 n8;refine⟨m',hm,i+1,σ8,H8,I8.unpinned,T.keep _ _ _ st5 fun b hb o e=>(I8.pin (b,o) (List.mem_append_right _ (List.mem_append_right _ (zW hb e)))).1,fun b hb=>?_,w8⟩;obtain⟨o,e,d⟩:=T.obj _ _ st5 b hb;exact(I8.pin (b,o) (List.mem_append_right _ (List.mem_append_right _ (zW hb e)))).2.1
     cases ok with
     | false=>exact again I7 (by simpa using q7)
     | true =>
       have q7':te σ6 H7 fun y H5=>∃ ys,H5 s2.heap.objs.size=some (.lst ys)∧ys.length < sizeLine∧N2 σ6 (upd H5 s2.heap.objs.size (.lst (ys++[y]))):=by simpa using q7
       refine thn (he' _ s7 σ6 H7 _ I7 q7') fun xv s8 zz_=>?_;obtain⟨y,H8,I8,r8,ys,hy,hlen,n8⟩:=zz_;refine thn (zc (X:=ze X scope N cl P2.objs.size s2 H2 fp (X.pn++pins)) _ s8 σ6 H8 (.ref s2.heap.objs.size) [y] (.ref s2.heap.objs.size) [xv] (fun _ H9=>N2 σ6 H9) I8 rfl (.cons r8 .nil) ⟨_,ys,y,rfl,rfl,hy,hlen,n8⟩) fun _ s9 ⟨_,H9,I9,_,n9⟩=>again I9 n9
 exact codeAny_compStart_list (loop _ rfl) (T.self _ 0 _ _ _ (T.keep _ _ _ st2 (fun b hb o e=>old b o e)) (loop _ rfl))
end
theorem q9 {t u:TS}{D:qgQ}{σ:St}{H:Hp} (Post:St->Hp->Prop) (h1:∀ N:St->Hp->Prop,(∀ σ' H',Post σ' H'->N σ' H')->t { D with nx:=N } σ H) (h2:∀ σ' H',Post σ' H'->u D σ' H'):qk0 t u D σ H:=h1 (u D) h2
inductive qkO {β:Type} (f:β->List V) (H:Hp) (ps:List β) (i:Nat) (z:V):Prop
 | mk (p:β) (t:Addr) (h1:ps[i]?=some p) (h2:z=.ref t) (h3:H t=some (.tup (f p))):qkO f H ps i z
inductive qkP {β:Type} (f:β->List V) (H:Hp) (zs:List V) (i:Nat) (p:β):Prop
 | mk (t:Addr) (h1:zs[i]?=some (.ref t)) (h2:H t=some (.tup (f p))):qkP f H zs i p
def TupL {β:Type} (f:β->List V) (H:Hp) (zs:List V) (ps:List β):Prop:=zs.length=ps.length∧∀ (i:Nat) z p,zs[i]?=some z->ps[i]?=some p->∃ t,z=.ref t∧H t=some (.tup (f p))
section
variable {β:Type}{f:β->List V}{H H':Hp}{zs:List V}{ps:List β}
theorem TupL.nil:TupL f H [] []:=⟨rfl,fun i z p e=>by simp at e⟩
theorem TupL.same (h:TupL f H zs ps) (s:Same H H'):TupL f H' zs ps:=⟨h.1,fun i z p e1 e2=>by
 obtain⟨t,e,q⟩:=h.2 i z p e1 e2
 exact⟨t,e,s _ _ q⟩⟩
theorem TupL.put {q:Addr}{xs ys:List V} (h:TupL f H zs ps) (hq:H q=some (.lst xs)):TupL f (upd H q (.lst ys)) zs ps:=⟨h.1,fun i z y e1 e2=>by
 obtain⟨t,e,r⟩:=h.2 i z y e1 e2
 exact⟨t,e,by rw[qh (zN r hq (by intro z;cases z))];exact r⟩⟩
theorem TupL.snoc {t:Addr}{p:β} (h:TupL f H zs ps) (q:H t=some (.tup (f p))):TupL f H (zs++[.ref t]) (ps++[p]):=⟨by rw[List.length_append,List.length_append,h.1];rfl,fun i z y e1 e2=>by
 rcases snoc_get e1 with e|⟨ei,e⟩
 · rcases snoc_get e2 with e'|⟨ei',_⟩
   · exact h.2 i z y e e'
   · have:=(List.getElem?_eq_some_iff.mp e).1
     rw[ei',← h.1]at this;exact absurd this (Nat.lt_irrefl _)
 · rcases snoc_get e2 with e'|⟨_,e'⟩
   · have:=(List.getElem?_eq_some_iff.mp e').1
     rw[ei,h.1]at this;exact absurd this (Nat.lt_irrefl _)
   · exact⟨t,e,e'▸q⟩⟩
theorem TupL.at_ (h:TupL f H zs ps) {i:Nat}{p:β} (e:ps[i]?=some p):qkP f H zs i p:=by
 have hi:i < zs.length:=by rw[h.1];exact(List.getElem?_eq_some_iff.mp e).1
 obtain⟨t,et,q⟩:=h.2 i _ p (List.getElem?_eq_getElem hi) e;exact⟨t,by rw[List.getElem?_eq_getElem hi,et],q⟩
theorem TupL.of (h:TupL f H zs ps) {i:Nat}{z:V} (e:zs[i]?=some z):qkO f H ps i z:=by
 have hi:i < ps.length:=by rw[← h.1];exact(List.getElem?_eq_some_iff.mp e).1
 obtain⟨t,et,q⟩:=h.2 i z _ e (List.getElem?_eq_getElem hi);exact⟨_,t,List.getElem?_eq_getElem hi,et,q⟩
end
end L2
namespace KC
open PySem L2 PySem.NumText PyProof.Rows
theorem qkK {xs:List V}{i:Int} (h0:0≤i) (h1:i < xs.length):∃ v,atI xs i=some v∧v∈xs:=by
 obtain⟨n,rfl⟩:=Int.eq_ofNat_of_zero_le h0;have hn:n < xs.length:=by omega
 exact⟨xs[n],zA (List.getElem?_eq_getElem hn),List.getElem_mem hn⟩
end KC
namespace L2
open PySem PySem.Spec PyProof.Rows
open PySem.W (Frag typeIn mroIn clsIn subIn isClsIn)
def tyS:Value->String
 | .type a=>a
 | _=>""
def qfb:List Value->Bool
 | []=>false
 | x::r=>match x with
   | .ref _=>qfb r
   | _=>(x::r).map tyS == ["ValueError","Exception","BaseException","object"]
inductive qiG (K:Frag) (C:Addr):Prop
 | mk (nm qn:Str) (N:Addr) (bs bm:List Value) (sn:List Str) (sub:List Value) (ab:Bool) (col:Option Bool) (dd:Option Addr) (k0 k1 k2 k3 k5:Option Value) (h1:K.lookup C=some (excClassObj nm qn C N bs bm true sn sub ab col dd k0 k1 k2 k3 k5 "ValueError.__new__")) (h2:qfb bm=true):qiG K C
def qlA (K:Frag) (C:Addr):Prop:=qiG K C
noncomputable def xIn (K:Frag) (C:Addr):Bool:=@decide (qlA K C) (Classical.propDecidable _)
theorem xIn_iff {K:Frag}{C:Addr}:xIn K C=true↔qlA K C:=@decide_eq_true_iff (qlA K C) (Classical.propDecidable _)
section
variable {M:Model}{A:Around}{E:Value->Shared->Prop}{h:Heap}{g:Array GenState}{d:Drawn}{t:Nat}{os:OsState}
variable {nm q:Str}{C N:Addr}{bs bm bmB:List Value}{sn:List Str}{sub:List Value}{ab:Bool}{col:Option Bool}{dd:Option Addr}{k0 k1 k2 k3 k5:Option Value}{B newId initId:String}
end
section
variable {prog:Program}{w:World}{A:Around}{R:Result->Shared->Prop}{E:Value->Shared->Prop}{h:Heap}{g:Array GenState}{d:Drawn}{t:Nat}{os:OsState}
variable {nm q:Str}{C N:Addr}{bs bm bmB:List Value}{sn:List Str}{sub:List Value}{ab:Bool}{col:Option Bool}{dd:Option Addr}{k0 k1 k2 k3 k5:Option Value}{B newId initId:String}
end
section
variable {X:Cx}{o e value:Expr}{es:List Expr}{f x:Str}{p apos pos pos' tpos:Pos}{ta tv:TE}{t:TA}{C fa:Addr}
structure qgM (K:Frag) (C f:Addr):Prop where
 sp:PySem.W.specialIn K (.ref C) "__getattribute__"=some (some (.builtin "type.__getattribute__"))
 rd:PySem.W.readsIn K C (.type "type")=true
 at_:PySem.W.findCls K (.ref C) (.type "type") "__init__"=some (.val (.ref f))
 kp:PySem.W.keepIn K (.ref f)=true
theorem ZO {k:Nat}{fd:FuncData}{ps:List Str}{sp:Sp}{pl:Sem Bool} (c:qgM X.K C fa) (F:FnOk X.prog X.w X.K X.mg X.base CX0 k fa fd ps sp) (hr:Room k X.A) (hb:Binds X.K fd ps []) (hg:Gl X x) (hm:X.mg x=some (.ref C))
   (ha:PA X (e::es) t) (hdb:(x == ("__debug__":Str))=false:=by decide)
   (hst:starEach (e::es) X.env=(false,eval e X.env)::starEach es X.env:=by rfl) (hpl:(backTo pos (starEach es X.env)).any (·.1)=false:=by rfl)
   (ht:eval (.Call (.Attribute (.Name x p) "__init__" apos) (e::es) [] pos) X.env=(do
     let ov ← eval (.Name x p) X.env
     standAt apos.atName
     let (f,first) ← holding [ov] (getMethod ov "__init__" pl)
     callWith pos f first (backTo pos (starEach (e::es) X.env)) (backToKw pos (keywordEach [] X.env))):=by rfl) :
   PE X (.Call (.Attribute (.Name x p) "__init__" apos) (e::es) [] pos) (qjV sp [] E0 t):=by
 intro pins s σ H Q I h;refine PySem.W.methodCall_KW (pl:=pl) (qaH I hg hm ?_ hdb) ht;refine PySem.W.method_cls I.kIn c.sp (PySem.W.cls_value I.kIn c.rd c.at_ rfl ?_);have I0:=I.tok (s.toks+1);refine PySem.W.callWith_K (h₀:=X.base) I.ok.mod.kin c.kp (thn (ha pos pins _ σ H _ I0 h) fun us s1 ⟨vs,H1,I1,r,q⟩=>⟨I1.kIn,?_⟩) hst hpl;exact qec F hr hb .nil qm I1 r q
def qkT (K:Frag) (C:Addr):V->Option Bool
 | .ref D=>if (clsIn K D).isSome && typeIn K (.ref D) == some (.type "type") then subIn K (.ref C) (.ref D) else none
 | .ty T=>if T == "ValueError" then some true else none
 | _=>none
end
def qjn (v:Value):Bool:=match v with
 | .type s=>s == "type"
 | _=>false
def qjo (v:Option Value):Bool:=match v with
 | some (.builtin s)=>s == "ValueError.__new__"
 | _=>false
def qlh (C:Addr) (l:List Value):Bool:=match l with
 | .ref C1::bm=>C1 == C && qfb bm
 | _=>false
def xOb (C:Addr) (o:Obj):Bool:=match o.data with
 | .cls cd=>qjn o.cls && qlh C cd.mro && !cd.hasDel && cd.hasDict && o.slots.size == 6 && qjo (o.slots.getD 4 none)
 | _=>false
theorem qhv {v:Value} (h:qjn v=true):v=.type "type":=by
 cases v with
 | type s=>rw[eq_of_beq (show (s == "type")=true from h)]
 | _=>cases h
theorem qhw {v:Option Value} (h:qjo v=true):v=some (.builtin "ValueError.__new__"):=by
 cases v with
 | none=>cases h
 | some v =>
   cases v with
   | builtin s=>rw[eq_of_beq (show (s == "ValueError.__new__")=true from h)]
   | _=>cases h
theorem qjj {C:Addr}{l:List Value} (h:qlh C l=true):∃ bm,l=.ref C::bm∧qfb bm=true:=by
 cases l with
 | nil=>cases h
 | cons v bm =>
   cases v with
   | ref C1 =>
     have h':(C1 == C && qfb bm)=true:=h;rw[Bool.and_eq_true]at h';exact⟨bm,by rw[eq_of_beq h'.1],h'.2⟩
   | _=>cases h
theorem six {α:Type}{l:List α} (h:l.length=6):∃ a b c d e f,l=[a,b,c,d,e,f]:=by
 obtain⟨a,l,rfl⟩:=List.exists_cons_of_length_eq_add_one h;obtain⟨b,l,rfl⟩:=List.exists_cons_of_length_eq_add_one (Nat.succ.inj h);obtain⟨c,l,rfl⟩:=List.exists_cons_of_length_eq_add_one (Nat.succ.inj (Nat.succ.inj h));obtain⟨d,l,rfl⟩:=List.exists_cons_of_length_eq_add_one (Nat.succ.inj (Nat.succ.inj (Nat.succ.inj h)));obtain⟨e,l,rfl⟩:=List.exists_cons_of_length_eq_add_one (Nat.succ.inj (Nat.succ.inj (Nat.succ.inj (Nat.succ.inj h))));obtain⟨f,l,rfl⟩:=List.exists_cons_of_length_eq_add_one (Nat.succ.inj (Nat.succ.inj (Nat.succ.inj (Nat.succ.inj (Nat.succ.inj h)))))
 have:l=[]:=List.eq_nil_of_length_eq_zero (Nat.succ.inj (Nat.succ.inj (Nat.succ.inj (Nat.succ.inj (Nat.succ.inj (Nat.succ.inj h))))))
 subst this;exact⟨a,b,c,d,e,f,rfl⟩
theorem xIn_of {K:Frag}{C:Addr}{o:Obj} (h:K.lookup C=some o) (q:xOb C o=true):xIn K C=true:=by
 obtain⟨oc,dd,od,⟨sl⟩⟩:=o
 cases od with
 | cls cd =>
   have q':(qjn oc && qlh C cd.mro && !cd.hasDel && cd.hasDict && sl.length == 6 && qjo ((Array.mk sl).getD 4 none))=true:=q;simp only[Bool.and_eq_true,beq_iff_eq,Bool.not_eq_true']at q';obtain⟨⟨⟨⟨⟨q0,q1⟩,q2⟩,q3⟩,q4⟩,q5⟩:=q';obtain⟨bm,hm,hx⟩:=qjj q1;obtain⟨k0,k1,k2,k3,k4,k5,rfl⟩:=six q4;have e4:k4=some (.builtin "ValueError.__new__"):=qhw q5;have e0:=qhv q0;obtain⟨nm,bs,mro,ns,qn,hdc,sn,sub,ab,col,del⟩:=cd;dsimp only at hm q2 q3;subst hm q2 q3 e4 e0;exact xIn_iff.mpr ⟨nm,qn,ns,bs,bm,sn,sub,ab,col,dd,k0,k1,k2,k3,k5,h,hx⟩
 | _=>cases q
theorem xIsa_of {K:Frag}{C D:Addr}{b:Bool} (h1:isClsIn K D=true) (h2:typeIn K (.ref D)=some (.type "type")) (h3:subIn K (.ref C) (.ref D)=some b):qkT K C (.ref D)=some b:=by
 unfold qkT;have h1':(clsIn K D).isSome=true:=h1;simp only[h1',h2,Bool.true_and,beq_self_eq_true,if_true];exact h3
theorem CompOk.defX {CX:CXT}{P:Program}{w:World}{K:Frag}{mg:Str->Option Value}{base:Heap}{N0:List Str}{qual:Str}{sc0:Scope}{f:Addr}{cd:Value}{A:Around}{outer:List Env}{s:Shared}{H:Hp}{E:XK}{scope:Scope}
   (N:List Str) (js:List (Option Nat)) (hk0:sc0.kind=.function:=by rfl) (hk:scope.kind=.function:=by rfl) (hcell:∀ y∈scope.names,y.2≠.cell:=by decide +kernel) (hnames:∀ y∈scope.names,y.2=.local->scope.names.lookup y.1=some .local:=by decide +kernel)
   (hfr0:∀ y∈scope.names,y.2=.free->sc0.names.lookup y.1=some .cell:=by decide +kernel) (len:js.length=N.length:=by rfl) (hfr:qjq scope N0 N js=true:=by decide +kernel) :
   CompOk (zw CX P w K mg base N0 qual sc0 f cd A outer s H E) scope N (zZ (zw CX P w K mg base N0 qual sc0 f cd A outer s H E).env.cells scope.names []) js :=
 CompOk.of hk hcell hnames hk0 (fun y hy z=>⟨hfr0 y hy z,Option.isSome_iff_exists.mp (PySem.W.cellsFrom_some _ _ _ (.inl (hfr0 y hy z)))⟩) len (qew hfr)
def qlb:Value->Option Addr
 | .ref a=>some a
 | _=>none
theorem qfM (D:Addr):∀ l:List Value,l.contains (.ref D)=(l.map qlb).contains (some D)
 | []=>rfl
 | v::l=>by
   rw[List.map_cons,List.contains_cons,List.contains_cons,qfM D l];congr 1
   cases v with
   | ref c =>
     show (Value.ref D == Value.ref c)=(some D == some c);by_cases e:D=c
     · subst e;simp
     · rw[beq_eq_false_iff_ne.mpr (fun z=>e (Value.ref.inj z)),beq_eq_false_iff_ne.mpr (fun z=>e (Option.some.inj z))]
   | _=>rfl
def XMro (K:Frag) (C:Addr) (l:List (Option Addr)):Prop:=∃ cd,clsIn K C=some cd∧cd.mro.map qlb=l
def qkt (l:List (Option Addr)) (o:Obj):Bool:=match o.data with
 | .cls cd=>cd.mro.map qlb == l
 | _=>false
theorem XMro.of {K:Frag}{C:Addr}{o:Obj}{l:List (Option Addr)} (h:K.lookup C=some o) (q:qkt l o=true):XMro K C l:=by
 obtain⟨oc,od,odt,osl⟩:=o;unfold qkt at q
 cases odt with
 | cls cd =>
   refine⟨cd,?_,eq_of_beq q⟩;unfold clsIn;rw[h]
 | _=>cases q
def qfa (K:Frag) (D:Addr):Prop:=isClsIn K D=true∧typeIn K (.ref D)=some (.type "type")
theorem qgS {K:Frag}{C D:Addr}{l:List (Option Addr)} (m:XMro K C l) (hl:l≠[]) (d:qfa K D):qkT K C (.ref D)=some (l.contains (some D)):=by
 obtain⟨cd,h1,h2⟩:=m;refine xIsa_of d.1 d.2 ?_;show mroIn K C (.ref D)=_;unfold mroIn;rw[h1,Option.bind_some,if_neg,qfM,h2];intro z;rw[List.isEmpty_iff]at z;rw[z]at h2;exact hl h2.symm
end L2
namespace Srt
open PySem PySem.W PyProof.Rows
def RunP {α:Type} (lt:Nat->Nat->Bool) (n:Nat):KasT α->(α->Prop)->Prop
 | .ret a,P=>P a
 | .ask i j k,P=>i < n∧j < n∧RunP lt n (k (lt i j)) P
section
variable {lt:Nat->Nat->Bool}{n:Nat}
theorem RunP.bind {α β:Type}{f:α->KasT β}{P:β->Prop}:∀ {t:KasT α},RunP lt n t (fun a=>RunP lt n (f a) P)->RunP lt n (t.bind f) P
 | .ret _,h=>h
 | .ask i j k,h=>⟨h.1,h.2.1,RunP.bind (t:=k (lt i j)) h.2.2⟩
theorem RunP.mono {α:Type}{P P':α->Prop} (hp:∀ a,P a->P' a):∀ {t:KasT α},RunP lt n t P->RunP lt n t P'
 | .ret _,h=>hp _ h
 | .ask i j k,h=>⟨h.1,h.2.1,RunP.mono hp (t:=k (lt i j)) h.2.2⟩
theorem RunP.wp {α:Type}{cmp:Nat->Nat->(Bool->Shared->Prop)->Shared->Prop}{Q:α->Shared->Prop}{P:α->Prop}{s:Shared} (hc:∀ i j (C:Bool->Shared->Prop),i < n->j < n->C (lt i j) s->cmp i j C s) (hq:∀ a,P a->Q a s):∀ {t:KasT α},RunP lt n t P->t.kasWp cmp Q s
 | .ret _,h=>hq _ h
 | .ask i j k,h=>hc i j _ h.1 h.2.1 (RunP.wp hc hq (t:=k (lt i j)) h.2.2)
theorem RunP.ite {α:Type}{c:Prop} [Decidable c] {t u:KasT α}{P:α->Prop} (h1:c->RunP lt n t P) (h2:¬ c->RunP lt n u P):RunP lt n (if c then t else u) P:=by
 by_cases h:c
 · rw[if_pos h];exact h1 h
 · rw[if_neg h];exact h2 h
def Bd (n:Nat) (p:Array Nat):Prop:=∀ x,p.getD x 0 < n
theorem qaN {p q:Array Nat}{x y:Nat} (h:p[x]?=q[y]?):p.getD x 0=q.getD y 0:=by
 simp only[Array.getD_eq_getD_getElem?,h]
theorem qbt {p:Array Nat}{i j:Nat} (hj:j≤p.size) (x:Nat):(kas_rev p i j).getD x 0=if i≤x∧x < j then p.getD (i+j - 1 - x) 0 else p.getD x 0:=by
 have h:=getElem?_mirror_all (xs:=p) (i:=i) hj x;by_cases c:i≤x∧x < j
 · rw[if_pos c]at h ⊢;exact qaN h
 · rw[if_neg c]at h ⊢;exact qaN h
theorem Bd.rev {p:Array Nat}{i j:Nat} (h:Bd n p) (hj:j≤p.size):Bd n (kas_rev p i j):=fun x=>by
 rw[qbt hj];split<;>exact h _
theorem qgz {p:Array Nat}{k d:Nat} (hk:k < p.size) (hd:d≤k) (x:Nat):(bubble p k d).getD x 0=if x=k - d then p.getD k 0 else if k - d < x∧x≤k then p.getD (x - 1) 0 else p.getD x 0:=by
 have h:=getElem?_bubble (xs:=p) hk d hd x;by_cases c:x=k - d
 · rw[if_pos c]at h ⊢;exact qaN h
 · rw[if_neg c]at h ⊢;by_cases c2:k - d < x∧x≤k
   · rw[if_pos c2]at h ⊢;exact qaN h
   · rw[if_neg c2]at h ⊢;exact qaN h
theorem Bd.bub {p:Array Nat}{k d:Nat} (h:Bd n p) (hk:k < p.size) (hd:d≤k):Bd n (bubble p k d):=fun x=>by
 rw[qgz hk hd];by_cases c:x=k - d
 · rw[if_pos c];exact h _
 · rw[if_neg c];by_cases c2:k - d < x∧x≤k
   · rw[if_pos c2];exact h _
   · rw[if_neg c2];exact h _
structure Ord (lt:Nat->Nat->Bool):Prop where
 tr:∀ a b c,lt b a=false->lt c b=false->lt c a=false
 asy:∀ a b,lt a b=true->lt b a=false
theorem Ord.irr (O:Ord lt) (a:Nat):lt a a=false:=by
 cases h:lt a a with
 | false=>rfl
 | true=>rw[← h];exact O.asy _ _ h
def Up (lt:Nat->Nat->Bool) (p:Array Nat) (k:Nat):Prop:=∀ x,x+1 < k->lt (p.getD (x+1) 0) (p.getD x 0)=false
def Dn (lt:Nat->Nat->Bool) (p:Array Nat) (k:Nat):Prop:=∀ x,x+1 < k->lt (p.getD x 0) (p.getD (x+1) 0)=false
def Eqv (lt:Nat->Nat->Bool) (a b:Nat):Prop:=lt a b=false∧lt b a=false
theorem Eqv.not (O:Ord lt) {a a' b b':Nat} (h1:Eqv lt a a') (h2:Eqv lt b b') (h:lt a b=false):lt a' b'=false:=O.tr _ _ _ (O.tr _ _ _ h2.1 h) h1.2
theorem Up.le (O:Ord lt) {p:Array Nat}{k:Nat} (h:Up lt p k) {x:Nat}:∀ d,x+d < k->lt (p.getD (x+d) 0) (p.getD x 0)=false
 | 0,_=>O.irr _
 | d+1,hd=>O.tr _ _ _ (Up.le O h d (by omega)) (h (x+d) (by omega))
theorem qgH (p:Array Nat) (hb:Bd n p):∀ (f m:Nat),1≤m->Up lt p m->RunP lt n (kas_asc p f m) fun r=>m≤r∧r≤m+f∧Up lt p r∧(r < m+f->lt (p.getD r 0) (p.getD (r - 1) 0)=true)
 | 0,m,_,hu=>⟨Nat.le_refl _,Nat.le_refl _,hu,fun h=>absurd h (by omega)⟩
 | f+1,m,h1,hu=>by
   refine⟨hb _,hb _,RunP.ite (fun c=>?_) (fun c=>?_)⟩
   · exact⟨Nat.le_refl _,by omega,hu,fun _=>c⟩
   · have c:lt (p.getD m 0) (p.getD (m - 1) 0)=false:=by simpa using c
     refine RunP.mono (fun r h=>?_) (qgH p hb f (m+1) (by omega) (fun x hx=>?_))
     · exact⟨by omega,by omega,h.2.2.1,fun z=>h.2.2.2 (by omega)⟩
     · by_cases e:x+1=m
       · have e1:x=m - 1:=by omega
         rw[e1,show m - 1+1=m by omega];exact c
       · exact hu x (by omega)
def Blk (lt:Nat->Nat->Bool) (p:Array Nat) (m q:Nat):Prop:=q+1≤m∧∀ x,m - (q+1)≤x->x < m->Eqv lt (p.getD x 0) (p.getD (m - 1) 0)
theorem Blk.rev (O:Ord lt) {p:Array Nat}{m q:Nat} (hm:m≤p.size) (h:Blk lt p m q) (x:Nat) (hx:x < m):Eqv lt (p.getD x 0) ((kas_rev p (m - (q+1)) m).getD x 0):=by
 rw[qbt hm];by_cases c:m - (q+1)≤x∧x < m
 · rw[if_pos c];have h1:=h.2 x c.1 c.2;have hq:=h.1;have h2:=h.2 (m - (q+1)+m - 1 - x) (by omega) (by omega);exact⟨O.tr _ _ _ h2.2 h1.1,O.tr _ _ _ h1.2 h2.1⟩
 · rw[if_neg c];exact⟨O.irr _,O.irr _⟩
theorem Dn.eqv (O:Ord lt) {p p':Array Nat}{m:Nat} (h:Dn lt p m) (e:∀ x,x < m->Eqv lt (p.getD x 0) (p'.getD x 0)):Dn lt p' m:=fun x hx=>(e x (by omega)).not O (e (x+1) hx) (h x hx)
theorem qb9 (O:Ord lt):∀ (f:Nat) (p:Array Nat) (m q:Nat),Bd n p->1≤m->m+f≤p.size->Dn lt p m->Blk lt p m q->RunP lt n (kas_desc f p m q) fun r =>
   Bd n r.1∧r.1.Perm p∧r.1.size=p.size∧m≤r.2.1∧r.2.1≤m+f∧Dn lt r.1 r.2.1∧Blk lt r.1 r.2.1 r.2.2
 | 0,p,m,q,hb,h1,hs,hd,bl=>⟨hb,Array.Perm.refl _,rfl,Nat.le_refl _,Nat.le_refl _,hd,bl⟩
 | f+1,p,m,q,hb,h1,hs,hd,bl=>by
   have one:∀ p':Array Nat,p'.getD m 0=p'.getD (m+1 - 1) 0:=fun p'=>rfl;refine⟨hb _,hb _,RunP.ite (fun c=>RunP.ite (fun hq=>?_) (fun hq=>?_)) (fun c=>⟨hb _,hb _,RunP.ite (fun d=>?_) (fun d=>?_)⟩)⟩
   · have hm:m≤p.size:=by omega
     have ev:=bl.rev O hm;have sz:(kas_rev p (m - (q+1)) m).size=p.size:=kas_rev_size _ _;have out:(kas_rev p (m - (q+1)) m).getD m 0=p.getD m 0:=by rw[qbt hm,if_neg (by omega)]
     refine RunP.mono (fun r h=>?_) (qb9 O f (kas_rev p (m - (q+1)) m) (m+1) 0 (hb.rev hm) (by omega) (by omega) (fun x hx=>?_) ⟨by omega,fun x h0 h2=>?_⟩)
     · exact⟨h.1,h.2.1.trans (mirror_perm _ _ _ _),by rw[h.2.2.1,sz],by omega,by omega,h.2.2.2.2.2.1,h.2.2.2.2.2.2⟩
     · by_cases e:x+1=m
       · have e1:x=m - 1:=by omega
         subst e1;rw[show m - 1+1=m by omega,out];exact(ev (m - 1) (by omega)).not O ⟨O.irr _,O.irr _⟩ (O.asy _ _ c)
       · exact hd.eqv O ev x (by omega)
     · have e:x=m:=by omega
       subst e;exact⟨O.irr _,O.irr _⟩
   · refine RunP.mono (fun r h=>?_) (qb9 O f p (m+1) 0 hb (by omega) (by omega) (fun x hx=>?_) ⟨by omega,fun x h0 h2=>?_⟩)
     · exact⟨h.1,h.2.1,h.2.2.1,by omega,by omega,h.2.2.2.2.2.1,h.2.2.2.2.2.2⟩
     · by_cases e:x+1=m
       · have e1:x=m - 1:=by omega
         subst e1;rw[show m - 1+1=m by omega];exact O.asy _ _ c
       · exact hd x (by omega)
     · have e:x=m:=by omega
       subst e;exact⟨O.irr _,O.irr _⟩
   · exact⟨hb,Array.Perm.refl _,rfl,Nat.le_refl _,(by show m≤m+(f+1);omega),hd,bl⟩
   · have c:lt (p.getD m 0) (p.getD (m - 1) 0)=false:=by simpa using c
     have d:lt (p.getD (m - 1) 0) (p.getD m 0)=false:=by simpa using d
     refine RunP.mono (fun r h=>?_) (qb9 O f p (m+1) (q+1) hb (by omega) (by omega) (fun x hx=>?_) ⟨by have:=bl.1;omega,fun x h0 h2=>?_⟩)
     · exact⟨h.1,h.2.1,h.2.2.1,by omega,by omega,h.2.2.2.2.2.1,h.2.2.2.2.2.2⟩
     · by_cases e:x+1=m
       · have e1:x=m - 1:=by omega
         subst e1;rw[show m - 1+1=m by omega];exact d
       · exact hd x (by omega)
     · show Eqv lt (p.getD x 0) (p.getD m 0);by_cases e:x=m
       · rw[e];exact⟨O.irr _,O.irr _⟩
       · have:=bl.2 x (by omega) (by omega)
         exact⟨O.tr _ _ _ d this.1,O.tr _ _ _ this.2 c⟩
theorem Dn.rev {p:Array Nat}{m:Nat} (h:Dn lt p m) (hm:m≤p.size):Up lt (kas_rev p 0 m) m:=fun x hx=>by
 rw[qbt hm,qbt hm,if_pos ⟨Nat.zero_le _,by omega⟩,if_pos ⟨Nat.zero_le _,by omega⟩]
 have:=h (m - 2 - x) (by omega)
 rw[show m - 2 - x+1=0+m - 1 - x by omega]at this;rw[show 0+m - 1 - (x+1)=m - 2 - x by omega];exact this
def Cnt (lt:Nat->Nat->Bool) (n N:Nat) (p:Array Nat) (r:Nat×Array Nat):Prop:=Bd n r.2∧r.2.Perm p∧r.2.size=p.size∧1≤r.1∧r.1≤N∧Up lt r.2 r.1
theorem qdT {N m:Nat}{p:Array Nat} (hb:Bd n p) (h1:1≤m) (hm:m≤N) (hs:N≤p.size) (hd:Dn lt p m):RunP lt n (kas_tail3 m N p) (Cnt lt n N p):=by
 unfold kas_tail3;refine RunP.bind (RunP.mono (fun r h=>?_) (qgH (kas_rev p 0 m) (hb.rev (by omega)) (N - m) m h1 (hd.rev (by omega))));exact⟨hb.rev (by omega),mirror_perm _ _ _ _,kas_rev_size _ _,by omega,by omega,h.2.2.1⟩
theorem qaP (O:Ord lt) {N m:Nat}{p:Array Nat} (hb:Bd n p) (h1:1≤m) (hm:m < N) (hs:N≤p.size) (hd:Dn lt p (m+1)):RunP lt n (kas_descPart m N p) (Cnt lt n N p):=by
 unfold kas_descPart
 refine RunP.bind (RunP.mono (fun r h=>?_) (qb9 O (N - (m+1)) p (m+1) 0 hb (by omega) (by omega) hd ⟨by omega,fun x h0 h2=>by
   have e:x=m:=by omega
   subst e
   exact⟨O.irr _,O.irr _⟩⟩))
 obtain⟨g1,g2,g3,g4,g5,g6,g7⟩:=h;refine RunP.ite (fun hq=>?_) (fun hq=>?_)
 · have hm2:r.2.1≤r.1.size:=by omega
   refine RunP.mono (fun z hz=>?_) (qdT (g1.rev hm2) (by omega) (by omega) (by rw[kas_rev_size];omega) (g6.eqv O (g7.rev O hm2)));exact⟨hz.1,(hz.2.1.trans (mirror_perm _ _ _ _)).trans g2,by rw[hz.2.2.1,kas_rev_size,g3],hz.2.2.2⟩
 · refine RunP.mono (fun z hz=>?_) (qdT g1 (by omega) (by omega) (by omega) g6);exact⟨hz.1,hz.2.1.trans g2,by rw[hz.2.2.1,g3],hz.2.2.2⟩
theorem qhK (O:Ord lt) {N:Nat}{p:Array Nat} (hb:Bd n p) (h2:1≤N) (hs:N≤p.size):RunP lt n (kas_count N p) (Cnt lt n N p):=by
 unfold kas_count;refine RunP.bind (RunP.mono (fun m h=>?_) (qgH p hb (N - 1) 1 (Nat.le_refl _) (fun x hx=>by omega)));obtain⟨m1,mN,up,stop⟩:=h;refine RunP.ite (fun c=>?_) (fun c=>?_)
 · exact⟨hb,Array.Perm.refl _,rfl,m1,by omega,up⟩
 · have c:m≠N:=by simpa using c
   have st:=stop (by omega);refine RunP.ite (fun g=>⟨hb _,hb _,RunP.ite (fun e=>?_) (fun e=>?_)⟩) (fun g=>?_)
   · exact⟨hb,Array.Perm.refl _,rfl,m1,by omega,up⟩
   · have e:lt (p.getD 0 0) (p.getD (m - 1) 0)=false:=by simpa using e
     -- all of the first m are alike
     have alike:∀ x,x < m->Eqv lt (p.getD x 0) (p.getD (m - 1) 0):=fun x hx=>by
       have a1:=up.le O (x:=x) (m - 1 - x) (by omega);rw[show x+(m - 1 - x)=m - 1 by omega]at a1;have a2:=up.le O (x:=0) x (by omega);rw[Nat.zero_add]at a2;exact⟨O.tr _ _ _ e a2,a1⟩
     have hmp:m≤p.size:=by omega
     have blk:Blk lt p m (m - 1):=⟨by omega,fun x _ hx=>alike x hx⟩
     have ev:=blk.rev O hmp;rw[show m - (m - 1+1)=0 by omega]at ev;have dn0:Dn lt p m:=fun x hx=>O.tr _ _ _ (alike (x+1) hx).2 (alike x (by omega)).1
     have dn:Dn lt (kas_rev p 0 m) (m+1):=fun x hx=>by
       by_cases e1:x+1=m
       · have e2:x=m - 1:=by omega
         subst e2;have out:(kas_rev p 0 m).getD (m - 1+1) 0=p.getD m 0:=by rw[qbt hmp,if_neg (by omega),show m - 1+1=m by omega]
         rw[out];exact(ev (m - 1) (by omega)).not O ⟨O.irr _,O.irr _⟩ (O.asy _ _ st)
       · exact dn0.eqv O ev x (by omega)
     refine RunP.mono (fun z hz=>?_) (qaP O (hb.rev hmp) m1 (by omega) (by rw[kas_rev_size];exact hs) dn);exact⟨hz.1,hz.2.1.trans (mirror_perm _ _ _ _),by rw[hz.2.2.1,kas_rev_size],hz.2.2.2⟩
   · have e1:m=1:=by omega
     subst e1
     exact qaP O hb (Nat.le_refl _) (by omega) hs (fun x hx=>by
       have:x=0:=by omega
       subst this
       exact O.asy _ _ st)
theorem qbX (O:Ord lt) {p:Array Nat}{k:Nat} (hb:Bd n p) (up:Up lt p k):∀ (f l r:Nat),l≤r->r≤k->r - l≤f->(∀ x,x < l->lt (p.getD k 0) (p.getD x 0)=false)->(∀ x,r≤x->x < k->lt (p.getD k 0) (p.getD x 0)=true) ->
   RunP lt n (kas_place p k f l r) fun m=>m≤k∧(∀ x,x < m->lt (p.getD k 0) (p.getD x 0)=false)∧∀ x,m≤x->x < k->lt (p.getD k 0) (p.getD x 0)=true
 | 0,l,r,h1,h2,h3,a,b=>⟨by omega,a,fun x hx=>b x (by omega)⟩
 | f+1,l,r,h1,h2,h3,a,b=>by
   refine RunP.ite (fun c=>?_) (fun c=>⟨hb _,hb _,RunP.ite (fun d=>?_) (fun d=>?_)⟩)
   · exact⟨by omega,a,fun x hx=>b x (by omega)⟩
   · refine qbX O hb up f l ((l+r) / 2) (by omega) (by omega) (by omega) a fun x hx hk=>?_
     cases hz:lt (p.getD k 0) (p.getD x 0) with
     | true=>rfl
     | false =>
       have q:=up.le O (x:=(l+r) / 2) (x - (l+r) / 2) (by omega);rw[show (l+r) / 2+(x - (l+r) / 2)=x by omega]at q
       have:=O.tr _ _ _ q hz
       rw[d]at this;cases this
   · have d:lt (p.getD k 0) (p.getD ((l+r) / 2) 0)=false:=by simpa using d
     refine qbX O hb up f ((l+r) / 2+1) r (by omega) h2 (by omega) (fun x hx=>?_) b;have q:=up.le O (x:=x) ((l+r) / 2 - x) (by omega);rw[show x+((l+r) / 2 - x)=(l+r) / 2 by omega]at q;exact O.tr _ _ _ q d
theorem qiD (O:Ord lt):∀ (f:Nat) (p:Array Nat) (k:Nat),Bd n p->k+f≤p.size->Up lt p k->RunP lt n (kas_bin f p k) fun r=>r.Perm p∧Up lt r (k+f)
 | 0,p,k,hb,hs,up=>⟨Array.Perm.refl _,up⟩
 | f+1,p,k,hb,hs,up=>by
   refine RunP.bind (RunP.mono (fun l h=>?_) (qbX O hb up k 0 k (Nat.zero_le _) (Nat.le_refl _) (by omega) (fun x hx=>absurd hx (by omega)) (fun x h1 h2=>absurd h1 (by omega))));obtain⟨lk,lo,hi⟩:=h;have hk:k < p.size:=by omega
   refine RunP.mono (fun r h=>⟨h.1.trans (bubble_perm _ _ _),by rw[show k+(f+1)=k+1+f by omega];exact h.2⟩) (qiD O f (bubble p k (k - l)) (k+1) (hb.bub hk (by omega)) (by rw[bubble_size];omega) (fun x hx=>?_));have e:k - (k - l)=l:=by omega
   rw[qgz hk (by omega),qgz hk (by omega),e];by_cases c1:x+1=l
   · rw[if_pos c1,if_neg (by omega),if_neg (by omega)];exact lo x (by omega)
   · rw[if_neg c1];by_cases c2:x=l
     · rw[if_pos c2,if_pos ⟨by omega,by omega⟩,show x+1 - 1=x by omega];exact O.asy _ _ (hi x (by omega) (by omega))
     · rw[if_neg c2];by_cases c3:l < x
       · rw[if_pos ⟨by omega,by omega⟩,if_pos ⟨c3,by omega⟩]
         have:=up (x - 1) (by omega)
         rw[show x - 1+1=x by omega]at this;rw[show x+1 - 1=x by omega];exact this
       · rw[if_neg (by omega),if_neg (by omega)];exact up x (by omega)
theorem sort_ok (O:Ord lt) (h:1≤n):RunP lt n (kas_sort n) fun r=>r.Perm (List.toArray (List.range n))∧Up lt r n:=by
 have hb:Bd n (List.toArray (List.range n)):=fun x=>by
   simp only[Array.getD_eq_getD_getElem?,List.getElem?_toArray];by_cases hx:x < n
   · rw[List.getElem?_range hx];exact hx
   · rw[List.getElem?_eq_none (by simp;omega)];exact h
 have sz:(List.toArray (List.range n)).size=n:=by simp
 unfold kas_sort;refine RunP.bind (RunP.mono (fun r hr=>?_) (qhK O hb h (by omega)));obtain⟨g1,g2,g3,g4,g5,g6⟩:=hr;refine RunP.ite (fun c=>?_) (fun c=>?_)
 · have e:max r.1 1=r.1:=by omega
   rw[e];refine RunP.mono (fun z hz=>⟨hz.1.trans g2,?_⟩) (qiD O (n - r.1) r.2 r.1 g1 (by omega) g6)
   have:=hz.2
   rw[show r.1+(n - r.1)=n by omega]at this;exact this
 · have e:r.1=n:=by omega
   rw[e]at g6;exact⟨g2,g6⟩
end
end Srt
namespace L2
open PySem PySem.Spec PyProof.Rows
open PySem.W (Frag kitOne)
theorem ObjOk.lies {P:Program}{w:World}{H:Hp}{h:Heap}{a:Addr}{o:HO} (x:ObjOk P w H h a o):∃ ob,h.get? a=some ob:=by
 cases o with
 | lst xs=>obtain⟨_,_,_,_,e⟩:=x;exact⟨_,e⟩
 | tup xs=>obtain⟨_,_,_,o,e,_⟩:=x;exact⟨_,e⟩
 | dK kvs=>obtain⟨_,_,_,_,o,_,_,e,_⟩:=x;exact⟨_,e⟩
 | dT kvs=>obtain⟨_,_,_,_,o,_,_,e,_⟩:=x;exact⟨_,e⟩
 | set S n=>obtain⟨o,_,_,_,e,_⟩:=x;exact⟨_,e⟩
 | ins C dx fs=>obtain⟨_,_,_,e,_⟩:=x;exact⟨_,e⟩
 | own y=>obtain⟨_,e⟩:=x;exact⟨_,e⟩
 | xd fs=>obtain⟨_,⟨_,_,_,e,_⟩,_⟩:=x;exact⟨_,e⟩
 | rng lo hi=>obtain⟨_,_,_,e⟩:=x;exact⟨_,e⟩
 | frz ob u=>obtain⟨e,_⟩:=x;exact⟨_,e⟩
 | tbl ps=>exact⟨_,(show h.get? a=some _ from x)⟩
 | met f y=>exact⟨_,(show h.get? a=some _ from x)⟩
 | ext φ=>obtain⟨_,⟨_,e⟩,_⟩:=x;exact⟨_,e⟩
section
variable {X:Cx}{pins:List (Addr×Obj)}{σ:List (Option V)}{H:Hp}{s:Shared}{h':Heap}
theorem Inv.unlaid {a:Addr} (I:Inv X pins σ H s) (e:s.heap.get? a=none):H a=none:=by
 cases q:H a with
 | none=>rfl
 | some o =>
   obtain⟨ob,z⟩:=(I.hok a o q).lies;rw[e]at z;cases z
theorem Inv.laidL {a:Addr}{o:HO}{t':Nat} (I:Inv X pins σ H s) (k:∀ b u,b≠X.env.locals->s.heap.get? b=some u->h'.get? b=some u) (ns:∀ m,s.heap.Ns X.env.locals m->h'.Ns X.env.locals m)
   (hp:s.heap.get? a=none) (new:ObjOk X.prog X.w (upd H a o) h' a o):Inv X pins σ (upd H a o) { s with heap:=h',toks:=t' }:=by
 have hn:H a=none:=I.unlaid hp;have nL:∀ b u,H b=some u->b≠X.env.locals:=fun b u e z=>by rw[z,I.free]at e;cases e
 have na:∀ b u,s.heap.get? b=some u->b≠a:=fun b u q z=>by rw[z,hp]at q;cases q
 refine I.step (g':=s.gens) (d':=s.drawn) (ch:=[]) (fun _ z=>nomatch z) (fun b o hb _ _ e _=>k b o hb e) (fun b o hb _ _ e _=>⟨o.slots,k b o hb e⟩) (fun b o _ e n=>by rw[qh (na b o e)];exact n) (fun b o _ e=>?_)
   (fun b xs q=>by rw[qh (qi q hn)];exact q) (fun b u xs q=>by rw[qh (qi q hn)];exact q) (fun b ps q=>⟨#[],by rw[qh (qi q hn),q];simp⟩) ns (fun b u e=>?_) I.bare
 · by_cases z:b=X.env.locals
   · obtain⟨m,hm,_⟩:=I.loc;obtain⟨o',_,_,ho',_⟩:=ns m hm;exact⟨o',by rw[z];exact ho'⟩
   · exact⟨o,k b o z e⟩
 · by_cases z:b=a
   · subst z;rw[qc]at e;cases e;exact new
   · rw[qh z]at e;refine(I.hok b u e).stay (fun c v hc q=>k c v ?_ q) (fun c q=>by rw[qh (qi q hn)];exact q) fun c xs q=>by rw[qh (qi q hn)];exact q
     rcases hc with z|z
     · rw[z];exact nL b u e
     · exact nL c _ z
end
def qdl (base h:Heap) (L:Addr):List (Addr×Obj):=(List.range h.objs.size).filterMap fun a=>if a=L then none else if (base.get? a).isSome then none else (h.get? a).map fun o=>(a,o)
theorem qbF (base h:Heap) (L:Addr):News base L h (qdl base h L):=by
 intro p hp;unfold qdl at hp;obtain⟨a,_,e⟩:=List.mem_filterMap.mp hp;by_cases c1:a=L
 · rw[if_pos c1]at e;cases e
 · rw[if_neg c1]at e;by_cases c2:(base.get? a).isSome=true
   · rw[if_pos c2]at e;cases e
   · rw[if_neg c2]at e
     cases q:h.get? a with
     | none=>rw[q]at e;cases e
     | some o =>
       rw[q]at e;cases e;refine⟨q,c1,?_⟩
       cases z:base.get? a with
       | none=>rfl
       | some _=>rw[z]at c2;exact absurd rfl c2
theorem j5 {base h:Heap}{L b:Addr}{o:Obj} (e:h.get? b=some o) (ne:b≠L) (n:base.get? b=none):(b,o)∈qdl base h L:=by
 unfold qdl;refine List.mem_filterMap.mpr ⟨b,List.mem_range.mpr (Heap.lt_size e),?_⟩;rw[if_neg ne,n,e];rfl
theorem qii {h:Heap}{a:Addr}{m m':Str->Option Value} (x:h.Ns a m) (y:h.Ns a m'):m=m':=by
 obtain⟨o,es,ep,ho,hd,_,f⟩:=x;obtain⟨o',es',ep',ho',hd',_,f'⟩:=y;rw[ho]at ho';cases ho';rw[hd]at hd';cases hd';exact funext fun n=>(f n).symm.trans (f' n)
section
variable {X:Cx}{pins:List (Addr×Obj)}{σ:List (Option V)}{H:Hp}{s:Shared}{h':Heap}
theorem Inv.laidN {D:Addr}{m:Str->Option Value}{vs:List Value}{c:Nat}{ys:List V} (I:Inv X pins σ H s) (F:Fr X.base X.env.locals s.heap m) (F':Fr X.base X.env.locals h' m)
   (N':News X.base X.env.locals h' ((D,PySem.W.listOf vs.toArray c)::qdl X.base s.heap X.env.locals)) (hD:∀ q∈qdl X.base s.heap X.env.locals,q.1 < D) (r:Vals ys vs) (hz:ys.length≤sizeLine) :
   H D=none∧Inv X pins σ (upd H D (.lst ys)) { s with heap:=h' }:=by
 obtain⟨e1,e2,e3⟩:=N' _ (.head _)
 have free:s.heap.get? D=none:=by
   cases q:s.heap.get? D with
   | none=>rfl
   | some o=>exact absurd (hD _ (j5 q e2 e3)) (Nat.lt_irrefl _)
 have kp:∀ b u,b≠X.env.locals->s.heap.get? b=some u->h'.get? b=some u:=fun b u ne q=>by
   cases z:X.base.get? b with
   | some o =>
     have:=I.bk b o z
     rw[q]at this;cases this;exact F'.keep b _ z
   | none=>exact(N' _ (List.mem_cons_of_mem _ (j5 q ne z))).1
 refine⟨I.unlaid free,I.laidL (t':=s.toks) kp (fun m' hm=>?_) free ⟨hz,vs,c,r,?_⟩⟩
 · rw[qii hm F.ns];exact F'.ns
 · exact e1
theorem qes:∀ {ns:List Int}{vs:List Value},Vals (ns.map V.int) vs->IntsAre vs ns
 | [],_,.nil=>.nil
 | n::ns,_,.cons r t=>by
   obtain⟨tk,rfl⟩:=(show ∃ t,_=Value.int n t from r)
   exact .cons n tk (qes t)
end
def Q0:List Int->List Int->Bool
 | a::as,b::bs=>if a=b then Q0 as bs else decide (a < b)
 | _,_=>false
theorem qcZ:∀ as bs,Q0 as bs=true->Q0 bs as=false
 | [],_,h=>by simp[Q0]at h
 | _::_,[],h=>by simp[Q0]at h
 | a::as,b::bs,h=>by
   unfold Q0 at h ⊢;by_cases e:a=b
   · rw[if_pos e]at h;rw[if_pos e.symm];exact qcZ as bs h
   · rw[if_neg e]at h;rw[if_neg fun z=>e z.symm]
     have:=of_decide_eq_true h
     exact decide_eq_false (by omega)
theorem qeq:∀ {as bs cs:List Int},as.length=bs.length->bs.length=cs.length->Q0 as bs=false->Q0 bs cs=false->Q0 as cs=false
 | [],_,_,_,_,_,_=>rfl
 | _::_,[],_,h,_,_,_=>by simp at h
 | _::_,_::_,[],_,h,_,_=>by simp at h
 | a::as,b::bs,c::cs,h1,h2,x,y=>by
   unfold Q0 at x y ⊢;by_cases e1:a=b
   · subst e1;rw[if_pos rfl]at x;by_cases e2:a=c
     · subst e2;rw[if_pos rfl]at y ⊢;exact qeq (by simpa using h1) (by simpa using h2) x y
     · rw[if_neg e2]at y ⊢;exact y
   · rw[if_neg e1]at x;have x':=of_decide_eq_false x;by_cases e2:b=c
     · subst e2;rw[if_neg e1];exact x
     · rw[if_neg e2]at y;have y':=of_decide_eq_false y;rw[if_neg (by omega)];exact decide_eq_false (by omega)
section
variable {prog:Program}{w:World}{A:Around}{s:Shared}
theorem qf7 {b:Bool}{Q:Bool->Shared->Prop}:∀ {as bs:List Int}{us vs:List Value}{i:Nat},Vals (as.map V.int) us->Vals (bs.map V.int) vs->as.length=bs.length->Q (Q0 as bs) s->PySem.W.KatLex prog w A b false Q (us.zip vs) i s
 | [],[],_,_,_,.nil,.nil,_,h=>PySem.W.kat_nil h
 | [],_::_,_,_,_,_,_,e,_=>by simp at e
 | _::_,[],_,_,_,_,_,e,_=>by simp at e
 | a::as,c::cs,_,_,i,.cons r1 t1,.cons r2 t2,e,h=>by
   obtain⟨x,rfl⟩:=(show ∃ t,_=Value.int a t from r1)
   obtain⟨y,rfl⟩:=(show ∃ t,_=Value.int c t from r2)
   refine PySem.W.kat_cons (wpAny_eqBool_int ?_);unfold Q0 at h;by_cases z:a=c
   · rw[if_pos z]at h;rw[show (a == c)=true by rw[z];exact beq_self_eq_true c];exact PySem.W.kat_yes (qf7 t1 t2 (by simpa using e) h)
   · rw[if_neg z]at h;rw[show (a == c)=false by exact beq_eq_false_iff_ne.mpr z];refine PySem.W.kat_no ?_
     cases (b && i == 0) with
     | true=>exact oneLt_int h
     | false=>exact PySem.W.kat_one _ _ (wpAny_lt_int h)
end
structure TupI (H:Hp) (zs:List V) (rs:List (List Int)):Prop where
 len:zs.length=rs.length
 at_:∀ (i:Nat) (z:V) (r:List Int),zs[i]?=some z->rs[i]?=some r->∃ t,z=.ref t∧H t=some (.tup (r.map V.int))
def ltI (k:Nat) (rs:List (List Int)) (i j:Nat):Bool:=Q0 (rs.getD i (List.replicate k 0)) (rs.getD j (List.replicate k 0))
theorem QD {k:Nat}{rs:List (List Int)} (h:∀ r∈rs,r.length=k) (i:Nat):(rs.getD i (List.replicate k 0)).length=k:=by
 rw[List.getD_eq_getElem?_getD]
 cases e:rs[i]? with
 | none=>exact List.length_replicate
 | some r=>exact h r (List.mem_of_getElem? e)
theorem qf5 {k:Nat}{rs:List (List Int)} (h:∀ r∈rs,r.length=k):Srt.Ord (ltI k rs) :=
 ⟨fun a b c x y=>qeq ((QD h c).trans (QD h b).symm) ((QD h b).trans (QD h a).symm) y x,fun a b=>qcZ _ _⟩
section
variable {X:Cx}{pins:List (Addr×Obj)}{σ:List (Option V)}{H:Hp}{s:Shared}
theorem Inv.tupI {t:Addr}{r:List Int} (I:Inv X pins σ H s) (h:H t=some (.tup (r.map V.int))):∃ (o:Obj) (us:List Value) (n:Nat),Vals (r.map V.int) us∧s.heap.get? t=some o∧o.cls=.type "tuple"∧o.data=.seq us.toArray n:=by
 obtain⟨_,its,rv,o,e,c,n,d⟩:=I.hok t _ h;exact⟨o,its,n,rv,e,c,d⟩
theorem Inv.kpN {h':Heap}{m:Str->Option Value}{x:Addr×Obj} (I:Inv X pins σ H s) (F':Fr X.base X.env.locals h' m) (N':News X.base X.env.locals h' (x::qdl X.base s.heap X.env.locals)) :
   ∀ b u,b≠X.env.locals->s.heap.get? b=some u->h'.get? b=some u:=fun b u ne q=>by
 cases z:X.base.get? b with
 | some o =>
   have:=I.bk b o z
   rw[q]at this;cases this;exact F'.keep b _ z
 | none=>exact(N' _ (List.mem_cons_of_mem _ (j5 q ne z))).1
end
theorem TupI.tail {H:Hp}{z:V}{zs:List V}{r:List Int}{rs:List (List Int)} (h:TupI H (z::zs) (r::rs)):TupI H zs rs :=
 ⟨by have:=h.len;simpa using this,fun i z' r' e1 e2=>h.at_ (i+1) z' r' (by simpa using e1) (by simpa using e2)⟩
inductive qgJ (h:Heap) (v:Value) (r:List Int):Prop
 | mk (t:Addr) (o:Obj) (us:List Value) (n:Nat) (h1:v=.ref t) (h2:Vals (r.map V.int) us) (h3:h.get? t=some o) (h4:o.cls=.type "tuple") (h5:o.data=.seq us.toArray n):qgJ h v r
def qkQ (h:Heap) (v:Value) (r:List Int):Prop:=qgJ h v r
theorem qbK {h:Heap}:∀ {vs:List Value}{rs:List (List Int)},Paired (qkQ h) vs rs->(∀ r∈rs,0 < r.length)->∃ fs,PySem.W.KatTups h vs fs∧fs.length=vs.length∧∀ v∈fs,∃ i t,v=Value.int i t
 | _,_,.nil,_=>⟨[],.nil,rfl,fun _ z=>nomatch z⟩
 | _,r::rs,.cons ⟨t,o,us,n,e,rv,ho,hc,hd⟩ q,k=>by
   obtain⟨fs,k1,k2,k3⟩:=qbK q fun r hr=>k r (List.mem_cons_of_mem _ hr);subst e;have pos:=k r List.mem_cons_self
   match r,us,rv,pos with
   | a::r,_,.cons ra rt,_ =>
     obtain⟨tk,rfl⟩:=(show ∃ t,_=Value.int a t from ra)
     refine⟨_::fs,.cons ho hc hd (by simp;rfl) k1,by simp[k2],fun v hv=>?_⟩;rcases List.mem_cons.mp hv with rfl|hv
     · exact⟨_,_,rfl⟩
     · exact k3 v hv
theorem Qh {α β:Type}{F:α->β->Prop}:∀ {xs:List α}{ys:List β}{i:Nat}{d:α}{e:β},Paired F xs ys->i < xs.length->F (xs.getD i d) (ys.getD i e)
 | _,_,_,_,_,.nil,h=>by simp at h
 | _,_,0,_,_,.cons r _,_=>by simpa using r
 | _,_,i+1,_,_,.cons _ t,h=>by
   simp only[List.getD_cons_succ];exact Qh t (by simpa using h)
theorem qbw {α β:Type}{F:α->β->Prop}{xs:List α}{ys:List β}{d:α}{e:β} (r:Paired F xs ys):∀ {is:List Nat},(∀ i∈is,i < xs.length)->Paired F (is.map fun i=>xs.getD i d) (is.map fun i=>ys.getD i e)
 | [],_=>.nil
 | i::is,h=>.cons (Qh r (h i List.mem_cons_self)) (qbw r fun j hj=>h j (List.mem_cons_of_mem _ hj))
theorem qa0 {α:Type} (l:List α) (d:α):(List.range l.length).map (fun i=>l.getD i d)=l:=by
 apply List.ext_getElem
 · simp
 · intro i h1 h2;simp[h2]
section
variable {prog:Program}{w:World}{A:Around}{E:Value->Shared->Prop}{s:Shared}
theorem qg1 {a:Addr}{vs:List Value}{n:Nat}{P:PySem.Fin->Shared->Prop} (ho:s.heap.get? a=some (seqObj "list" vs.toArray n)) (h2:vs.length < 2)
   (h:∀ c h',(∀ b o,b≠a->s.heap.get? b=some o->h'.get? b=some o)->h'.get? a=some (seqObj "list" vs.toArray c)->P (.done (.ret .none)) { s with heap:=h' }) :
   wpAny (model prog w) A (Builtin.«list.sort» ⟨[.ref a],[]⟩) P E s:=by
 obtain⟨e1,ho1⟩:∃ e1,(s.heap.update a (Obj.mapSeq fun _=>(#[]:Array Value))).get? a=some (seqObj "list" #[] e1):=⟨_,get?_update_seq ho fun _=>#[]⟩
 have s1:=Heap.SameBut.update s.heap a (Obj.mapSeq fun _=>(#[]:Array Value));rw[list_sort_plain];refine wpAny_bind (listItems_at ho rfl ?_);refine wpAny_bind (listUpdate_at ho rfl ?_ (by rw[List.size_toArray,sizeLine_eq];omega) (Nat.zero_le _));refine wpAny_bind (seqEpoch_at ho1 rfl ?_);refine wpAny_bind (wpAny_newTuple ?_ (by show vs.length≤_;rw[sizeLine_eq];omega));refine wpAny_bind (wpAny_newList ?_ (Nat.zero_le _));refine wpAny_holding ?_;dsimp only;have hn2:vs.toArray.size < 2:=by rw[List.size_toArray];omega
 rw[if_pos hn2];refine wpAny_bind (wpAny_pure ?_);rw[if_pos hn2];refine wpAny_bind (wpAny_pure ?_);have ho2:(((s.heap.update a (Obj.mapSeq fun _=>(#[]:Array Value))).push (seqObj "tuple" vs.toArray 0)).push (seqObj "list" #[] 0)).get? a=some (seqObj "list" #[] e1):=Heap.get?_push_of_some _ (Heap.get?_push_of_some _ ho1)
 have hsnd:Array.map (fun x:Keyed=>x.snd) (arrOf (SortSt.mk' general' (vs.toArray.zip vs.toArray) #[] 7 none))=vs.toArray:=by
   show Array.map (fun x:Value×Value=>x.snd) (vs.toArray.zip vs.toArray)=vs.toArray;apply Array.toList_inj.mp;simp only[Array.toList_map,Array.toList_zip];exact List.map_snd_zip (Nat.le_refl _)
 refine wpAny_bind (seqEpoch_at ho2 rfl ?_);dsimp only;rw[hsnd];refine wpAny_bind (listUpdate_at ho2 rfl ?_ (Nat.zero_le _) (by rw[List.size_toArray,sizeLine_eq];omega));show wpAny (model prog w) A (if (e1 != e1)=true then _ else ret Value.none) P E _;rw[if_neg (by simp)];refine wpAny_pure (h _ _ (fun b o hb q=>?_) (get?_update_seq ho2 fun _=>vs.toArray));rw[(Heap.SameBut.update _ a _).2 b hb];exact Heap.get?_push_of_some _ (Heap.get?_push_of_some _ ((s1.2 b hb).trans q))
theorem qbj {l:Addr}{vs:List Value}{Q:Value->Shared->Prop} (hl:s.heap.IsList l vs.toArray) (h2:vs.length < 2)
   (h:∀ D c h',s.heap.get? D=none->(∀ b o,s.heap.get? b=some o->h'.get? b=some o)->h'.get? D=some (seqObj "list" vs.toArray c)->Q (.ref D) { s with heap:=h' }) :
   wpAny (model prog w) A (call (.builtin "sorted") [.ref l]) Q E s:=by
 refine Calls.call_function_entry kind_sorted plain_sorted entry_sorted (args_sorted1 _) ?_;unfold Builtin.«sorted»;refine wpAny_bind (m:=checkCount "sorted" 1 1 _) (wpAny_pure ?_);refine wpAny_bind (collect_list hl ?_ (by rw[sizeLine_eq];omega));refine wpAny_bind (wpAny_newList ?_ (by rw[sizeLine_eq];omega))
 have hsz:((s.heap.push (seqObj "list" #[] 0)).update s.heap.objs.size (Obj.mapSeq (·++vs.toArray))).objs.size=s.heap.objs.size+1:=by
   rw[Heap.size_update,size_push']
 have hoL:(((s.heap.push (seqObj "list" #[] 0)).update s.heap.objs.size (Obj.mapSeq (·++vs.toArray))).push (seqObj "list" vs.toArray 0)).get? (s.heap.objs.size+1)=some (seqObj "list" vs.toArray 0):=by
   rw[← hsz];exact Heap.get?_push_size _ rfl
 have keep:∀ b o,s.heap.get? b=some o->(((s.heap.push (seqObj "list" #[] 0)).update s.heap.objs.size (Obj.mapSeq (·++vs.toArray))).push (seqObj "list" vs.toArray 0)).get? b=some o:=fun b o q=>by
   have hlt:b < s.heap.objs.size:=Heap.lt_size q;rw[Heap.get?_push_ne _ _ _ (by rw[hsz];exact Nat.ne_of_lt (Nat.lt_succ_of_lt hlt)),Heap.get?_update_ne _ _ _ _ (Nat.ne_of_lt hlt),Heap.get?_push_ne _ _ _ (Nat.ne_of_lt hlt)];exact q
 show wpAny _ _ _ _ _ { s with heap:=((s.heap.push (seqObj "list" #[] 0)).update s.heap.objs.size (Obj.mapSeq (·++vs.toArray))).push (seqObj "list" vs.toArray 0) };rw[hsz];refine wpAny_bind (wpAny_holding (wpAny_call_entry slot_list_sort ⟨_,hoL,rfl⟩ entry_list_sort ?body (args_list_sort _)))
 case body =>
   refine qg1 (s:={ s with heap:=((s.heap.push (seqObj "list" #[] 0)).update s.heap.objs.size (Obj.mapSeq (·++vs.toArray))).push (seqObj "list" vs.toArray 0) }) hoL h2 fun c h' k e=>?_;exact⟨_,rfl,wpAny_pure ⟨_,rfl,h (s.heap.objs.size+1) c h' (Heap.get?_none_of_le (Nat.le_succ _)) (fun b o q=>k b o (Nat.ne_of_lt (Nat.lt_succ_of_lt (Heap.lt_size q))) (keep b o q)) e⟩⟩
end
inductive qef (K:Frag) (xs:List V) (H:Hp) (Q:VK):Prop
 | mk (l:Addr) (zs:List V) (rs:List (List Int)) (k:Nat) (h1:xs=[.ref l]) (h2:SqL K H l zs) (h3:TupI H zs rs) (h4:(∀ r∈rs,r.length=k)) (h5:0 < k) (h6:zs.length < 64) (h7:∀ (p:Addr) (zs':List V) (rs':List (List Int)),H p=none->rs'.Perm rs->TupI H zs' rs'->rs'.Pairwise (fun a b=>Q0 b a=false)->Q (.ref p) (upd H p (.lst zs'))):qef K xs H Q
def qh5 (K:Frag):List V->Hp->VK->Prop:=fun xs H Q=>qef K xs H Q
theorem qdo {X:Cx}{pins:List (Addr×Obj)}{σ:List (Option V)}{H:Hp}{s:Shared}{h':Heap} (I:Inv X pins σ H s) (kp:∀ b u,b≠X.env.locals->s.heap.get? b=some u->h'.get? b=some u) :
   ∀ {zs:List V}{rs:List (List Int)}{vs:List Value},TupI H zs rs->Vals zs vs->Paired (qkQ h') vs rs
 | [],rs,_,h,.nil=>by
   have:rs=[]:=List.eq_nil_of_length_eq_zero h.len.symm
   subst this;exact .nil
 | z::zs,[],_,h,_=>by have:=h.len;simp at this
 | z::zs,r::rs,_,h,.cons r1 t1=>by
   refine .cons ?_ (qdo I kp h.tail t1);obtain⟨t,rfl,ht⟩:=h.at_ 0 z r rfl rfl;obtain⟨o,us,n,rv,e,c,d⟩:=I.tupI ht;exact⟨t,o,us,n,r1,rv,kp t o (fun q=>by rw[q,I.free]at ht;cases ht) e,c,d⟩
theorem qfj {H:Hp}{zs:List V}{rs:List (List Int)}{d:V}{e:List Int} (h:TupI H zs rs) {is:List Nat} (hi:∀ i∈is,i < zs.length):TupI H (is.map fun i=>zs.getD i d) (is.map fun i=>rs.getD i e):=by
 refine⟨by rw[List.length_map,List.length_map],fun j z r e1 e2=>?_⟩;rw[List.getElem?_map]at e1 e2
 cases q:is[j]? with
 | none=>rw[q]at e1;cases e1
 | some i =>
   rw[q]at e1 e2;have lt:=hi i (List.mem_of_getElem? q);have lt2:i < rs.length:=by rw[← h.len];exact lt
   have z1:zs.getD i d=z:=Option.some.inj e1;have r1:rs.getD i e=r:=Option.some.inj e2;rw[List.getD_eq_getElem?_getD,List.getElem?_eq_getElem lt]at z1;rw[List.getD_eq_getElem?_getD,List.getElem?_eq_getElem lt2]at r1;exact h.at_ i z r (by rw[List.getElem?_eq_getElem lt];exact congrArg some z1) (by rw[List.getElem?_eq_getElem lt2];exact congrArg some r1)
section
variable {X:Cx}
theorem call_sortT:CallR X (.builtin "sorted") (qh5 X.K):=by
 intro pins s σ H xs us Q I r h;obtain⟨l,zs,rs,k,rfl,hq,tp,hk,k0,h64,q⟩:=h;obtain⟨u,rfl,ru⟩:=JH r;cases (show u=Value.ref l from ru);obtain⟨its,rv,p,hz⟩:=I.list hq;have hlen:=rv.length;by_cases h2:its.length < 2
 · refine qbj p.isList h2 fun D c h' free kp e=>?_;have I':Inv X pins σ (upd H D (.lst zs)) { s with heap:=h' }:=I.laidL (t':=s.toks) (fun b u _ z=>kp b u z) (fun m ⟨o,es,ep,ho,r⟩=>⟨o,es,ep,kp _ _ ho,r⟩) free ⟨hz,its,c,rv,e⟩;refine⟨.ref D,_,I',rfl,q D zs rs (I.unlaid free) (List.Perm.refl _) tp ?_⟩;have l2:rs.length < 2:=by rw[← tp.len,hlen];exact h2
   match rs,l2 with
   | [],_=>exact .nil
   | [r],_=>exact List.pairwise_singleton _ _
   | _::_::_,l2=>simp at l2;omega
 · obtain⟨m,F⟩:=I.fr;refine PySem.W.kat_sorted F (qbF X.base s.heap X.env.locals) p.isList (by omega) (by omega) fun D e1 h' F' N' hD=>?_;have kp:=I.kpN F' N';have pa:=qdo I kp tp rv;obtain⟨fs,t1,t2,t3⟩:=qbK pa fun r hr=>by rw[hk r hr];exact k0
   refine PySem.W.kat_kind (T:=.type "int") t1 (by omega) (fun v hv=>?_) rfl ?_
   · obtain⟨i,t,rfl⟩:=t3 v hv;exact PySem.W.Looks.of_pure rfl
   refine Srt.RunP.wp (fun i j C hi hj hC=>?_) (fun a ha=>?_) (Srt.sort_ok (n:=its.length) (qf5 hk) (by omega))
   · obtain⟨x,ox,ux,nx,ex,rx,hx,cx,dx⟩:=Qh (d:=Value.none) (e:=List.replicate k 0) pa hi;obtain⟨y,oy,uy,ny,ey,ry,hy,cy,dy⟩:=Qh (d:=Value.none) (e:=List.replicate k 0) pa hj;unfold PySem.W.kas_ask;rw[ex,ey];refine PySem.W.kat_lt hx dx hy dy ?_;have lx:=QD hk i;have ly:=QD hk j;have e1':=rx.length;have e2':=ry.length;rw[List.length_map]at e1' e2';rw[show decide (ux.toArray.size < uy.toArray.size)=false from decide_eq_false (by rw[List.size_toArray,List.size_toArray];omega)];exact qf7 rx ry (by omega) hC
   · obtain⟨hp,up⟩:=ha
     have pl:a.toList.Perm (List.range its.length):=by
       have:=Array.perm_iff_toList_perm.mp hp
       simpa using this
     have inR:∀ i∈a.toList,i < zs.length:=fun i hi=>by rw[hlen];exact List.mem_range.mp (pl.mem_iff.mp hi)
     refine PySem.W.KasFin.intro F' N' (.head fun q hq=>Nat.ne_of_lt (hD q hq)) fun h2 c F2 N2=>?_;have rv2:Vals (a.toList.map fun i=>zs.getD i .non) (a.toList.map fun i=>its.getD i Value.none):=qbw rv inR;obtain⟨hn,I'⟩:=I.laidN F F2 N2 hD rv2 (by rw[List.length_map,pl.length_eq,List.length_range,← hlen];exact hz);refine⟨.ref D,_,I',rfl,q D _ (a.toList.map fun i=>rs.getD i (List.replicate k 0)) hn ?_ (qfj tp inR) ?_⟩
     · have:=pl.map fun i=>rs.getD i (List.replicate k 0)
       rw[← hlen,tp.len,qa0]at this;exact this
     · have sz:a.size=its.length:=by
         have:=pl.length_eq
         rw[Array.length_toList,List.length_range]at this;exact this
       refine List.pairwise_iff_getElem.mpr fun i j hi hj lt=>?_;have hj':j < a.size:=by simpa using hj
       have hi':i < a.size:=by omega
       have:=Srt.Up.le (qf5 hk) up (x:=i) (j - i) (by omega)
       rw[show i+(j - i)=j by omega]at this;simp only[List.getElem_map,Array.getElem_toList];simp only[ltI,Array.getD_eq_getD_getElem?,Array.getElem?_eq_getElem hj',Array.getElem?_eq_getElem hi',Option.getD_some]at this;exact this
end
theorem qfd:∀ {xs:List V}{us:List Value},us.length=xs.length->(∀ (i:Nat) (x:V) (u:Value),xs[i]?=some x->us[i]?=some u->RelV x u)->Vals xs us
 | [],[],_,_=>.nil
 | [],_::_,h,_=>by cases h
 | _::_,[],h,_=>by cases h
 | x::xs,u::us,h,r=>.cons (r 0 x u rfl rfl) (qfd (Nat.succ.inj h) fun i y v e1 e2=>r (i+1) y v e1 e2)
theorem qjm {k:Key}{v:Value} (h:qdH k v=true):RelV (kV k) v:=by
 rcases zn h with ⟨i,t,rfl,rfl⟩|⟨x,t,rfl,rfl⟩
 · exact⟨t,rfl⟩
 · exact⟨t,rfl⟩
theorem qio:∀ {kvs:List (Key×V)}{vs:List (Key×Value)},KV kvs vs->∀ {i:Nat}{k:Key}{x:Value},vs[i]?=some (k,x)->∃ y,kvs[i]?=some (k,y)∧RelV y x
 | _,_,.nil,i,k,x,e=>by cases e
 | _,_,.cons (a:=a) (b:=b) r t,i,k,x,e=>by
   cases i with
   | zero =>
     cases e;exact⟨a.2,by rw[List.getElem?_cons_zero];obtain⟨a1,a2⟩:=a;have:=r.1;simp at this;rw[this],r.2⟩
   | succ i=>exact qio t e
theorem qf9:∀ {kvs:List (Key×V)}{vs:List (Key×Value)},KV kvs vs->vs.length=kvs.length
 | _,_,.nil=>rfl
 | _,_,.cons _ t=>by rw[List.length_cons,List.length_cons,qf9 t]
section
variable {X:Cx}
def qh8:List V->Hp->VK->Prop:=fun xs H Q=>∃ a kvs,xs=[V.ref a]∧Rd H a (.dK kvs)∧∀ l,H l=none->Q (.ref l) (upd H l (.lst (kvs.map fun p=>kV p.1)))
theorem qe4 (hc:X.calm=true):CallR X (.type "list") qh8:=by
 intro pins s σ H xs us Q I r h;obtain⟨a,kvs,rfl,hq,q⟩:=h;obtain⟨u,rfl,ru⟩:=JH r;cases ru;obtain⟨hz,hS,vs,rel,o,es,ep,e,x,d,k,p,n⟩:=qda I.hok hq;have D:s.heap.DictAt (zF X.prog X.w) a vs ep:=⟨o,es,e,x,d,k,p,n⟩
 refine PySem.W.kdl_call (PySem.W.kdl_dict (knd:=zF X.prog X.w) (kvs:=vs) (ep:=ep) hS) (I.ok.hd hc) D (by rw[qf9 rel];exact hz) fun h' tk acc' c' kp e' it=>?_;obtain⟨al,ag⟩:=it
 have rv:Vals (kvs.map fun p=>kV p.1) acc'.toList:=by
   refine qfd (by rw[Array.length_toList,al,List.length_map,qf9 rel]) fun i y v e1 e2=>?_;obtain⟨k',x',e3,e4⟩:=ag i v (by rw[← Array.getElem?_toList];exact e2);obtain⟨y',e5,_⟩:=qio rel e3;rw[List.getElem?_map,e5]at e1;cases e1;exact qjm e4
 refine⟨.ref s.heap.objs.size,_,I.laid (t':=tk) kp (Nat.le_refl _) (show ObjOk X.prog X.w _ h' _ (.lst _) from ⟨by rw[List.length_map];exact hz,acc'.toList,c',rv,?_⟩),rfl,q _ (I.hok.fresh (Nat.le_refl _))⟩;rw[Array.toArray_toList];exact e'
def qjB (K:Frag):List V->Hp->VK->Prop:=fun xs H Q=>∃ x C t b,xs=[x,V.ref C]∧qdm K H x t∧kitOne K t (.ref C)=some b∧Q (.bl b) H
theorem j3:CallR X (.builtin "isinstance") (qjB X.K):=by
 intro pins s σ H xs us Q I r h;obtain⟨x,C,t,b,rfl,ht,hk,q⟩:=h;obtain⟨u,w',rfl,ru,rw'⟩:=qeG r;cases (show w'=Value.ref C from rw');exact qc3 I ru ht hk fun tk=>⟨.bl _,H,I.tok tk,rfl,q⟩
theorem Qs {K:Frag}{C D:Addr}{l:List (Option Addr)} (m:XMro K C l) (hl:l.head?=some (some C)) (d:qfa K D):kitOne K (.ref C) (.ref D)=some (l.contains (some D)):=by
 have e:=qgS m (by intro z;rw[z]at hl;cases hl) d;unfold kitOne;split
 · rename_i z
   have z':C=D:=Value.ref.inj (eq_of_beq z);subst z';congr 1
   cases l with
   | nil=>cases hl
   | cons x r=>rw[List.head?_cons]at hl;cases hl;simp
 · obtain⟨cd,h1,h2⟩:=m;unfold PySem.W.kitCls;have d1:(PySem.W.clsIn K D).isSome=true:=d.1;simp only[d.2,d1];simp only[qkT,d.2,d1]at e;simpa using e
theorem PE.or {e:Expr}{t u:TE} (h:PE X e t) (h':PE X e u):PE X e (fun σ H Q=>t σ H Q∨u σ H Q):=fun pins s σ H Q I q=>q.elim (h pins s σ H Q I) (h' pins s σ H Q I)
def qme:R2:=fun x y H Q=>∃ a o,y=.ref a∧qe6 H a x o∧Q (.bl o.isSome) H
theorem qih (hu:X.A.units+1 < cLine):OpR X (compareOp .In) qme:=by
 intro pins s σ H x y v u Q I rx ry h;obtain⟨a,o,rfl,g,q⟩:=h;cases ry;exact qmp hu I g rx fun s' I'=>⟨.bl _,H,I',rfl,q⟩
def qi1:R2:=fun x y H Q=>∃ a o,y=.ref a∧qe6 H a x o∧Q (.bl (!o.isSome)) H
theorem qav (hu:X.A.units+1 < cLine):OpR X (compareOp .NotIn) qi1:=by
 intro pins s σ H x y v u Q I rx ry h;obtain⟨a,o,rfl,g,q⟩:=h;cases ry;exact qjt hu I g rx fun s' I'=>⟨.bl _,H,I',rfl,q⟩
end
section
variable {X:Cx}{tg:Expr}
structure InsF (K:Frag) (C:Addr):Prop where
 cl:Cls K C
 ha:PySem.W.findIn K (.ref C) "__class__"=some (some (.builtin "object.__class__"))
 hn:PySem.W.specialIn K (.builtin "object.__class__") "__get__"=some (some (.builtin "getset_descriptor.__get__"))
 htk:PySem.W.takesIn K (.builtin "object.__class__")=some true
 hm:PySem.W.mroIn K C (.type "object")=some true
theorem InsF.ty {K:Frag}{H:Hp}{a C dx:Addr}{fs:List (Str×V)} (i:InsF K C) (e:H a=some (.ins C dx fs)):qdm K H (.ref a) (.ref C):=.ins e i.cl i.ha i.hn i.htk i.hm
end
end L2
namespace L2
open PySem PySem.Spec PyProof.Rows
open PySem.W (Frag tabObj kla_obj)
def qgR (mg:Str->Option Value) (base:Heap):Prop:=∃ bm o,mg "__builtins__"=some (.ref bm)∧bm≠builtinsNs∧base.get? bm=some o∧o.cls=.type "module"∧o.dict=some builtinsNs∧o.data=.plain
def qjz (ts:List Addr) (H:Hp):Prop:=∀ b,H b=none∨(∃ o xs,H b=some (.frz o (.lst xs)))∨(b∈ts∧H b=some (.tbl #[]))
theorem qf8 {P:Program}{w:World}{K:Frag}{mg mb:Str->Option Value}{CX:CXT}{k:Nat}{fa a:Addr}{fd:FuncData}{x:Str}{sp:Sp}{s₁:Shared}{vs:List Value}{ns:List Int}{ts:List Addr}
   (KX:K.In s₁.heap) (hns:s₁.heap.Ns mainGlobals mg) (hb:s₁.heap.Ns builtinsNs mb) (hbb:∀ x:Str,x≠"__name__"->mb x=bootBuiltins x) (hlim:s₁.heap.NoLimit) (hg:s₁.gens=#[])
   (ht:∀ t∈ts,s₁.heap.get? t=some (tabObj #[])) (hc:∀ t∈ts,isCodeTable s₁.heap t) (hk:∀ t∈ts,K.lookup t=none)
   (hB:qgR mg s₁.heap) (ha:s₁.heap.get? a=some { cls:=.type "list",data:=.seq vs.toArray }) (hi:IntsAre vs ns) (hl:ns.length≤sizeLine) (hr:Room k callerA)
   (F:∀ base:Heap,K.In base->base.Ns mainGlobals mg->qgR mg base->FnOk P w K mg base CX k fa fd [x] sp) (hbind:∀ (s:Shared) (u:Value),BindsTo s fd ⟨[u],[]⟩ [(x,u)])
   (hsp:∀ H:Hp,qjz ts H->(∀ t∈ts,H t=some (.tbl #[]))->SqL K H a (ns.map V.int)->sp [.ref a] H (fun v _=>v=.bl true) fun _ _ _=>False)
   (hCX:∀ H e s',CX [] H s₁ (fun _ _ _=>False) e s'->False) :
   codeAny (model P w) callerA (.call (.ref fa) ⟨[.ref a],[]⟩) (fun r s'=>r=.ok (.ret (.bool true))∧OldK s₁.heap s'.heap∧s'.os=s₁.os∧AllBare s'.gens) s₁:=by
 have rv:=qcg hi;have lenV:=hi.length
 have nat:a∉ts:=fun m=>by
   have:=ht a m
   rw[ha]at this;cases this
 have core:∀ H:Hp,qjz ts H->(∀ t∈ts,H t=some (.tbl #[]))->SqL K H a (ns.map V.int)->HOk P w H s₁.heap->(∀ b,H b≠none->b=a∨b∈ts)->(H a≠none->K.lookup a=none) ->
     codeAny (model P w) callerA (.call (.ref fa) ⟨[.ref a],[]⟩) (fun r s'=>r=.ok (.ret (.bool true))∧OldK s₁.heap s'.heap∧s'.os=s₁.os∧AllBare s'.gens) s₁:=by
   intro H hO hT hS hok hA hK;have base_of:∀ {b:Addr}{o:Obj},s₁.heap.get? b=some o->H b=none->(qgO s₁.heap H).get? b=some o:=fun e n=>qhy e n
   have noA:∀ {b:Addr}{o:Obj}{es:Array DictEntry}{ep:Nat},s₁.heap.get? b=some o->o.data=.dict es ep->H b=none:=fun {b o es ep} e d=>by
     cases q:H b with
     | none=>rfl
     | some u =>
       rcases hA b (by rw[q];simp) with rfl|m
       · rw[ha]at e;cases e;cases d
       · rw[ht b m]at e;cases e;cases d
   have nsK:∀ {b:Addr}{m:Str->Option Value},s₁.heap.Ns b m->(qgO s₁.heap H).Ns b m:=fun {b m} ⟨o,es,ep,e,d,r⟩=>⟨o,es,ep,base_of e (noA e d),d,r⟩
   have hKb:K.In (qgO s₁.heap H):=fun b o e=>base_of (KX b o e) (by
     cases q:H b with
     | none=>rfl
     | some u =>
       rcases hA b (by rw[q];simp) with z|m
       · subst z;rw[hK (by rw[q];simp)]at e;cases e
       · rw[hk b m]at e;cases e)
   have hBb:qgR mg (qgO s₁.heap H):=by
     obtain⟨bm,o,b1,b2,b3,b4,b5,b6⟩:=hB;refine⟨bm,o,b1,b2,base_of b3 ?_,b4,b5,b6⟩
     cases q:H bm with
     | none=>rfl
     | some u =>
       rcases hA bm (by rw[q];simp) with z|m
       · rw[z,ha]at b3;cases b3;cases b6
       · rw[ht bm m]at b3;cases b3;cases b6
   have hM:Mod K mg (qgO s₁.heap H):=⟨hKb,nsK hns,⟨mb,nsK hb,hbb⟩,let ⟨mc,h1,h2⟩:=hlim;⟨mc,nsK h1,h2⟩⟩
   have e0:Env0 P w K mg (qgO s₁.heap H) callerA [] s₁ H:=⟨rfl,hM,fun b o e=>qje e,Nat.le_of_eq (qgh _ _),trivial,fun b hb=>absurd (show b∈([]:List Addr) from hb) (by simp),hok,.of_eq hg⟩
   refine codeAny_mono ((F _ hKb (nsK hns) hBb).run callerA [] s₁ H ⟨[.ref a],[]⟩ [.ref a] [.ref a] _ _ hr e0 (hbind s₁ (.ref a)) (.cons rfl .nil) (hsp H hO hT hS)) fun r s' h=>?_
   cases r with
   | error e=>exact(hCX H e s' h).elim
   | ok fl =>
     cases fl with
     | next=>exact False.elim h
     | brk=>exact False.elim h
     | cont=>exact False.elim h
     | ret u =>
       obtain⟨v,H',os,bare,un,hok',r',q⟩:=h;have q':v=.bl true:=q;subst q';obtain rfl:u=Value.bool true:=r'
       have grown:∀ t∈ts,∃ more,s'.heap.get? t=some (tabObj more):=fun t m=>by
         obtain⟨more,z⟩:=un.tbls t #[] (hT t m);exact⟨_,(show ObjOk P w H' s'.heap t (.tbl (#[]++more)) from hok' t _ z)⟩
       have keep:∀ b o,b∉ts->s₁.heap.get? b=some o->s'.heap.get? b=some o:=fun b o nm e=>by
         rcases hO b with z|⟨ob,xs,z⟩|⟨m,_⟩
         · exact un.keep b o e z (by intro z;exact absurd (show b∈([]:List Addr) from z) (by simp)) (by simp)
         · have z2:=un.frzs b ob _ z;obtain⟨e1,_⟩:=hok b _ z;obtain⟨e2,_⟩:=hok' b _ z2;rw[e]at e1;cases e1;exact e2
         · exact absurd m nm
       refine⟨rfl,⟨fun b o e=>?_,fun b o e=>?_⟩,os,bare⟩
       · by_cases m:b∈ts
         · obtain⟨ps,g⟩:=grown b m;have e':=ht b m;rw[e]at e';cases e';exact .inr (.inl ⟨hc b m,rfl,#[],ps,rfl,by rw[Array.empty_append];exact g⟩)
         · exact .inl (keep b o m e)
       · by_cases m:b∈ts
         · obtain⟨ps,g⟩:=grown b m;exact⟨_,g⟩
         · exact⟨o,keep b o m e⟩
 cases hka:K.lookup a with
 | some o =>
   have e:=KX a o hka;rw[ha]at e;cases e;refine core (fun b=>if b∈ts then some (.tbl #[]) else none) (fun b=>?_) (fun t m=>if_pos m) (.inr ⟨_,vs.toArray,_,hka,rfl,rfl,rfl,by rw[List.size_toArray,lenV];exact hl,by simpa using rv⟩) (fun b u z=>?_) (fun b z=>?_) fun z=>absurd (if_neg nat) z
   · by_cases m:b∈ts
     · exact .inr (.inr ⟨m,if_pos m⟩)
     · exact .inl (if_neg m)
   · by_cases m:b∈ts
     · have z':=(if_pos m).symm.trans z;cases z';exact ht b m
     · have z':=(if_neg m).symm.trans z;cases z'
   · by_cases m:b∈ts
     · exact .inr m
     · exact absurd (if_neg m) z
 | none =>
   refine core (fun b=>if b=a then some (.frz { cls:=.type "list",data:=.seq vs.toArray } (.lst (ns.map V.int))) else if b∈ts then some (.tbl #[]) else none) (fun b=>?_) (fun t m=>?_) (.inl (.inr ⟨{ cls:=.type "list",data:=.seq vs.toArray },if_pos rfl⟩)) (fun b u z=>?_) (fun b z=>?_) fun _=>hka
   · by_cases hb:b=a
     · exact .inr (.inl ⟨_,_,if_pos hb⟩)
     · by_cases m:b∈ts
       · exact .inr (.inr ⟨m,(if_neg hb).trans (if_pos m)⟩)
       · exact .inl ((if_neg hb).trans (if_neg m))
   · have hb:t≠a:=fun z=>nat (z▸m);exact(if_neg hb).trans (if_pos m)
   · by_cases hb:b=a
     · have z':=(if_pos hb).symm.trans z;cases z';subst hb;exact⟨ha,by rw[List.length_map];exact hl,vs,_,rv,ha⟩
     · by_cases m:b∈ts
       · have z':=((if_neg hb).trans (if_pos m)).symm.trans z;cases z';exact ht b m
       · have z':=((if_neg hb).trans (if_neg m)).symm.trans z;cases z'
   · by_cases hb:b=a
     · exact .inl hb
     · by_cases m:b∈ts
       · exact .inr m
       · exact absurd ((if_neg hb).trans (if_neg m)) z
theorem walk_ofT {l:PySem.W.OpenLaw}{n k:Nat}{q:Program}{loose:List Str}{XP:(Str->Option Value)->Heap->Prop}{YP:World->Heap->Prop}{d:DefRec}{K:Params->Frag}{CX:World->CXT}{sp:World->Sp}{x:Str}{ts:List Addr}
   (hn:l.most=some n) (hn2:n≤sizeLine) (hdf:d.params.defaults=[]) (hr:Room k callerA)
   (hY:∀ (w:World) (h:Heap),YP w h->(K w.params).In h∧(∀ t∈ts,h.get? t=some (tabObj #[]))∧(∀ t∈ts,isCodeTable h t)∧∀ t∈ts,(K w.params).lookup t=none)
   (F:∀ (w:World) (mg:Str->Option Value) (fa:Addr) (h:Heap),(K w.params).In h->h.Ns mainGlobals mg->mg d.name=some (.ref fa) ->
     ∃ fd:FuncData,(∀ (s:Shared) (u:Value),BindsTo s fd ⟨[u],[]⟩ [(x,u)]) ∧
       ∀ base:Heap,(K w.params).In base->base.Ns mainGlobals mg->qgR mg base->FnOk l.prog w (K w.params) mg base (CX w) k fa fd [x] (sp w))
   (hsp:∀ (w:World) (H:Hp) (a:Addr) (ns:List Int),ns.length≤n->qjz ts H->(∀ t∈ts,H t=some (.tbl #[]))->SqL (K w.params) H a (ns.map V.int)->sp w [.ref a] H (fun v _=>v=.bl true) fun _ _ _=>False)
   (hCX:∀ (w:World) (H:Hp) (s:Shared) (e:Value) (s':Shared),CX w [] H s (fun _ _ _=>False) e s'->False) :
   PySem.W.WalkO q loose XP YP l.row.toRowW d [] (fun f vs=>PySem.call f vs):=by
 refine Att.attach_call hn hdf fun w s₀ s₁ mg mb fa o pm cd doc a vs ns G Y ho hd hcd hmg hobj hints hlen hg=>?_;obtain⟨KX,h1,h2,h3⟩:=hY w _ Y;obtain⟨fd,hb,hF⟩:=F w mg fa _ KX G.T.g hmg;exact qf8 KX G.T.g G.T.b G.T.builtins G.T.nolimit hg h1 h2 h3 (let ⟨bm,ob,b1,b2,b3,b4,b5,b6⟩:=G.T.bmain;⟨bm,ob,b1,b2,b3,b4,b5,b6⟩) hobj hints (Nat.le_trans hlen hn2) hr hF hb (fun H hO hT hS=>hsp w H a ns hlen hO hT hS) fun H e s'=>hCX w H s₁ e s'
def qaT (c:Addr) (q:Str):Heap->Prop:=fun h=>h.CodeRec (.ref c) q
def qeE (f:Addr) (o:Obj):Heap->Prop:=fun h=>h.get? f=some o
section
variable {P:Program}{w:World}{H:Hp}{h:Heap}{c f:Addr}{q:Str}{o:Obj}
theorem qhM (x:qaT c q h):ObjOk P w H h c (.ext (qaT c q)):=by
 obtain⟨c',o,vs,t,e,g,r⟩:=id x;cases e;exact⟨x,⟨o,g⟩,fun h1 h2 ⟨c',o',vs',t',e',g',r'⟩ k=>by cases e';exact⟨c,o',vs',t',rfl,k _ g',r'⟩⟩
theorem qf0 (x:qeE f o h):ObjOk P w H h f (.ext (qeE f o)):=⟨x,⟨o,x⟩,fun _ _ e k=>k _ e⟩
end
def qkZ (H:Hp) (T:Addr) (pos:Pos) (q:Str):Prop :=
 ∃ ps,H T=some (.tbl ps)∧TriplesOk ps.toList∧(codeAmong pos ps.toList=none∨∃ c,codeAmong pos ps.toList=some (.ref c)∧H c=some (.ext (qaT c q)))
theorem Jg {i j:Int}{a b:Tok}{c:Value}:∀ {l:List Value},TriplesOk l->TriplesOk (l++[.int i a,.int j b,c])
 | [],_=>True.intro
 | .int _ _::.int _ _::_::r,h=>Jg (l:=r) h
section
variable {X:Cx}{pins:List (Addr×Obj)}{σ:St}{H:Hp}{s:Shared}{h':Heap}
theorem Inv.lam {T c':Addr}{ps:Array Value}{more:Array Value}{q:Str}{t':Nat} (I:Inv X pins σ H s) (hT:H T=some (.tbl ps)) (hx:Heap.ExtBut T s.heap h') (c0:s.heap.objs.size≤c') (c1:c' < h'.objs.size) (hr:h'.CodeRec (.ref c') q)
   (ht:h'.get? T=some (tabObj (ps++more))) (fo:Obj) (hfo:fo.isFreed=false) :
   Inv X pins σ (upd (upd (upd H T (.tbl (ps++more))) c' (.ext (qaT c' q))) h'.objs.size (.ext (qeE h'.objs.size fo))) { s with heap:=h'.push fo,toks:=t' }:=by
 have Tlt:T < s.heap.objs.size:=I.hok.lt hT;have nTc:T≠c':=Nat.ne_of_lt (Nat.lt_of_lt_of_le Tlt c0);have Tf:T < h'.objs.size:=Heap.lt_size ht;have nTf:T≠h'.objs.size:=Nat.ne_of_lt Tf;have ncf:c'≠h'.objs.size:=Nat.ne_of_lt c1;have hcn:H c'=none:=I.hok.fresh c0;have sle:s.heap.objs.size≤h'.objs.size:=Nat.le_trans c0 (Nat.le_of_lt c1);have hfn:H h'.objs.size=none:=I.hok.fresh sle;have oth:∀ b,b≠T->b≠c'->b≠h'.objs.size->upd (upd (upd H T (.tbl (ps++more))) c' (.ext (qaT c' q))) h'.objs.size (.ext (qeE h'.objs.size fo)) b=H b:=fun b n1 n2 n3=>by rw[qh n3,qh n2,qh n1]
 have kp:∀ b o,b≠T->s.heap.get? b=some o->(h'.push fo).get? b=some o:=fun b o n e=>Heap.get?_push_of_some _ (hx b o n e);have nT:∀ {b u},H b=some u->u≠.tbl ps->b≠T:=fun e n z=>by rw[z,hT]at e;exact n (Option.some.inj e).symm
 have nc:∀ {b u},H b=some u->b≠c':=fun e z=>by rw[z,hcn]at e;cases e
 have nf:∀ {b u},H b=some u->b≠h'.objs.size:=fun e z=>by rw[z,hfn]at e;cases e
 have same:∀ {b u},H b=some u->u≠.tbl ps->upd (upd (upd H T (.tbl (ps++more))) c' (.ext (qaT c' q))) h'.objs.size (.ext (qeE h'.objs.size fo)) b=some u:=fun e n=>by rw[oth _ (nT e n) (nc e) (nf e)];exact e
 refine I.un ⟨fun b o e n _ _=>kp b o (fun z=>by rw[z,hT]at n;cases n) e,fun b o e n _ _=>⟨o.slots,kp b o (fun z=>by rw[z,hT]at n;cases n) e⟩,fun b o e n _=>?_,fun b o e _=>?_,fun b xs e=>same e (by intro z;cases z),fun b o u e=>same e (by intro z;cases z),fun b qs e=>?_⟩ fun b u e=>?_
 · have lt:=Heap.lt_size e;rw[oth b (fun z=>by rw[z,hT]at n;cases n) (Nat.ne_of_lt (Nat.lt_of_lt_of_le lt c0)) (Nat.ne_of_lt (Nat.lt_of_lt_of_le lt sle))];exact n
 · by_cases z:b=T
   · subst z;exact⟨_,Heap.get?_push_of_some _ ht⟩
   · exact⟨o,kp b o z e⟩
 · by_cases z:b=T
   · subst z;rw[hT]at e;cases e;exact⟨more,by rw[qh nTf,qh nTc,qc]⟩
   · rw[oth b z (nc e) (nf e)];exact⟨#[],by rw[e];simp⟩
 · by_cases z3:b=h'.objs.size
   · subst z3;rw[qc]at e;cases e;exact qf0 (Heap.get?_push_size _ hfo)
   · rw[qh z3]at e;by_cases z2:b=c'
     · subst z2;rw[qc]at e;cases e;exact qhM (hr.push fo)
     · rw[qh z2]at e;by_cases z1:b=T
       · subst z1;rw[qc]at e;cases e;exact Heap.get?_push_of_some _ ht
       · rw[qh z1]at e;refine(I.hok b u e).stay (fun c v hc g=>kp c v (fun z=>?_) g) (fun c r=>same r (by intro z;cases z)) fun c xs r=>same r (by intro z;cases z);rcases hc with hc|hc
         · exact z1 (hc▸z)
         · rw[z,hT]at hc;cases hc
def qjA (X:Cx) (params:Arguments) (body:Expr) (scope:Scope) (c:Addr) (o:Obj):Prop :=
 ∃ pm ctv,o=kla_obj "<lambda>" (X.env.qual++"<lambda>") params body scope (zZ X.env.cells scope.names []) pm c ctv
def ql6 (X:Cx) (T:Addr) (pos:Pos) (params:Arguments) (body:Expr) (scope:Scope):TE:=fun σ H Q=>qkZ H T pos (X.env.qual++"<lambda>") ∧
 ∀ (f c:Addr) (o:Obj) (H':Hp),H f=none->f≠T->But T H H'->qkZ H' T pos (X.env.qual++"<lambda>")->H' f=some (.ext (qeE f o))->H' c=some (.ext (qaT c (X.env.qual++"<lambda>")))->qjA X params body scope c o->Q (.ref f) H'
theorem qkh {params:Arguments}{body:Expr}{scope:Scope}{pos:Pos}{c T:Addr} (hdef:defaultsOf params X.env=([],[])) (hfree:∀ y∈scope.names,y.2=.free->∃ c,X.env.cells.lookup y.1=some c) (hcode:X.env.code=.ref c)
   (hcd:PySem.W.codeHdIn X.K c T=true) (hbm:qgR X.mg X.base):PE X (.Lambda params body scope pos) (ql6 X T pos params body scope):=by
 intro pins s σ H Q I h;obtain⟨⟨ps,hT,tr,hc⟩,h⟩:=h;have tb:s.heap.get? T=some (tabObj ps):=(show ObjOk X.prog X.w H s.heap T (.tbl ps) from I.hok T _ hT)
 have hg:s.heap.Ns mainGlobals X.mg:=I.mod.glob.keeps I.bk;have CH:=PySem.W.codeHd_of_K I.kIn hcd;obtain⟨bm,ob,b1,b2,b4,b5,b6,b7⟩:=hbm;have hbo:=I.bk bm ob b4
 have b3:bm≠mainGlobals:=fun z=>by
   obtain⟨o,es,ep,e,d,_⟩:=hg;rw[← z,hbo]at e;cases e;rw[b7]at d;cases d
 have nbT:bm≠T:=fun z=>by rw[z,tb]at hbo;cases hbo;cases b5
 have ngT:mainGlobals≠T:=fun z=>by
   obtain⟨o,es,ep,e,d,_⟩:=hg;rw[z,tb]at e;cases e;cases d
 have BA:s.heap.BuiltinsAt X.mg T:=⟨bm,ob,b1,b2,b3,nbT,hbo,b5,b6,b7⟩
 refine PySem.W.kla_eval hdef ?_;rcases hc with hn|⟨c',hc,hc'⟩
 · refine PySem.W.kla_makeFunction (clos:=zZ X.env.cells scope.names []) (Je hfree) I.ok.glob hg hcode CH tb tr hn ngT BA fun c' ctv h' tk hx hge hlt hrec htb=>?_;have Tlt:T < s.heap.objs.size:=I.hok.lt hT;have hfn:H h'.objs.size=none:=I.hok.fresh (Nat.le_trans hge (Nat.le_of_lt hlt));have hcn:H c'=none:=I.hok.fresh hge;have ncf:c'≠h'.objs.size:=Nat.ne_of_lt hlt;have nTf:T≠h'.objs.size:=Nat.ne_of_lt (Nat.lt_of_lt_of_le Tlt (Nat.le_trans hge (Nat.le_of_lt hlt)));have nTc:T≠c':=Nat.ne_of_lt (Nat.lt_of_lt_of_le Tlt hge);have J:=I.lam (t':=tk) hT hx hge hlt hrec htb (kla_obj "<lambda>" (X.env.qual++"<lambda>") params body scope (zZ X.env.cells scope.names []) ((X.mg "__name__").getD .none) c' ctv) rfl;refine⟨.ref h'.objs.size,_,J,rfl,h _ c' _ _ hfn (Ne.symm nTf) (fun b o e n=>?_) ⟨_,by rw[qh nTf,qh nTc,qc],?_,.inr ⟨c',?_,by rw[qh ncf,qc]⟩⟩ qc (by rw[qh ncf,qc]) ⟨_,_,rfl⟩⟩
   · rw[qh (qi e hfn),qh (qi e hcn),qh n];exact e
   · rw[Array.toList_append];exact Jg tr
   · rw[Array.toList_append];exact codeAmong_snoc _ tr hn
 · refine PySem.W.kla_makeFunctionHit (clos:=zZ X.env.cells scope.names []) (Je hfree) I.ok.glob hg hcode CH tb tr hc BA fun ctv h' tk hk hsz=>?_;have hfn:H h'.objs.size=none:=I.hok.fresh hsz;have S:=Same.new (.ext (qeE h'.objs.size (kla_obj "<lambda>" (X.env.qual++"<lambda>") params body scope (zZ X.env.cells scope.names []) ((X.mg "__name__").getD .none) c' ctv))) hfn;refine⟨.ref h'.objs.size,_,I.laid (t':=tk) (fun b o e=>Heap.get?_push_of_some _ (hk b o e)) hsz (qf0 (Heap.get?_push_size _ rfl)),rfl,h _ c' _ _ hfn (qi hT hfn).symm (fun b o e _=>S b o e) ⟨ps,S _ _ hT,tr,.inr ⟨c',hc,S _ _ hc'⟩⟩ qc (S _ _ hc') ⟨_,_,rfl⟩⟩
end
section
variable {X:Cx}{pins:List (Addr×Obj)}{σ:List (Option V)}{H:Hp}{s:Shared}{h':Heap}
theorem Inv.keptL {t':Nat} (I:Inv X pins σ H s) (k:∀ b u,b≠X.env.locals->s.heap.get? b=some u->h'.get? b=some u) (ns:∀ m,s.heap.Ns X.env.locals m->h'.Ns X.env.locals m) :
   Inv X pins σ H { s with heap:=h',toks:=t' }:=by
 have nL:∀ b u,H b=some u->b≠X.env.locals:=fun b u e z=>by rw[z,I.free]at e;cases e
 refine I.step (g':=s.gens) (d':=s.drawn) (ch:=[]) (fun _ z=>nomatch z) (fun b o hb _ _ e _=>k b o hb e) (fun b o hb _ _ e _=>⟨o.slots,k b o hb e⟩) (fun b o _ e n=>n) (fun b o _ e=>?_)
   (fun b xs q=>q) (fun b u xs q=>q) (fun b ps q=>⟨#[],by rw[q];simp⟩) ns (fun b u e=>?_) I.bare
 · by_cases z:b=X.env.locals
   · obtain⟨m,hm,_⟩:=I.loc;obtain⟨o',_,_,ho',_⟩:=ns m hm;exact⟨o',by rw[z];exact ho'⟩
   · exact⟨o,k b o z e⟩
 · refine(I.hok b u e).stay (fun c v hc q=>k c v ?_ q) (fun c q=>q) fun c xs q=>q;rcases hc with z|z
   · rw[z];exact nL b u e
   · exact nL c _ z
theorem Inv.keptN {t':Nat}{m:Str->Option Value} (I:Inv X pins σ H s) (F:Fr X.base X.env.locals s.heap m) (F':Fr X.base X.env.locals h' m) (N':News X.base X.env.locals h' (qdl X.base s.heap X.env.locals)) :
   Inv X pins σ H { s with heap:=h',toks:=t' }:=by
 refine I.keptL (fun b u ne q=>?_) fun m' hm=>?_
 · cases z:X.base.get? b with
   | some o =>
     have:=I.bk b o z
     rw[q]at this;cases this;exact F'.keep b _ z
   | none=>exact(N' _ (j5 q ne z)).1
 · rw[qii hm F.ns];exact F'.ns
inductive qfN (K:Frag) (xs:List V) (H:Hp) (Q:VK):Prop
 | mk (l:Addr) (ns:List Int) (h1:xs=[.ref l]) (h2:SqL K H l (ns.map V.int)) (h3:Q (.int ns.sum) H):qfN K xs H Q
def qj4 (K:Frag):List V->Hp->VK->Prop:=fun xs H Q=>qfN K xs H Q
theorem qgy (hc:X.calm=true):CallR X (.builtin "sum") (qj4 X.K):=by
 intro pins s σ H xs us Q I r h;obtain⟨l,ns,rfl,hq,q⟩:=h;obtain⟨u,rfl,ru⟩:=JH r;cases (show u=Value.ref l from ru);obtain⟨its,rv,p,hz⟩:=I.list hq;obtain⟨m,F⟩:=I.fr;exact LSm.sum_ints F (qbF X.base s.heap X.env.locals) (I.ok.hd hc) p.isList (qes rv) fun h' tk t' F' N'=>⟨.int ns.sum,H,I.keptN F F' N',⟨t',rfl⟩,q⟩
end
section
variable {X:Cx}
inductive qcF (x:V) (vs:List V) (H:Hp) (Q:VK):Prop
 | mk (l:Addr) (xs:List V) (y:V) (j:Nat) (h1:x=.ref l) (h2:vs=[y]) (h3:H l=some (.lst xs)) (h4:qaO y=true) (h5:xs.all qaO=true) (h6:∃ w,xs[j]?=some w∧eqV w y=true) (h7:∀ (i:Nat) (w:V),i < j->xs[i]?=some w->eqV w y=false) (h8:Q (.int (j:Int)) H):qcF x vs H Q
def qbW:V->List V->Hp->VK->Prop:=fun x vs H Q=>qcF x vs H Q
theorem qcW:MtM X "list.index" qbW:=by
 intro pins s σ H x vs v us Q I rx rv h;obtain⟨l,xs,y,j,rfl,rfl,hH,fy,fx,⟨w,hw,ew⟩,hno,q⟩:=h;cases rx;obtain⟨u,rfl,ru⟩:=rv.one;obtain⟨z,its,n,r,hl,e⟩:=I.lstM hH;obtain⟨w',hw',rw'⟩:=r.get hw
 have hj:j < its.toArray.size:=by
   have:=(List.getElem?_eq_some_iff.mp hw').1
   rw[List.size_toArray];exact this
 have fl:∀ (k:Nat) (a:V) (b:Value),xs[k]?=some a->its[k]?=some b->eqU y b=eqV a y:=fun k a b h1 h2=>by
   obtain⟨b',hb',rb⟩:=r.get h1;rw[h2]at hb';cases hb';exact qgp rb (List.all_eq_true.mp fx a (List.mem_of_getElem? h1))
 have sz:=sizeLine_eq
 have jl:j < 16777216:=by
   have:=(List.getElem?_eq_some_iff.mp hw).1
   omega
 refine call_meets F.slot_list_index ⟨_,e,rfl⟩ F.entry_list_index (F.args_list_index_2 _ _)
   (SeqAt.list_indexAt l its.toArray n none #[] u (eqU y) j hj (by omega) ?_ ?_) ⟨e,fun b hb=>JS ru fy r fx b (by simpa using hb),⟨.int (j:Int),H,I.tok _,⟨_,rfl⟩,q⟩⟩
 · have:its.toArray[j]=w':=by
     have:=(List.getElem?_eq_some_iff.mp hw').2
     simpa using this
   rw[this,fl j w w' hw hw',ew]
 · intro m hm lt;have hm':m < its.length:=by rw[List.size_toArray]at hm;exact hm
   have hx:m < xs.length:=by rw[r.length];exact hm'
   have:=fl m xs[m] its[m] (List.getElem?_eq_getElem hx) (List.getElem?_eq_getElem hm')
   show eqU y (its.toArray[m])=false;rw[show its.toArray[m]=its[m] by simp,this];exact hno m _ lt (List.getElem?_eq_getElem hx)
end
end L2
namespace SetO
open PySem
end SetO
set_option maxHeartbeats 8000000
namespace L2
open PySem PySem.Spec PyProof.Rows
open PySem.W (Frag fnOf envX)
inductive qeg (K:Frag) (x:V) (y:V) (H:Hp) (Q:VK):Prop
 | mk (p b xs:_) (h1:x=.ref p) (h2:y=.ref b) (h3:SqL K H p xs) (h4:SqL K H b []) (h5:Q (.bl (!xs.isEmpty)) H):qeg K x y H Q
def qj6 (K:Frag):R2:=fun x y H Q=>qeg K x y H Q
theorem qel {X:Cx} (hu:X.A.units+64 < cLine):OpR X (compareOp .NotEq) (qj6 X.K):=by
 intro pins s σ H x y v u Q I rx ry h;obtain⟨p,b,xs,rfl,rfl,hp,hb,q⟩:=h;cases rx;cases ry;obtain⟨its,rv,pl,_⟩:=I.list hp;obtain⟨its2,rv2,pl2,_⟩:=I.list hb;cases rv2;have hl:=rv.length
 cases xs with
 | nil =>
   cases rv;exact SeqAt.RcNeAt.lists (e:=fun _=>true) pl.isList pl2.isList rfl (by omega) (fun j h1 h2=>by simp at h1) _ _ _ _ ⟨.bl false,H,I,rfl,q⟩
 | cons a r=>exact SeqAt.RcNeAt.lists_lengths pl.isList pl2.isList (by simp;intro z;rw[z]at hl;cases hl) (by omega) _ _ _ _ ⟨.bl true,H,I,rfl,q⟩
def qaU (c:Addr) (v:V):Heap->Prop:=fun h=>∃ u,RelV v u∧h.IsCell c (some u)
def backL (H:Hp) (cs:List Addr) (H2:Hp):Hp:=fun b=>if b∈cs then H b else H2 b
theorem Qw {H H2:Hp}{cs:List Addr}{b:Addr} (h:b∉cs):backL H cs H2 b=H2 b:=by unfold backL;rw[if_neg h]
theorem qeC {H H2:Hp}{cs:List Addr}{b:Addr} (h:b∈cs):backL H cs H2 b=H b:=by unfold backL;rw[if_pos h]
theorem qgF {H:Hp}{cs:List Addr}:backL H cs (cut H cs)=H:=by
 funext b;by_cases z:b∈cs
 · rw[qeC z]
 · rw[Qw z,qH z]
section
variable {P:Program}{w:World}{H H2:Hp}{h h':Heap}{cs:List Addr}{c:Addr}{v:V}
theorem qhN (x:qaU c v h):ObjOk P w H h c (.ext (qaU c v)):=by
 obtain⟨u,r,o,e,d⟩:=id x;exact⟨x,⟨o,e⟩,fun h1 h2 ⟨u,r,o,e,d⟩ k=>⟨u,r,o,k _ e,d⟩⟩
theorem HOk.cutL (ok:HOk P w H h) (e:∀ c∈cs,∃ φ,H c=some (.ext φ)):HOk P w (cut H cs) h:=fun b u q=>by
 have nb:b∉cs:=fun z=>by rw[qy z]at q;cases q
 have out:∀ c v,H c=some v->(∀ φ,v≠.ext φ)->cut H cs c=some v:=fun c v r nv=>by
   rw[qH fun z=>by obtain⟨φ,e⟩:=e c z;rw[e]at r;exact nv φ (Option.some.inj r).symm];exact r
 rw[qH nb]at q;exact(ok b u q).stay (fun _ _ _ z=>z) (fun c r=>out c _ r (by intro φ z;cases z)) fun c xs r=>out c _ r (by intro φ z;cases z)
theorem HOk.backL (ok:HOk P w H h) (e:∀ c∈cs,∃ φ,H c=some (.ext φ)) (ok2:HOk P w H2 h') (n2:∀ c∈cs,H2 c=none) (k:∀ c∈cs,∀ o,h.get? c=some o->h'.get? c=some o):HOk P w (backL H cs H2) h':=fun b u q=>by
 by_cases z:b∈cs
 · obtain⟨φ,e⟩:=e b z;rw[qeC z,e]at q;cases q;obtain⟨f,⟨o,g⟩,st⟩:=(show ObjOk P w H h b (.ext φ) from ok b _ e)
   exact⟨st h h' f (k b z),⟨o,k b z o g⟩,st⟩
 · rw[Qw z]at q;have out:∀ c v,H2 c=some v->L2.backL H cs H2 c=some v:=fun c v r=>by rw[Qw fun z=>by rw[n2 c z]at r;cases r];exact r
   exact(ok2 b u q).stay (fun _ _ _ z=>z) (fun c r=>out c _ r) fun c xs r=>out c _ r
end
inductive Clo (H:Hp) (f:Addr) (qual:Str) (params:Arguments) (body:Expr) (scope:Scope) (fv:List (Str×V)):Prop
 | mk (cl:List (Str×Addr)) (c:Addr) (pm ctv:Value) (hf:H f=some (.ext (qeE f (PySem.W.kla_obj "<lambda>" qual params body scope cl pm c ctv)))) (hc:H c=some (.ext (qaT c qual)))
     (cells:∀ x d,cl.lookup x=some d->∃ v,fv.lookup x=some v∧H d=some (.ext (qaU d v))) (all:∀ x v,fv.lookup x=some v->∃ d,cl.lookup x=some d) (inj:∀ x y d,cl.lookup x=some d->cl.lookup y=some d->x=y):Clo H f qual params body scope fv
theorem Clo.mp {H H':Hp}{f:Addr}{qual:Str}{params:Arguments}{body:Expr}{scope:Scope}{fv:List (Str×V)} (h:Clo H f qual params body scope fv) (k:∀ b φ,H b=some (.ext φ)->H' b=some (.ext φ)):Clo H' f qual params body scope fv:=by
 obtain⟨cl,c,pm,ctv,hf,hc,cells,all,inj⟩:=h;exact⟨cl,c,pm,ctv,k _ _ hf,k _ _ hc,fun x d e=>let ⟨v,e1,e2⟩:=cells x d e;⟨v,e1,k _ _ e2⟩,all,inj⟩
theorem Clo.same {H H':Hp}{f:Addr}{qual:Str}{params:Arguments}{body:Expr}{scope:Scope}{fv:List (Str×V)} (h:Clo H f qual params body scope fv) (s:Same H H'):Clo H' f qual params body scope fv:=h.mp fun b φ e=>s _ _ e
def cxC (P:Program) (w:World) (K:Frag) (mg:Str->Option Value) (base:Heap) (N:List Str) (qual:Str) (scope:Scope) (f c:Addr) (cl:List (Str×Addr)) (A:Around) (outer:List Env) (s:Shared) (H:Hp):Cx where
 prog:=P
 w:=w
 K:=K
 mg:=mg
 base:=base
 A:=A.deeper (envX qual scope s.heap.objs.size f (.ref c) cl)
 N:=N
 s₀:=s
 H₀:=H
 env:=envX qual scope s.heap.objs.size f (.ref c) cl
 outer:=outer
 stack:=envX qual scope s.heap.objs.size f (.ref c) cl::outer
 ex:=[]
 fn:=fun x=>!(cl.lookup x).isSome
 calm:=true
 pn:=[]
 xe:=fun _ _=>False
def fcs (cl:List (Str×Addr)) (fv:List (Str×V)):List Addr:=fv.filterMap fun y=>cl.lookup y.1
structure qlZ (params:Arguments) (body:Expr) (scope:Scope) (ps fs:List Str):Prop where
 co:scope.isCoroutine=false
 gen:scope.isGenerator=false
 kind:scope.kind=.function
 cell:∀ x∈scope.names,x.2≠.cell
 free:∀ y∈scope.names,y.2=.free->y.1∈fs
 loc:∀ x∈ps,scope.names.lookup x=some .local
 fre:∀ x∈fs,scope.names.lookup x=some .free
 bind:∀ (qual:Str) (cl:List (Str×Addr)) (pm cdv ct:Value) (us:List Value),us.length=ps.length->bindArgs (PySem.W.kla_fn "<lambda>" qual params body scope cl pm cdv ct) ⟨us,[]⟩=pure (ps.zip us)
 nd:(ps++fs).Nodup
theorem qer {α:Type}{x:Str}{v:α}:∀ {l:List (Str×α)},(l.map (·.1)).Nodup->(x,v)∈l->l.lookup x=some v
 | y::r,nd,h=>by
   have n:=List.nodup_cons.mp nd;rcases List.mem_cons.mp h with z|m
   · subst z;exact List.lookup_cons_self
   · have mm:x∈r.map (·.1):=List.mem_map.mpr ⟨(x,v),m,rfl⟩
     have ne:(x == y.1)=false:=by
       rw[beq_eq_false_iff_ne];intro z;rw[z]at mm;exact n.1 mm
     rw[List.lookup_cons,ne];exact qer n.2 m
theorem qjv {k:Nat}{P:Program}{w:World}{K:Frag}{mg:Str->Option Value}{base:Heap}{f:Addr}{qual:Str}{params:Arguments}{body:Expr}{scope:Scope}{ps:List Str}{fv:List (Str×V)} (L:qlZ params body scope ps (fv.map (·.1)))
   {A:Around}{outer:List Env}{s:Shared}{H:Hp}{us:List Value}{vs:List V}{Q:VK} (hr:Room (k+1) A) (e0:Env0 P w K mg base A outer s H) (C:Clo H f qual params body scope fv) (r:Vals vs us) (hl:vs.length=ps.length)
   (hbody:∀ (cl:List (Str×Addr)) (c:Addr),(∀ d∈fcs cl fv,∃ y v,fv.lookup y=some v∧H d=some (.ext (qaU d v)))->Room k (A.deeper (envX qual scope s.heap.objs.size f (.ref c) cl))->(∀ b v,H b=some v->(∀ φ,v≠.ext φ)->cut H (fcs cl fv) b=some v) ->
     ∃ te,PE (cxC P w K mg base (ps++fv.map (·.1)) qual scope f c cl A outer s (cut H (fcs cl fv))) body te∧te (vs.map some++fv.map fun y=>some y.2) (cut H (fcs cl fv)) fun v H'=>Q v (backL H (fcs cl fv) H')) :
   codeAny (model P w) A (.call (.ref f) ⟨us,[]⟩) (CR CX0 outer P w H s Q E0) s:=by
 obtain⟨cl,c,pm,ctv,hf,hc,cells,all,inj⟩:=C;have ff:s.heap.get? f=some _:=((show ObjOk P w H s.heap f (.ext (qeE f _)) from e0.hok f _ hf)).1;have cc:s.heap.CodeRec (.ref c) qual:=((show ObjOk P w H s.heap c (.ext (qaT c qual)) from e0.hok c _ hc)).1;have lim:s.heap.NoLimit:=e0.mod.nolimit.keeps fun b o e=>(e0.bs b o e).1;have ul:us.length=ps.length:=by rw[← r.length];exact hl
 have csx:∀ d∈fcs cl fv,∃ v,H d=some (.ext (qaU d v)):=fun d m=>by
   obtain⟨y,_,e⟩:=List.mem_filterMap.mp m;obtain⟨v,_,q⟩:=cells _ _ e;exact⟨v,q⟩
 have csin:∀ x d,cl.lookup x=some d->d∈fcs cl fv:=fun x d e=>by
   obtain⟨v,q,_⟩:=cells x d e;exact List.mem_filterMap.mpr ⟨(x,v),PySem.mem_of_lookup q,e⟩
 have cex:∀ d∈fcs cl fv,∃ φ,H d=some (.ext φ):=fun d m=>let ⟨v,q⟩:=csx d m;⟨_,q⟩
 have cn:∀ b,H b=none->cut H (fcs cl fv) b=none:=fun b n=>by
   unfold cut;split
   · rfl
   · exact n
 have e1:Env0 P w K mg base A outer s (cut H (fcs cl fv)):=⟨e0.frames,e0.mod,fun b o q=>⟨(e0.bs b o q).1,cn b (e0.bs b o q).2⟩,e0.bsz,e0.funs,fun b m=>cn b (e0.frf b m),e0.hok.cutL cex,e0.bare⟩
 refine PySem.W.kla_callFunE hr.depth ff rfl L.co L.gen rfl cc ?_;rw[show bindArgs _ _=_ from L.bind _ _ _ _ _ us ul];refine wpAny_pure (wpAny_newFunctionEnv L.cell (fun x hx=>L.loc _ (List.of_mem_zip hx).1) (fun h₁ hns hsb=>⟨lim.fresh _ hsb,?_⟩) L.kind);have hk₁:∀ b o,s.heap.get? b=some o->h₁.get? b=some o:=fun b o e=>hsb.extBut b o (Nat.ne_of_lt (Heap.lt_size e)) (Heap.get?_push_of_some _ e);show codeAny _ _ (.expr _ (envX qual scope s.heap.objs.size f (.ref c) cl)) _ _;refine PySem.W.kla_codeExpr ?_
 obtain⟨te,hte,hq⟩:=hbody cl c (fun d m=>by
   obtain⟨y,_,e⟩:=List.mem_filterMap.mp m;obtain⟨v,q,z⟩:=cells _ _ e
   exact⟨y.1,v,q,z⟩) (hr.deeper _) fun b v r nv=>(qH fun z=>by obtain⟨φ,e⟩:=cex b z;rw[e]at r;exact nv φ (Option.some.inj r).symm).trans r
 have noA:∀ b:Addr,b∉(cxC P w K mg base (ps++fv.map (·.1)) qual scope f c cl A outer s (cut H (fcs cl fv))).ex:=fun b z=>absurd (show b∈([]:List Addr) from z) (by simp);have ndp:ps.Nodup:=(List.nodup_append.mp L.nd).1;have ndf:(fv.map (·.1)).Nodup:=(List.nodup_append.mp L.nd).2.1
 have zk:((ps.zip us).reverse.map (·.1)).Nodup:=by
   rw[List.map_reverse];rw[show (ps.zip us).map (·.1)=ps from List.map_fst_zip (by omega)];exact List.pairwise_reverse.mpr (List.Pairwise.imp Ne.symm ndp)
 have isc:∀ x d,cl.lookup x=some d->∃ v u,fv.lookup x=some v∧RelV v u∧s.heap.IsCell d (some u):=fun x d e=>by
   obtain⟨v,q,hd⟩:=cells x d e;obtain⟨⟨u,rv,ic⟩,_,_⟩:=(show ObjOk P w H s.heap d (.ext (qaU d v)) from e0.hok d _ hd)
   exact⟨v,u,q,rv,ic⟩
 have up:∀ {d:Addr}{v:Option Value},s.heap.IsCell d v->h₁.IsCell d v:=fun⟨o,e,d⟩=>⟨o,hk₁ _ _ e,d⟩
 have I:Inv (cxC P w K mg base (ps++fv.map (·.1)) qual scope f c cl A outer s (cut H (fcs cl fv))) [] (vs.map some++fv.map fun y=>some y.2) (cut H (fcs cl fv)) { heap:=h₁,gens:=s.gens,drawn:=s.drawn,toks:=s.toks+(ps.zip us).length,os:=s.os }:=by
   refine⟨⟨e0.mod,L.kind,rfl,rfl,Nat.le_refl _,inj,fun y hy=>?_,fun y d h1 h2=>?_,fun _=>hr.hd,Around.frames_deeper e0.frames,.inr ⟨rfl,rfl⟩,fun b z=>absurd z (noA b),e1.bs,e1.bsz,fun b _ _=>noA b,fun b z=>absurd z (noA b),e0.funs,e1.frf⟩,
     rfl,e0.bare,Un.kept hk₁,⟨_,hns,fun i y v h1 h2 h3=>?_⟩,fun y d h=>?_,e1.hok.fresh (Nat.le_refl _),fun y d h=>qy (csin y d h),fun p hp=>absurd (show p∈([]:List (Addr×Obj)) from hp) (by simp),e1.hok.kept hk₁,?_⟩
   · have hy:scope.names.lookup y=some .cell∨scope.names.lookup y=some .free:=hy;rcases hy with hy|hy
     · exact absurd rfl (L.cell _ (PySem.mem_of_lookup hy))
     · obtain⟨z,mz,ez⟩:=List.mem_map.mp (L.free _ (PySem.mem_of_lookup hy) rfl);obtain⟨d,hd⟩:=all z.1 z.2 (qer ndf mz);exact⟨d,by rw[← show z.1=y from ez];exact hd⟩
   · have h1:(!(cl.lookup y).isSome)=true:=h1;have h2:cl.lookup y=some d:=h2;rw[h2]at h1;cases h1
   · have h1:(ps++fv.map (·.1))[i]?=some y:=h1;by_cases lt:i < ps.length
     · rw[List.getElem?_append_left lt]at h1;rw[List.getElem?_append_left (by rw[List.length_map,hl];exact lt),List.getElem?_map]at h2;obtain⟨v',hv,ev⟩:=Option.map_eq_some_iff.mp h2;cases ev;obtain⟨u,hu,rv⟩:=r.get hv;refine⟨u,rv,.inl ⟨L.loc y (List.mem_of_getElem? h1),?_⟩⟩;refine qer zk (List.mem_reverse.mpr (List.mem_of_getElem? (i:=i) ?_));rw[List.getElem?_zip_eq_some];exact⟨h1,hu⟩
     · rw[List.getElem?_append_right (by omega)]at h1;rw[List.getElem?_append_right (by rw[List.length_map,hl];omega),List.length_map,hl]at h2;rw[List.getElem?_map]at h1 h2;obtain⟨z,hz,ez⟩:=Option.map_eq_some_iff.mp h1;rw[hz]at h2;cases h2;have lk:=qer ndf (x:=z.1) (v:=z.2) (List.mem_of_getElem? hz);obtain⟨d,hd⟩:=all z.1 z.2 lk;obtain⟨v',u,q,rv,ic⟩:=isc z.1 d hd;rw[lk]at q;cases q;refine⟨u,rv,.inr ⟨.inr ?_,d,?_,up ic⟩⟩
       · rw[← show z.1=y from ez];exact L.fre _ (List.mem_map.mpr ⟨z,List.mem_of_getElem? hz,rfl⟩)
       · rw[← show z.1=y from ez];exact hd
   · obtain⟨v,u,_,_,ic⟩:=isc y d h;exact⟨_,up ic⟩
   · show (vs.map some++fv.map fun y=>some y.2).length=(ps++fv.map (·.1)).length;rw[List.length_append,List.length_append,List.length_map,List.length_map,List.length_map,hl]
 refine wpAny_mono (hte [] _ _ _ _ I hq) (fun u s' hs=>?_) fun e s' hs=>hs.elim;obtain⟨v,H',J,rv,q⟩:=hs;have un:=J.base;have nx:∀ b:Addr,b∉([]:List Addr):=fun b=>by simp
 have cold:∀ d∈fcs cl fv,∃ o,s.heap.get? d=some o∧d∉frs outer:=fun d m=>by
   obtain⟨v,q⟩:=csx d m;obtain⟨⟨u,_,o,e,_⟩,_,_⟩:=(show ObjOk P w H s.heap d (.ext (qaU d v)) from e0.hok d _ q)
   exact⟨o,e,fun z=>by rw[e0.frf d z]at q;cases q⟩
 have n2:∀ d∈fcs cl fv,H' d=none:=fun d m=>let ⟨o,e,_⟩:=cold d m;un.free d o e (qy m) (nx d);have kp:∀ d∈fcs cl fv,∀ o,s.heap.get? d=some o->s'.heap.get? d=some o:=fun d m o e=>un.keep d o e (qy m) (let ⟨_,_,z⟩:=cold d m;z) (nx d)
 have out:∀ b v,H b=some v->(∀ φ,v≠.ext φ)->cut H (fcs cl fv) b=some v∧b∉fcs cl fv:=fun b v r nv=>by
   have nb:b∉fcs cl fv:=fun z=>by obtain⟨φ,e⟩:=cex b z;rw[e]at r;exact nv φ (Option.some.inj r).symm
   exact⟨(qH nb).trans r,nb⟩
 refine⟨v,backL H (fcs cl fv) H',J.os,J.bare,⟨fun b o q n=>un.keep b o q (cn b n),fun b o q n=>un.slot b o q (cn b n),fun b o q n hx=>?_,un.there,fun b xs q=>?_,fun b o u q=>?_,fun b qs q=>?_⟩,e0.hok.backL cex J.hok n2 kp,rv,q⟩
 · have nb:b∉fcs cl fv:=fun z=>by obtain⟨φ,e⟩:=cex b z;rw[e]at n;cases n
   rw[Qw nb];exact un.free b o q (cn b n) hx
 · obtain⟨a1,a2⟩:=out b _ q (by intro φ z;cases z);rw[Qw a2];exact un.tups b xs a1
 · obtain⟨a1,a2⟩:=out b _ q (by intro φ z;cases z);rw[Qw a2];exact un.frzs b o u a1
 · obtain⟨a1,a2⟩:=out b _ q (by intro φ z;cases z);rw[Qw a2];exact un.tbls b qs a1
structure qgL where
 nx:St->Hp->Prop
 rt:V->St->Hp->Prop
abbrev TSK:=qgL->St->Hp->Prop
def SPK (X:Cx) (pins:List (Addr×Obj)) (D:qgL) (fl:Flow) (s':Shared):Prop :=
 match fl with
 | .next=>∃ σ' H',Inv X pins σ' H' s'∧D.nx σ' H'
 | .ret u=>∃ v σ' H',Inv X pins σ' H' s'∧RelV v u∧D.rt v σ' H'
 | _=>False
def PSK (X:Cx) (st:Stmt) (t:TSK):Prop :=
 ∀ (pins:List (Addr×Obj)) (s:Shared) (σ:St) (H:Hp) (D:qgL),Inv X pins σ H s->t D σ H->wpAny (model X.prog X.w) X.A (exec st X.env) (SPK X pins D) X.xe s
def qiH (X:Cx) (st:List Stmt) (t:TSK):Prop :=
 ∀ (pins:List (Addr×Obj)) (s:Shared) (σ:St) (H:Hp) (D:qgL),Inv X pins σ H s->t D σ H->wpAny (model X.prog X.w) X.A (execs st X.env) (SPK X pins D) X.xe s
section
variable {X:Cx}{st:Stmt}{rest:List Stmt}{t u:TSK}{pos:Pos}{e:Expr}{te:TE}
def qlp:TSK:=fun D σ H=>D.nx σ H
def qlo (t u:TSK):TSK:=fun D σ H=>t { D with nx:=u D } σ H
def qmj (te:TE):TSK:=fun D σ H=>te σ H fun v H'=>D.rt v σ H'
def kIf (c:TT) (t u:TSK):TSK:=fun D σ H=>c σ H fun b H1=>if b=true then t D σ H1 else u D σ H1
def qmk (t:TS):TSK:=fun D σ H=>t { nx:=D.nx,rt:=fun _ _=>False } σ H
theorem Q6:qiH X [] qlp:=fun _ _ σ H _ I h=>wpAny_execs_nil ⟨σ,H,I,h⟩
theorem qP (h1:PSK X st t) (h2:qiH X rest u):qiH X (st::rest) (qlo t u):=by
 intro pins s σ H D I h;refine wpAny_execs_cons (thn (h1 pins s σ H { D with nx:=u D } I h) fun f s1 q=>?_)
 cases f with
 | next =>
   obtain⟨σ',H',I',q⟩:=q;exact h2 pins s1 σ' H' D I' q
 | ret v=>exact q
 | brk=>exact q.elim
 | cont=>exact q.elim
theorem QC (h1:PSK X st t):qiH X [st] t:=by
 intro pins s σ H D I h;refine wpAny_execs_cons (thn (h1 pins s σ H D I h) fun f s1 q=>?_)
 cases f with
 | next=>exact wpAny_execs_nil q
 | ret v=>exact q
 | brk=>exact q.elim
 | cont=>exact q.elim
theorem ji (he:PE X e te):PSK X (.Return (some e) pos) (qmj te):=by
 intro pins s σ H D I h;exact wpAny_Return_some (thn (he pins s σ H _ I h) fun v s1 ⟨x,H1,I1,r1,q1⟩=>⟨x,σ,H1,I1,r1,q1⟩)
theorem qat {c:Expr}{a b:List Stmt}{tc:TT} (hc:PT X c tc) (ha:qiH X a t) (hb:qiH X b u):PSK X (.If c a b pos) (kIf tc t u):=by
 intro pins s σ H D I h;refine wpAny_If (thn (hc pins s σ H _ I h) fun d s1 zz_=>?_);obtain⟨H1,I1,q1⟩:=zz_
 cases d with
 | true=>exact ha pins s1 σ H1 D I1 q1
 | false=>exact hb pins s1 σ H1 D I1 q1
theorem zV {t:TS} (h1:PS X st t):PSK X st (qmk t):=by
 intro pins s σ H D I h;refine thn (h1 pins s σ H { nx:=D.nx,rt:=fun _ _=>False } I h) fun f s1 q=>?_
 cases f with
 | next=>exact q
 | ret v=>obtain⟨_,_,_,_,_,q⟩:=q;exact q.elim
 | brk=>obtain⟨_,_,_,q⟩:=q;exact q.elim
 | cont=>obtain⟨_,_,_,q⟩:=q;exact q.elim
end
structure qcd (N:List Str) (scope:Scope) (cells:List (Str×Addr)) (σ:St) (H H':Hp):Prop where
 s:Same H H'
 at_:∀ (i:Nat) (y:Str) (v:V),N[i]?=some y->σ[i]?=some (some v)->scope.names.lookup y=some .cell->∃ c,cells.lookup y=some c∧H' c=some (.ext (qaU c v))
 inj:∀ x y c,cells.lookup x=some c->cells.lookup y=some c->x=y
theorem qkF {P:Program}{w:World}{K:Frag}{mg:Str->Option Value}{base:Heap}{k:Nat}{f:Addr}{name qual:Str}{params:Arguments}{body:List Stmt}{scope:Scope}{dV kV doc pm cdv ct oc:Value}{an od:Option Addr}
   {osl:Array (Option Value)}{N ps:List Str}{sp:Sp} (lk:K.lookup f=some ⟨oc,od,.func (fnOf name qual params body scope dV kV doc pm an cdv ct),osl⟩) (hcd:PySem.W.codeIn K cdv qual=true) (S:qp N ps scope)
   (len:∀ vs H Q E,sp vs H Q E->vs.length=ps.length)
   (hbody:∀ (A:Around) (outer:List Env) (s:Shared) (H:Hp) (vs:List V) (Q:VK) (E:XK),Room k (A.deeper (envOfC qual scope s.heap.objs.size f cdv))->sp vs H Q E ->
     ∃ t,qiH (zw CX0 P w K mg base N qual scope f cdv A outer s H E) body t∧t { nx:=fun _ _=>False,rt:=fun v σ' H'=>∀ H'',qcd N scope (cellsFrom (s.heap.objs.size+1) scope.names []) σ' H' H''->Q v H'' } (JI N vs) H) :
   FnOk P w K mg base CX0 (k+1) f (fnOf name qual params body scope dV kV doc pm an cdv ct) ps sp:=by
 refine⟨len,fun A outer s H args us vs Q E hr e0 hb r hsp=>?_⟩;have hl:=len _ _ _ _ hsp;have KX:K.In s.heap:=e0.mod.kin.keeps fun b o e=>(e0.bs b o e).1;have lim:s.heap.NoLimit:=e0.mod.nolimit.keeps fun b o e=>(e0.bs b o e).1
 have hkind:∀ y∈ps.zip us,scope.names.lookup y.1=some .local∨(scope.names.lookup y.1=some .cell∧((cellsFrom (s.heap.objs.size+1) scope.names []).lookup y.1).isSome=true):=fun⟨n,v⟩ hy=>by
   rcases S.par n (List.of_mem_zip hy).1 with q|q
   · exact .inl q
   · exact .inr ⟨q,PySem.W.cellsFrom_some _ _ _ (.inl q)⟩
 refine codeAny_call_function hr.depth (KX _ _ lk) rfl S.co S.gen rfl (PySem.W.codeRec_of KX hcd) (hb _ _ _ _ ?_);refine wpAny_newFunctionEnv_cells S.kind hkind fun env he s1 x=>?_;subst he;refine⟨lim.keeps x.toInCall.keep,codeAny_func ?_⟩;obtain⟨t,ht,hq⟩:=hbody A outer s H vs Q E (hr.deeper _) hsp;have I:Inv (zw CX0 P w K mg base N qual scope f cdv A outer s H E) [] (JI N vs) H s1:=qc6 S hr.hd e0 hl r x;refine wpAny_mono (ht [] s1 (JI N vs) H _ I hq) (fun fl s' hs=>?_) fun e s' hs=>hs
 cases fl with
 | next=>obtain⟨_,_,_,q⟩:=hs;exact q.elim
 | brk=>exact hs.elim
 | cont=>exact hs.elim
 | ret u =>
   obtain⟨v,σ',H',J,rv,q⟩:=hs;let Cl:Addr->V->Prop:=fun b z=>∃ (i:Nat) (y:Str),N[i]?=some y∧σ'[i]?=some (some z)∧scope.names.lookup y=some .cell∧(cellsFrom (s.heap.objs.size+1) scope.names []).lookup y=some b
   have one:∀ b z z',Cl b z->Cl b z'->z=z':=fun b z z' ⟨i,y,h1,h2,_,h4⟩ ⟨i',y',h1',h2',_,h4'⟩=>by
     have ey:y=y':=J.ok.inj y y' b h4 h4';subst ey;obtain⟨l1,g1⟩:=List.getElem?_eq_some_iff.mp h1;obtain⟨l2,g2⟩:=List.getElem?_eq_some_iff.mp h1';have ei:i=i':=(List.getElem_inj S.nd).mp (g1.trans g2.symm);subst ei;rw[h2]at h2';cases h2';rfl
   have old:∀ b z,Cl b z->H' b=none∧s.heap.objs.size≤b:=fun b z ⟨i,y,h1,h2,_,h4⟩=>⟨J.freeC y b h4,J.ok.cab y b rfl h4⟩
   open Classical in
   let H'':Hp:=fun b=>if h:∃ z,Cl b z then some (.ext (qaU b h.choose)) else H' b
   have in_:∀ b z,Cl b z->H'' b=some (.ext (qaU b z)):=fun b z h=>by
     have e:∃ z,Cl b z:=⟨z,h⟩
     show (if h:∃ z,Cl b z then some (.ext (qaU b h.choose)) else H' b)=_;rw[dif_pos e,one b _ z e.choose_spec h]
   have out:∀ b,(¬ ∃ z,Cl b z)->H'' b=H' b:=fun b n=>dif_neg n
   have sm:Same H' H'':=fun b o e=>by
     rw[out b (fun⟨z,h⟩=>by rw[(old b z h).1]at e;cases e)];exact e
   refine⟨v,H'',J.os,J.bare,⟨J.base.keep,J.base.slot,fun b o e n hx=>?_,J.base.there,fun b xs e=>sm _ _ (J.base.tups b xs e),fun b o u e=>sm _ _ (J.base.frzs b o u e),fun b ps e=>?_⟩,fun b o e=>?_,rv,q H'' ⟨sm,fun i y z h1 h2 h3=>?_,J.ok.inj⟩⟩
   · rw[out b (fun⟨z,h⟩=>absurd (Heap.lt_size e) (Nat.not_lt.mpr (old b z h).2))];exact J.base.free b o e n hx
   · obtain⟨more,z⟩:=J.base.tbls b ps e;exact⟨more,sm _ _ z⟩
   · by_cases z:∃ z,Cl b z
     · obtain⟨z,h⟩:=z;rw[in_ b z h]at e;cases e;obtain⟨i,y,h1,h2,h3,h4⟩:=h;obtain⟨m,_,hl⟩:=J.loc;obtain⟨u',ru,lk'⟩:=hl i y z h1 h2 (.inr (.inl h3));refine qhN ⟨u',ru,?_⟩;rcases lk' with ⟨kl,_⟩|⟨_,c0,hc0,ic⟩
       · have:scope.names.lookup y=some .local:=kl
         rw[h3]at this;cases this
       · have:(cellsFrom (s.heap.objs.size+1) scope.names []).lookup y=some c0:=hc0
         rw[h4]at this;cases this;exact ic
     · rw[out b z]at e;exact(J.hok b o e).stay (fun _ _ _ z=>z) (fun c r=>sm _ _ r) fun c xs r=>sm _ _ r
   · have hv:((cellsFrom (s.heap.objs.size+1) scope.names []).lookup y).isSome=true:=PySem.W.cellsFrom_some _ _ _ (.inl h3);obtain⟨c,hc⟩:=Option.isSome_iff_exists.mp hv;exact⟨c,hc,in_ c z ⟨i,y,h1,h2,h3,hc⟩⟩
theorem Fun.okK {P:Program}{w:World}{K:Frag}{mg:Str->Option Value}{base:Heap}{x qual:Str}{st:Stmt}{f c:Addr}{fd:FuncData}{N ps:List Str}{k:Nat}{sp:Sp} (F:Fun K x qual st f fd) (hc:fd.code=.ref c) (S:qp N ps (qg st)) (len:∀ vs H Q E,sp vs H Q E->vs.length=ps.length)
   (hbody:∀ (cdv:Value) (A:Around) (outer:List Env) (s:Shared) (H:Hp) (vs:List V) (Q:VK) (E:XK),cdv=.ref c->Room k (A.deeper (envOfC qual (qg st) s.heap.objs.size f cdv))->sp vs H Q E ->
     ∃ t,qiH (zw CX0 P w K mg base N qual (qg st) f cdv A outer s H E) (zX st) t∧t { nx:=fun _ _=>False,rt:=fun v σ' H'=>∀ H'',qcd N (qg st) (cellsFrom (s.heap.objs.size+1) (qg st).names []) σ' H' H''->Q v H'' } (JI N vs) H):FnOk P w K mg base CX0 (k+1) f fd ps sp:=by
 obtain⟨oc,od,kV,doc,pm,an,cdv,ct,osl,rfl,lk,hcd⟩:=F.ex;exact qkF lk hcd S len fun A outer s H vs Q E hr hsp=>hbody cdv A outer s H vs Q E hc hr hsp
def qlT (P:Program) (w:World) (K:Frag) (mg:Str->Option Value) (base:Heap) (k:Nat) (f:Addr) (sp:Sp):Prop :=
 ∀ (A:Around) (outer:List Env) (s:Shared) (H:Hp) (us:List Value) (vs:List V) (Q:VK),Room k A->Env0 P w K mg base A outer s H->Vals vs us->sp vs H Q E0->codeAny (model P w) A (.call (.ref f) ⟨us,[]⟩) (CR CX0 outer P w H s Q E0) s
section
variable {X:Cx}{x:Str}{p pos:Pos}{e:Expr}{es:List Expr}{t:TA}{tv:TE}{k:Nat}{Ok:Addr->Sp->Prop}
inductive qdU (Ok:Addr->Sp->Prop) (t:TA) (σ:St) (Q:VK) (fv:V) (H1:Hp):Prop
 | mk (f:Addr) (sp:Sp) (o:Obj) (fd:FuncData) (h1:fv=.ref f) (h2:H1 f=some (.ext (qeE f o))) (h3:o.data=.func fd) (h4:Ok f sp) (h5:t σ H1 fun vs H2=>H2 f=some (.ext (qeE f o))∧sp vs H2 Q E0):qdU Ok t σ Q fv H1
def qjU (Ok:Addr->Sp->Prop) (tv:TE) (t:TA):TE:=fun σ H Q=>tv σ H fun fv H1=>qdU Ok t σ Q fv H1
theorem qhe (hv:PE X (.Name x p) tv) (hr:Room k X.A) (hO:∀ f sp,Ok f sp->qlT X.prog X.w X.K X.mg X.base k f sp) (ha:PA X (e::es) t)
   (hes:backTo pos (starEach (e::es) X.env)=(false,eval e X.env)::backTo pos (starEach es X.env):=by rfl):PE X (.Call (.Name x p) (e::es) [] pos) (qjU Ok tv t):=by
 intro pins s σ H Q I h;refine wpAny_Call_Name_kw (thn (hv pins s σ H _ I h) fun v s1 zz_=>?_);obtain⟨fv,H1,I1,r1,q1⟩:=zz_;obtain⟨f,sp,o,fd,rfl,hf,hd,ok,q⟩:=q1;cases r1;refine PySem.Calls.callWith_function (o:=o) (fd:=fd) ?_;rw[hes];refine PySem.Calls.evalArgs_plain ?_;rw[← hes];refine thn (ha pos pins s1 σ H1 _ I1 q) fun us s2 ⟨vs,H2,I2,r2,hf2,q2⟩=>⟨⟨((show ObjOk X.prog X.w H2 s2.heap f (.ext (qeE f o)) from I2.hok f _ hf2)).1,hd⟩,?_⟩
 refine wpAny_call (codeAny_mono ((hO f sp ok) X.A X.stack s2 H2 us vs Q hr I2.env0 r2 q2) fun r s' hq=>?_)
 cases r with
 | error e=>exact hq.elim
 | ok fl =>
   cases fl with
   | ret u=>exact I2.after hq
   | next=>exact hq.elim
   | brk=>exact hq.elim
   | cont=>exact hq.elim
theorem qkJ {params:Arguments}{body:Expr}{scope sc0:Scope}{N:List Str}{σ:St}{H' H'':Hp}{f c:Addr}{o:Obj}{fv:List (Str×V)} (lo:qjA X params body scope c o) (ci:qcd N sc0 X.env.cells σ H' H'')
   (hf:H' f=some (.ext (qeE f o))) (hc:H' c=some (.ext (qaT c (X.env.qual++"<lambda>"))))
   (hfree:∀ y∈scope.names,y.2=.free->∃ c,X.env.cells.lookup y.1=some c)
   (hfv:∀ y v,fv.lookup y=some v->(y,NameKind.free)∈scope.names∧sc0.names.lookup y=some .cell∧∃ i:Nat,N[i]?=some y∧σ[i]?=some (some v))
   (hal:∀ y,(zZ X.env.cells scope.names []).lookup y≠none->(fv.lookup y).isSome=true):Clo H'' f (X.env.qual++"<lambda>") params body scope fv:=by
 obtain⟨pm,ctv,rfl⟩:=lo;have sub:∀ y d,(zZ X.env.cells scope.names []).lookup y=some d->X.env.cells.lookup y=some d:=fun y d h=>(zI (cells:=X.env.cells) (x:=y) scope.names [] hfree (fun _ z=>nomatch z)).1 d h;refine⟨_,c,pm,ctv,ci.s _ _ hf,ci.s _ _ hc,fun y d h=>?_,fun y v h=>?_,fun y z d h1 h2=>ci.inj y z d (sub _ _ h1) (sub _ _ h2)⟩
 · obtain⟨v,hv⟩:=Option.isSome_iff_exists.mp (hal y (by rw[h];simp));obtain⟨_,hk,i,h1,h2⟩:=hfv y v hv;obtain⟨c',hc',hH⟩:=ci.at_ i y v h1 h2 hk;rw[sub y d h]at hc';cases hc';exact⟨v,hv,hH⟩
 · obtain⟨m,_⟩:=hfv y v h;exact Option.isSome_iff_exists.mp ((zI (cells:=X.env.cells) (x:=y) scope.names [] hfree (fun _ z=>nomatch z)).2 (.inl m))
end
end L2
namespace L2
open PySem PySem.Spec PyProof.Rows PySem.W
open PySem.W (Frag)
theorem qcY:∀ (f n r:Nat),r≤1->minRun' f n r≤n+r
 | 0,n,r,_=>Nat.le_refl _
 | f+1,n,r,hr=>by
   rw[minRun'_succ];split
   · exact Nat.le_refl _
   · have ih:=qcY f (n / 2) (max r (n % 2)) (by omega);omega
section
variable {prog:Program}{w:World}{A:Around}{E:Value->Shared->Prop}{κ:SortKind}{it:Array Keyed}{s:Shared}
theorem qi0 {r:Nat}{Q:Unit->SortSt->Shared->Prop}{G:Shared->Prop} (hG:∀ st s',arrOf st=(List.toArray (List.range (r+2))).map (kas_item it)->failedOf st=none->G s'->Q () st s')
   (up:(kas_asc (List.toArray (List.range (r+2))) (r+1) 1).kasWp (kas_cmp prog w A κ it) (fun k s'=>k=r+2∧G s') s):kasC (model prog w) A E sortRuns' Q (kas_st κ it (List.toArray (List.range (r+2)))) s:=by
 have z0:(List.toArray (List.range (r+2))).size=r+2:=by rw[List.size_toArray,List.length_range]
 have z1:(arrOf (kas_st κ it (List.toArray (List.range (r+2))))).size=r+2:=(Array.size_map ..).trans z0
 have cnt:(kas_count (r+2) (List.toArray (List.range (r+2)))).kasWp (kas_cmp prog w A κ it) (fun x s'=>x.1=r+2∧x.2=List.toArray (List.range (r+2))∧G s') s:=by
   unfold kas_count;rw[KasT.kasWp_bind];refine kas_wp_mono up fun k s' zz_=>?_;obtain⟨e,g⟩:=zz_;subst e;rw[if_pos (beq_self_eq_true _)];exact⟨rfl,rfl,g⟩
 rw[sortRuns'_eq];refine kasC_bind (kasC_get ?_);simp only[z1];refine kasC_bind (kasC_range ?_);show kasC _ _ _ (forIn (0::1::List.range' 2 r) _ _) _ _ s;refine kasC_cons ?_;dsimp only;rw[if_neg (by omega)];simp only[Nat.zero_add,Nat.sub_zero];refine kasC_bind (kas_count_ (by omega) (Nat.le_of_eq z0.symm) (fun k q s' _ _ _ hk=>?_) cnt);obtain⟨k1,k2,g⟩:=hk;simp only at k1 k2;subst k1 k2;dsimp only;rw[if_neg (Nat.not_lt.mpr (qcY (r+2) (r+2) 0 (Nat.zero_le _)))];refine kasC_bind (kasC_get ?_);rw[show (pendingOf (kas_st κ it (List.toArray (List.range (r+2))))).back?=none from rfl];dsimp only;refine kasC_bind (kasC_modify (kasC_pure ?_));show kasC _ _ _ (forIn (1::List.range' 2 r) _ _) _ _ s';refine kasC_cons ?_;dsimp only;rw[if_pos (Nat.le_refl _)];refine kasC_pure ?_;refine kasC_bind (kasC_range ?_);show kasC _ _ _ (forIn (0::1::List.range' 2 r) _ _) _ _ s';refine kasC_cons (kasC_bind (kasC_get ?_));rw[if_pos (show (pendingOf (setPending (kas_st κ it (List.toArray (List.range (r+2)))) ((pendingOf (kas_st κ it (List.toArray (List.range (r+2))))).push (0,r+2,0)))).size≤1 from Nat.le_refl 1)];exact kasC_pure (kasC_pure (hG _ _ rfl rfl g))
theorem qiE {vs:List Value}{G:Shared->Prop} (g:G s) (lt:∀ i,i+1 < vs.length->∀ C:Bool->Shared->Prop,C false s->wpAny (model prog w) A (keyLt' κ (vs.getD (i+1) Value.none) (vs.getD i Value.none)) C (fun _ _=>False) s) :
   ∀ (f k:Nat),1≤k->k+f=vs.length->(kas_asc (List.toArray (List.range vs.length)) f k).kasWp (kas_cmp prog w A κ (vs.toArray.zip vs.toArray)) (fun m s'=>m=vs.length∧G s') s
 | 0,k,_,h=>⟨by omega,g⟩
 | f+1,k,h1,h=>by
   have at_:∀ i,i < vs.length->(List.toArray (List.range vs.length)).getD i 0=i:=fun i hi=>by simp[Array.getD,hi]
   show kas_cmp prog w A κ (vs.toArray.zip vs.toArray) ((List.toArray (List.range vs.length)).getD k 0) ((List.toArray (List.range vs.length)).getD (k - 1) 0) _ s;rw[at_ k (by omega),at_ (k - 1) (by omega)];unfold kas_cmp;rw[kat_item rfl,kat_item rfl];have q:=lt (k - 1) (by omega);rw[show k - 1+1=k by omega]at q;refine q _ ?_;dsimp only;rw[if_neg (by decide)];exact qiE g lt f (k+1) (by omega) (by omega)
theorem qiS {a:Addr}{vs:List Value}{n:Nat}{P:PySem.Fin->Shared->Prop} (ho:s.heap.get? a=some (seqObj "list" vs.toArray n)) (h2:2≤vs.length) (hz:vs.length≤sizeLine)
   (ask:∀ h',(∀ b o,b≠a->s.heap.get? b=some o->h'.get? b=some o)->wpAny (model prog w) A (keyKind' vs.toArray) (fun κ s'=>s'={ s with heap:=h' }∧∀ i,i+1 < vs.length->∀ C:Bool->Shared->Prop,C false s'->wpAny (model prog w) A (keyLt' κ (vs.getD (i+1) Value.none) (vs.getD i Value.none)) C (fun _ _=>False) s') (fun _ _=>False) { s with heap:=h' })
   (h:∀ c h',(∀ b o,b≠a->s.heap.get? b=some o->h'.get? b=some o)->h'.get? a=some (seqObj "list" vs.toArray c)->P (.done (.ret .none)) { s with heap:=h' }) :
   wpAny (model prog w) A (Builtin.«list.sort» ⟨[.ref a],[]⟩) P E s:=by
 obtain⟨r,hr⟩:∃ r,vs.length=r+2:=⟨vs.length - 2,by omega⟩
 have big:¬ vs.toArray.size < 2:=by rw[List.size_toArray];omega
 have zz:vs.toArray.size≤sizeLine:=by rw[List.size_toArray];exact hz
 obtain⟨e1,ho1⟩:∃ e1,(s.heap.update a (Obj.mapSeq fun _=>(#[]:Array Value))).get? a=some (seqObj "list" #[] e1):=⟨_,get?_update_seq ho fun _=>#[]⟩
 rw[list_sort_plain];refine wpAny_bind (listItems_at ho rfl (wpAny_bind (listUpdate_at ho rfl ?_ zz (Nat.zero_le _))));refine wpAny_bind (seqEpoch_at ho1 rfl (wpAny_bind (wpAny_newTuple ?_ zz)));refine wpAny_bind (wpAny_newList (wpAny_holding ?_) (Nat.zero_le _))
 have k3:∀ b o,b≠a->s.heap.get? b=some o->(((s.heap.update a (Obj.mapSeq fun _=>(#[]:Array Value))).push (seqObj "tuple" vs.toArray 0)).push (seqObj "list" #[] 0)).get? b=some o:=fun b o hb q =>
   Heap.get?_push_of_some _ (Heap.get?_push_of_some _ (((Heap.SameBut.update s.heap a _).2 b hb).trans q))
 have ho2:(((s.heap.update a (Obj.mapSeq fun _=>(#[]:Array Value))).push (seqObj "tuple" vs.toArray 0)).push (seqObj "list" #[] 0)).get? a=some (seqObj "list" #[] e1):=Heap.get?_push_of_some _ (Heap.get?_push_of_some _ ho1);dsimp only;rw[if_neg big,if_neg big];refine wpAny_bind (wpAny_mono (ask _ k3) (fun κ s' zz_=>?_) fun _ _ x=>x.elim);obtain⟨es,lt⟩:=zz_;subst es
 have it0:(List.toArray (List.range (r+2))).map (kas_item (vs.toArray.zip vs.toArray))=vs.toArray.zip vs.toArray:=by
   have:=kas_range (vs.toArray.zip vs.toArray)
   rwa [show (vs.toArray.zip vs.toArray).size=r+2 by simp[hr]]at this
 have st0:SortSt.mk' κ (vs.toArray.zip vs.toArray) #[] 7 none=kas_st κ (vs.toArray.zip vs.toArray) (List.toArray (List.range (r+2))):=by
   unfold kas_st;rw[it0]
 have up:=qiE (G:=fun s'=>s'={ s with heap:=((s.heap.update a (Obj.mapSeq fun _=>(#[]:Array Value))).push (seqObj "tuple" vs.toArray 0)).push (seqObj "list" #[] 0) }) rfl lt (r+1) 1 (Nat.le_refl _) (by omega);rw[hr]at up;have run:=qi0 (E:=E) (Q:=fun _ st s'=>arrOf st=vs.toArray.zip vs.toArray∧failedOf st=none∧s'={ s with heap:=((s.heap.update a (Obj.mapSeq fun _=>(#[]:Array Value))).push (seqObj "tuple" vs.toArray 0)).push (seqObj "list" #[] 0) }) (fun st s' x y z=>⟨x.trans it0,y,z⟩) up;rw[← st0]at run;unfold kasC at run;refine wpAny_bind (wpAny_mono run ?_ fun _ _ x=>x);rintro⟨⟨⟩,st⟩ s' ⟨ha,hf,rfl⟩
 have snd0:Array.map (fun x:Keyed=>x.snd) (arrOf st)=vs.toArray:=by
   rw[ha];apply Array.toList_inj.mp;simp only[Array.toList_map,Array.toList_zip];exact List.map_snd_zip (Nat.le_refl _)
 dsimp only;rw[snd0];refine wpAny_bind (seqEpoch_at ho2 rfl (wpAny_bind (listUpdate_at ho2 rfl ?_ (Nat.zero_le _) (Nat.le_succ_of_le zz))));rw[hf];simp only[bne_self_eq_false,Bool.false_eq_true,if_false];refine wpAny_pure (h _ _ (fun b o hb q=>?_) (get?_update_seq ho2 fun _=>vs.toArray));exact((Heap.SameBut.update _ a _).2 b hb).trans (k3 b o hb q)
theorem qfw {l:Addr}{vs:List Value}{Q:Value->Shared->Prop} (hl:s.heap.IsList l vs.toArray) (h2:2≤vs.length) (hz:vs.length≤sizeLine)
   (ask:∀ h',(∀ b o,s.heap.get? b=some o->h'.get? b=some o)->wpAny (model prog w) A.in1.in1 (keyKind' vs.toArray) (fun κ s'=>s'={ s with heap:=h' }∧∀ i,i+1 < vs.length->∀ C:Bool->Shared->Prop,C false s'->wpAny (model prog w) A.in1.in1 (keyLt' κ (vs.getD (i+1) Value.none) (vs.getD i Value.none)) C (fun _ _=>False) s') (fun _ _=>False) { s with heap:=h' })
   (h:∀ D c h',s.heap.get? D=none->(∀ b o,s.heap.get? b=some o->h'.get? b=some o)->h'.get? D=some (seqObj "list" vs.toArray c)->Q (.ref D) { s with heap:=h' }) :
   wpAny (model prog w) A (call (.builtin "sorted") [.ref l]) Q E s:=by
 refine Calls.call_function_entry kind_sorted plain_sorted entry_sorted (args_sorted1 _) ?_;unfold Builtin.«sorted»;refine wpAny_bind (m:=checkCount "sorted" 1 1 _) (wpAny_pure ?_);refine wpAny_bind (collect_list hl (wpAny_bind (wpAny_newList ?_ hz)) hz);generalize hg:(s.heap.push (seqObj "list" #[] 0)).update s.heap.objs.size (Obj.mapSeq (·++vs.toArray))=g;have z1:g.objs.size=s.heap.objs.size+1:=by rw[← hg,Heap.size_update,size_push']
 have at_:(g.push (seqObj "list" vs.toArray 0)).get? (s.heap.objs.size+1)=some (seqObj "list" vs.toArray 0):=by rw[← z1];exact Heap.get?_push_size _ rfl
 have kp:∀ b o,s.heap.get? b=some o->(g.push (seqObj "list" vs.toArray 0)).get? b=some o:=fun b o q=>by
   have lt:b < s.heap.objs.size:=Heap.lt_size q;rw[Heap.get?_push_ne _ _ _ (by rw[z1];exact Nat.ne_of_lt (Nat.lt_succ_of_lt lt)),← hg,Heap.get?_update_ne _ _ _ _ (Nat.ne_of_lt lt),Heap.get?_push_ne _ _ _ (Nat.ne_of_lt lt)];exact q
 rw[z1];refine wpAny_bind (wpAny_holding (wpAny_call_entry slot_list_sort ⟨_,at_,rfl⟩ entry_list_sort ?body (args_list_sort _)))
 case body =>
   refine qiS (s:={ s with heap:=g.push (seqObj "list" vs.toArray 0) }) at_ h2 hz (fun h' k=>ask h' fun b o q=>k b o (Nat.ne_of_lt (Nat.lt_succ_of_lt (Heap.lt_size q))) (kp b o q)) fun c h' k e=>?_;exact⟨_,rfl,wpAny_pure ⟨_,rfl,h (s.heap.objs.size+1) c h' (Heap.get?_none_of_le (Nat.le_succ _)) (fun b o q=>k b o (Nat.ne_of_lt (Nat.lt_succ_of_lt (Heap.lt_size q))) (kp b o q)) e⟩⟩
end
inductive qee (K:Frag) (xs:List V) (H:Hp) (Q:VK):Prop
 | mk (l:Addr) (zs:List V) (rs:List (List Int)) (k:Nat) (h1:xs=[.ref l]) (h2:SqL K H l zs) (h3:TupI H zs rs) (h4:(∀ r∈rs,r.length=k)) (h5:0 < k) (h6:rs.Pairwise (fun a b=>Q0 b a=false)) (h7:∀ p:Addr,H p=none->Q (.ref p) (upd H p (.lst zs))):qee K xs H Q
def qh4 (K:Frag):List V->Hp->VK->Prop:=fun xs H Q=>qee K xs H Q
section
variable {X:Cx}
theorem qe3:CallR X (.builtin "sorted") (qh4 X.K):=by
 intro pins s σ H xs us Q I r h;obtain⟨l,zs,rs,k,rfl,hq,tp,hk,k0,up,q⟩:=h;obtain⟨u,rfl,ru⟩:=JH r;cases (show u=Value.ref l from ru);obtain⟨its,rv,p,hz⟩:=I.list hq;have hlen:=rv.length
 have fin:∀ D c h',s.heap.get? D=none->(∀ b o,s.heap.get? b=some o->h'.get? b=some o)->h'.get? D=some (seqObj "list" its.toArray c)->EP X pins σ Q (.ref D) { s with heap:=h' }:=fun D c h' free kp e=>by
   have I':Inv X pins σ (upd H D (.lst zs)) { s with heap:=h' }:=I.laidL (t':=s.toks) (fun b u _ z=>kp b u z) (fun m ⟨o,es,ep,ho,r⟩=>⟨o,es,ep,kp _ _ ho,r⟩) free ⟨hz,its,c,rv,e⟩;exact⟨.ref D,_,I',rfl,q D (I.unlaid free)⟩
 by_cases h2:its.length < 2
 · exact qbj p.isList h2 fun D c h' free kp e=>fin D c h' free kp e
 · refine qfw p.isList (by omega) (by rw[← hlen];exact hz) (fun h' kp=>?_) fun D c h' free kp e=>fin D c h' free kp e;have pa:=qdo I (h':=h') (fun b u _ z=>kp b u z) tp rv;obtain⟨fs,t1,t2,t3⟩:=qbK pa fun r hr=>by rw[hk r hr];exact k0
   refine PySem.W.kat_kind (T:=.type "int") t1 (by omega) (fun v hv=>?_) rfl ⟨rfl,fun i hi C hC=>?_⟩
   · obtain⟨i,t,rfl⟩:=t3 v hv;exact PySem.W.Looks.of_pure rfl
   · obtain⟨x,ox,ux,nx,ex,rx,hx,cx,dx⟩:=Qh (d:=Value.none) (e:=List.replicate k 0) pa hi;obtain⟨y,oy,uy,ny,ey,ry,hy,cy,dy⟩:=Qh (d:=Value.none) (e:=List.replicate k 0) pa (show i < its.length by omega);rw[ex,ey];refine PySem.W.kat_lt hx dx hy dy ?_;have lx:=QD hk (i+1);have ly:=QD hk i;have e1':=rx.length;have e2':=ry.length;rw[List.length_map]at e1' e2';rw[show decide (ux.toArray.size < uy.toArray.size)=false from decide_eq_false (by rw[List.size_toArray,List.size_toArray];omega)];refine qf7 rx ry (by omega) ?_;have lr:rs.length=its.length:=by rw[← tp.len];exact hlen
     have a1:i+1 < rs.length:=by omega
     have:=List.pairwise_iff_getElem.mp up i (i+1) (by omega) a1 (by omega)
     rw[List.getD_eq_getElem?_getD,List.getElem?_eq_getElem a1,List.getD_eq_getElem?_getD,List.getElem?_eq_getElem (show i < rs.length by omega)];simp only[Option.getD_some];rw[this];exact hC
end
end L2
namespace M04
open L2
def Mem (ws:List (Int×Int)) (n:Int):Prop:=∃ w∈ws,w.1≤n∧n≤w.2
def zi (ws:List (Int×Int)):Prop:=(∀ w∈ws,w.1≤w.2)∧ws.Pairwise fun a b=>a.2+1 < b.1
def qba (acc:List (Int×Int)) (w:Int×Int):List (Int×Int):=match acc.getLast? with
 | some l=>if w.1≤l.2+1 then acc.set (acc.length - 1) (l.1,if w.2 > l.2 then w.2 else l.2) else acc++[w]
 | none=>[w]
theorem mem_app (xs ys:List (Int×Int)) (n:Int):Mem (xs++ys) n↔Mem xs n∨Mem ys n:=by
 constructor
 · rintro⟨w,hw,h⟩;rcases List.mem_append.mp hw with m|m
   · exact .inl ⟨w,m,h⟩
   · exact .inr ⟨w,m,h⟩
 · rintro (⟨w,hw,h⟩|⟨w,hw,h⟩)
   · exact⟨w,List.mem_append.mpr (.inl hw),h⟩
   · exact⟨w,List.mem_append.mpr (.inr hw),h⟩
theorem qaE (w:Int×Int) (n:Int):Mem [w] n↔w.1≤n∧n≤w.2:=by
 constructor
 · rintro⟨x,hx,h⟩;have e:x=w:=by simpa using hx
   rw[← e];exact h
 · intro h;exact⟨w,by simp,h⟩
theorem mem_cons (w:Int×Int) (ws:List (Int×Int)) (n:Int):Mem (w::ws) n↔(w.1≤n∧n≤w.2)∨Mem ws n:=by
 rw[show w::ws=[w]++ws from rfl,mem_app,qaE]
theorem qhs {acc:List (Int×Int)}{l:Int×Int} (h:acc.getLast?=some l):∃ init,acc=init++[l] :=
 ⟨acc.dropLast,by
   have ne:acc≠[]:=fun z=>by rw[z]at h;cases h
   have e:acc.getLast ne=l:=by rw[List.getLast?_eq_some_getLast ne]at h;exact Option.some.inj h
   rw[← e];exact(List.dropLast_concat_getLast ne).symm⟩
theorem qg2 (init:List (Int×Int)) (l x:Int×Int):(init++[l]).set ((init++[l]).length - 1) x=init++[x]:=by
 rw[List.length_append,show init.length+[l].length - 1=init.length by simp,List.set_append_right _ _ (Nat.le_refl _),Nat.sub_self];rfl
theorem canon_snoc {init:List (Int×Int)}{l:Int×Int}:zi (init++[l])↔zi init∧l.1≤l.2∧∀ a∈init,a.2+1 < l.1:=by
 unfold zi;constructor
 · rintro⟨h1,h2⟩;obtain⟨p1,_,p3⟩:=List.pairwise_append.mp h2;exact⟨⟨fun w m=>h1 w (by simp[m]),p1⟩,h1 l (by simp),fun a m=>p3 a m l (by simp)⟩
 · rintro⟨⟨h1,h2⟩,h3,h4⟩;refine⟨fun w m=>?_,List.pairwise_append.mpr ⟨h2,List.pairwise_singleton _ _,fun a ma b mb=>?_⟩⟩
   · rcases List.mem_append.mp m with m|m
     · exact h1 w m
     · have:w=l:=by simpa using m
       rw[this];exact h3
   · have:b=l:=by simpa using mb
     rw[this];exact h4 a ma
theorem qiO {acc:List (Int×Int)}{w:Int×Int} (c:zi acc) (hw:w.1≤w.2) (hl:∀ l∈acc,l.1≤w.1) :
   zi (qba acc w)∧(∀ n,Mem (qba acc w) n↔Mem acc n∨(w.1≤n∧n≤w.2))∧∀ l∈qba acc w,l.1≤w.1:=by
 cases e:acc.getLast? with
 | none =>
   have e0:acc=[]:=List.getLast?_eq_none_iff.mp e;subst e0;show zi [w]∧(∀ n,Mem [w] n↔Mem [] n∨_)∧∀ l∈[w],l.1≤w.1;refine⟨⟨fun x m=>?_,List.pairwise_singleton _ _⟩,fun n=>?_,fun x m=>?_⟩
   · have:x=w:=by simpa using m
     rw[this];exact hw
   · rw[qaE];exact⟨.inr,fun h=>h.elim (fun⟨_,z,_⟩=>nomatch z) id⟩
   · have:x=w:=by simpa using m
     rw[this];exact Int.le_refl _
 | some l =>
   obtain⟨init,rfl⟩:=qhs e;obtain⟨c1,c2,c3⟩:=canon_snoc.mp c;have hl1:=hl l (by simp);unfold qba;rw[e];dsimp only;by_cases g:w.1≤l.2+1
   · rw[if_pos g,qg2];refine⟨canon_snoc.mpr ⟨c1,by show l.1≤(if w.2 > l.2 then w.2 else l.2);split<;>omega,c3⟩,fun n=>?_,fun x m=>?_⟩
     · rw[mem_app,mem_app,qaE,qaE,or_assoc];show _∨(l.1≤n∧n≤(if w.2 > l.2 then w.2 else l.2))↔_
       have:(l.1≤n∧n≤(if w.2 > l.2 then w.2 else l.2))↔((l.1≤n∧n≤l.2)∨(w.1≤n∧n≤w.2)):=by
         split<;>omega
       rw[this]
     · rcases List.mem_append.mp m with m|m
       · exact hl x (by simp[m])
       · have:x=(l.1,if w.2 > l.2 then w.2 else l.2):=by simpa using m
         rw[this];exact hl1
   · rw[if_neg g];refine⟨canon_snoc.mpr ⟨c,hw,fun a m=>?_⟩,fun n=>by rw[mem_app _ [w],qaE],fun x m=>?_⟩
     · rcases List.mem_append.mp m with m|m
       · have:=c3 a m;omega
       · have:a=l:=by simpa using m
         rw[this];omega
     · rcases List.mem_append.mp m with m|m
       · exact hl x m
       · have:x=w:=by simpa using m
         rw[this];exact Int.le_refl _
theorem qgl:∀ (S acc:List (Int×Int)),zi acc->(∀ w∈S,w.1≤w.2)->S.Pairwise (fun a b=>a.1≤b.1)->(∀ l∈acc,∀ w∈S,l.1≤w.1)->zi (S.foldl qba acc)∧∀ n,Mem (S.foldl qba acc) n↔Mem acc n∨Mem S n
 | [],acc,c,_,_,_=>⟨c,fun n=>⟨.inl,fun h=>h.elim id fun⟨_,z,_⟩=>nomatch z⟩⟩
 | w::S,acc,c,ok,hp,hl=>by
   obtain⟨p1,p2⟩:=List.pairwise_cons.mp hp;obtain⟨s1,s2,s3⟩:=qiO c (ok w (by simp)) fun l m=>hl l m w (by simp);obtain⟨f1,f2⟩:=qgl S (qba acc w) s1 (fun x m=>ok x (by simp[m])) p2 fun l m x mx=>Int.le_trans (s3 l m) (p1 x mx);refine⟨f1,fun n=>?_⟩;rw[List.foldl_cons,f2,s2,mem_cons,or_assoc]
theorem ZS {w:Int×Int}{ws:List (Int×Int)} (c:zi (w::ws)):zi ws∧w.1≤w.2∧∀ n,Mem ws n->w.2+1 < n:=by
 obtain⟨h1,h2⟩:=c;obtain⟨p1,p2⟩:=List.pairwise_cons.mp h2;exact⟨⟨fun x m=>h1 x (by simp[m]),p2⟩,h1 w (by simp),fun n ⟨x,m,a,b⟩=>by have:=p1 x m;omega⟩
theorem qaR:∀ {xs ys:List (Int×Int)},zi xs->zi ys->(∀ n,Mem xs n↔Mem ys n)->xs=ys
 | [],[],_,_,_=>rfl
 | [],y::ys,_,c,h=>by
   obtain⟨_,k,_⟩:=ZS c;obtain⟨_,z,_⟩:=(h y.1).mpr ((mem_cons _ _ _).mpr (.inl ⟨Int.le_refl _,k⟩));cases z
 | x::xs,[],c,_,h=>by
   obtain⟨_,k,_⟩:=ZS c;obtain⟨_,z,_⟩:=(h x.1).mp ((mem_cons _ _ _).mpr (.inl ⟨Int.le_refl _,k⟩));cases z
 | x::xs,y::ys,c,d,h=>by
   obtain⟨c1,c2,c3⟩:=ZS c;obtain⟨d1,d2,d3⟩:=ZS d;have h':∀ n,((x.1≤n∧n≤x.2)∨Mem xs n)↔((y.1≤n∧n≤y.2)∨Mem ys n):=fun n=>by rw[← mem_cons,← mem_cons];exact h n
   have a1:y.1≤x.1:=by
     rcases (h' x.1).mp (.inl ⟨Int.le_refl _,c2⟩) with k|k
     · exact k.1
     · have:=d3 _ k;omega
   have a2:x.1≤y.1:=by
     rcases (h' y.1).mpr (.inl ⟨Int.le_refl _,d2⟩) with k|k
     · exact k.1
     · have:=c3 _ k;omega
   have b1:y.2≤x.2:=by
     rcases Int.lt_or_le x.2 y.2 with lt|le
     · rcases (h' (x.2+1)).mpr (.inl ⟨by omega,by omega⟩) with k|k
       · omega
       · have:=c3 _ k;omega
     · exact le
   have b2:x.2≤y.2:=by
     rcases Int.lt_or_le y.2 x.2 with lt|le
     · rcases (h' (y.2+1)).mp (.inl ⟨by omega,by omega⟩) with k|k
       · omega
       · have:=d3 _ k;omega
     · exact le
   have e:x=y:=Prod.ext (by omega) (by omega);subst e;rw[qaR c1 d1 fun n=>?_];constructor
   · intro k
     have:=c3 n k
     rcases (h' n).mp (.inr k) with z|z
     · omega
     · exact z
   · intro k
     have:=d3 n k
     rcases (h' n).mpr (.inr k) with z|z
     · omega
     · exact z
end M04
namespace K42
open PySem L2 PySem.NumText PyProof.Rows KC M04
open PySem.W (Frag keepIn kitOne fnOf codeIn nsIn)
def top (i:Nat):Stmt:=PySem.Challenge.pw_foldlog_k42_frames_of_logs.main.body.getD i (.Pass ⟨0,0,0,0⟩)
abbrev qd7:Stmt:=top 2
theorem qfC:qp ["spans"] ["spans"] (qg qd7):=⟨rfl,rfl,rfl,by decide +kernel,rfl,by decide +kernel,by decide +kernel⟩
abbrev qbn:Stmt:=top 4
theorem sc_frame_of:qp ["log","names","bonds"] ["log"] (qg qbn):=⟨rfl,rfl,rfl,by decide +kernel,rfl,by decide +kernel,by decide +kernel⟩
abbrev qai:Stmt:=top 23
theorem qct:qp ["thing"] ["thing"] (qg qai):=⟨rfl,rfl,rfl,by decide +kernel,rfl,by decide +kernel,by decide +kernel⟩
abbrev qbl:Stmt:=top 24
theorem qds:qp ["thing","low","high"] ["thing","low","high"] (qg qbl):=⟨rfl,rfl,rfl,by decide +kernel,rfl,by decide +kernel,by decide +kernel⟩
abbrev qaj:Stmt:=top 25
theorem qcu:qp ["thing"] ["thing"] (qg qaj):=⟨rfl,rfl,rfl,by decide +kernel,rfl,by decide +kernel,by decide +kernel⟩
abbrev Js:Stmt:=top 26
theorem qbP:qp ["thing"] ["thing"] (qg Js):=⟨rfl,rfl,rfl,by decide +kernel,rfl,by decide +kernel,by decide +kernel⟩
abbrev Jt:Stmt:=top 27
theorem qbQ:qp ["thing"] ["thing"] (qg Jt):=⟨rfl,rfl,rfl,by decide +kernel,rfl,by decide +kernel,by decide +kernel⟩
abbrev qcB:Stmt:=top 28
theorem qeJ:qp ["thing"] ["thing"] (qg qcB):=⟨rfl,rfl,rfl,by decide +kernel,rfl,by decide +kernel,by decide +kernel⟩
abbrev Jr:Stmt:=top 30
theorem qbO:qp ["thing"] ["thing"] (qg Jr):=⟨rfl,rfl,rfl,by decide +kernel,rfl,by decide +kernel,by decide +kernel⟩
abbrev QT:Stmt:=top 31
theorem sc_check_stretches:qp ["stretches","place","stretch"] ["stretches"] (qg QT):=⟨rfl,rfl,rfl,by decide +kernel,rfl,by decide +kernel,by decide +kernel⟩
abbrev qbk:Stmt:=top 32
theorem sc_spans_of:qp ["stretches","told","low","high"] ["stretches"] (qg qbk):=⟨rfl,rfl,rfl,by decide +kernel,rfl,by decide +kernel,by decide +kernel⟩
abbrev qh0:Stmt:=top 33
theorem sc_both:qp ["one","other","told","at_one","at_other","low","high"] ["one","other"] (qg qh0):=⟨rfl,rfl,rfl,by decide +kernel,rfl,by decide +kernel,by decide +kernel⟩
abbrev qbm:Stmt:=top 34
theorem qdt:qp ["spans"] ["spans"] (qg qbm):=⟨rfl,rfl,rfl,by decide +kernel,rfl,by decide +kernel,by decide +kernel⟩
abbrev Jw:Stmt:=top 38
theorem qbR:qp ["thing"] ["thing"] (qg Jw):=⟨rfl,rfl,rfl,by decide +kernel,rfl,by decide +kernel,by decide +kernel⟩
abbrev Z6:Stmt:=top 39
theorem qad:qp ["thing"] ["thing"] (qg Z6):=⟨rfl,rfl,rfl,by decide +kernel,rfl,by decide +kernel,by decide +kernel⟩
abbrev ZA:Stmt:=top 40
theorem JJ:qp ["thing"] ["thing"] (qg ZA):=⟨rfl,rfl,rfl,by decide +kernel,rfl,by decide +kernel,by decide +kernel⟩
abbrev jJ:Stmt:=top 48
theorem sc_check_parts:qp ["parts","part"] ["parts"] (qg jJ):=⟨rfl,rfl,rfl,by decide +kernel,rfl,by decide +kernel,by decide +kernel⟩
abbrev Jv:Stmt:=top 49
theorem sc_check_part:qp ["part","many"] ["part"] (qg Jv):=⟨rfl,rfl,rfl,by decide +kernel,rfl,by decide +kernel,by decide +kernel⟩
abbrev qd6:Stmt:=top 56
theorem qfB:qp ["thing","keyed"] ["thing","keyed"] (qg qd6):=⟨rfl,rfl,rfl,by decide +kernel,rfl,by decide +kernel,by decide +kernel⟩
abbrev qd5:Stmt:=top 59
theorem qfA:qp ["thing","widest"] ["thing","widest"] (qg qd5):=⟨rfl,rfl,rfl,by decide +kernel,rfl,by decide +kernel,by decide +kernel⟩
abbrev qah:Stmt:=top 60
theorem qcs:qp ["rows","place"] ["rows","place"] (qg qah):=⟨rfl,rfl,rfl,by decide +kernel,rfl,by decide +kernel,by decide +kernel⟩
abbrev Ju:Stmt:=top 61
theorem sc_check_rows:qp ["rows","most","widest","place","row"] ["rows","most","widest"] (qg Ju):=⟨rfl,rfl,rfl,by decide +kernel,rfl,by decide +kernel,by decide +kernel⟩
abbrev qfJ:Stmt:=top 67
theorem sc_Lpool:qp ["_law_script","_law_k","_law_cell","_law_first"] ["_law_script","_law_k"] (qg qfJ):=⟨rfl,rfl,rfl,by decide +kernel,rfl,by decide +kernel,by decide +kernel⟩
abbrev qfG:Stmt:=top 68
theorem sc_Ltake:qp ["_law_pool_here","_law_m","_law_found"] ["_law_pool_here","_law_m"] (qg qfG):=⟨rfl,rfl,rfl,by decide +kernel,rfl,by decide +kernel,by decide +kernel⟩
abbrev qfH:Stmt:=top 69
theorem qg3:qp ["_law_found","_law_due"] ["_law_found","_law_due"] (qg qfH):=⟨rfl,rfl,rfl,by decide +kernel,rfl,by decide +kernel,by decide +kernel⟩
abbrev qd9:Stmt:=top 70
theorem qfD:qp ["_law_pool_here","_law_wide"] ["_law_pool_here","_law_wide"] (qg qd9):=⟨rfl,rfl,rfl,by decide +kernel,rfl,by decide +kernel,by decide +kernel⟩
abbrev qfI:Stmt:=top 71
theorem sc_Lrows:qp ["_law_pool_here","_law_base","_law_wide","_law_rows_here","_law_moment","_law_k"] ["_law_pool_here","_law_base"] (qg qfI):=⟨rfl,rfl,rfl,by decide +kernel,rfl,by decide +kernel,by decide +kernel⟩
abbrev qd8:Stmt:=top 72
theorem sc_Lshown:qp ["_law_rows_here","_law_moment","_law_found","_law_start","_law_shift_here"] ["_law_rows_here","_law_moment"] (qg qd8):=⟨rfl,rfl,rfl,by decide +kernel,rfl,by decide +kernel,by decide +kernel⟩
abbrev qbs:Stmt:=top 73
theorem sc_Lbetween:qp ["_law_rows_here","_law_low","_law_high","_law_found","_law_k","_law_end","_law_first","_law_last"] ["_law_rows_here","_law_low","_law_high"] (qg qbs):=⟨rfl,rfl,rfl,by decide +kernel,rfl,by decide +kernel,by decide +kernel⟩
abbrev qh2:Stmt:=top 74
theorem sc_Lcut:qp ["_law_found","_law_low","_law_high","_law_kept","_law_first","_law_last"] ["_law_found","_law_low","_law_high"] (qg qh2):=⟨rfl,rfl,rfl,by decide +kernel,rfl,by decide +kernel,by decide +kernel⟩
abbrev zY:Stmt:=top 75
theorem sc_Lentry:qp ["_law_pool_here","_law_name_here","_law_tables","_law_base","_law_here","_law_kind","_law_place","_law_rows_here","_law_low","_law_high","_law_seen","_law_found","_law_parts","_law_by","_law_rest","_law_part"] ["_law_pool_here","_law_name_here","_law_tables","_law_base"] (qg zY):=⟨rfl,rfl,rfl,by decide +kernel,rfl,by decide +kernel,by decide +kernel⟩
abbrev qfK:Stmt:=top 76
theorem sc_Lname:qp ["_law_start","_law_k","_law_letters"] ["_law_start","_law_k"] (qg qfK):=⟨rfl,rfl,rfl,by decide +kernel,rfl,by decide +kernel,by decide +kernel⟩
abbrev qfL:Stmt:=top 77
theorem sc_Lbond:qp ["_law_pool_here","_law_heres","_law_mode","_law_later","_law_earlier","_law_minutes"] ["_law_pool_here","_law_heres","_law_mode"] (qg qfL):=⟨rfl,rfl,rfl,by decide +kernel,rfl,by decide +kernel,by decide +kernel⟩
abbrev qea:Stmt:=top 78
theorem sc_Ldrawn:qp ["_law_script","_law_most","_law_head","_law_base","_law_start","_law_tables","_law_k","_law_at","_law_mode","_law_size","_law_entries","_law_bonds","_law_heres"] ["_law_script","_law_most"] (qg qea):=⟨rfl,rfl,rfl,by decide +kernel,rfl,by decide +kernel,by decide +kernel⟩
abbrev qh1:Stmt:=top 79
theorem sc_Llog:qp ["_law_tables","_law_entries","_law_bonds","_law_log_here","_law_place","_law_rows_here","_law_entry_here","_law_found","_law_here","_law_later","_law_earlier","_law_minutes"] ["_law_tables","_law_entries","_law_bonds"] (qg qh1):=⟨rfl,rfl,rfl,by decide +kernel,rfl,by decide +kernel,by decide +kernel⟩
abbrev qcD:Stmt:=top 80
theorem sc_Lmerged:qp ["_law_found","_law_merged_here","_law_low","_law_high"] ["_law_found"] (qg qcD):=⟨rfl,rfl,rfl,by decide +kernel,rfl,by decide +kernel,by decide +kernel⟩
abbrev qfF:Stmt:=top 81
theorem sc_Ltold:qp ["_law_frame","_law_sets","_law_bonds","_law_due"] ["_law_frame","_law_sets","_law_bonds"] (qg qfF):=⟨rfl,rfl,rfl,by decide +kernel,rfl,by decide +kernel,by decide +kernel⟩
abbrev qbo:Stmt:=top 82
theorem sc_Lwithout:qp ["_law_bonds","_law_gone","_law_found","_law_later","_law_earlier","_law_minutes"] ["_law_bonds","_law_gone"] (qg qbo):=⟨rfl,rfl,rfl,by decide +kernel,rfl,by decide +kernel,by decide +kernel⟩
abbrev qj2:Stmt:=top 83
theorem sc_law:qp ["_law_script","_law_head","_law_tables","_law_entries","_law_bonds","_law_log_here","_law_sets","_law_frame","_law_place","_law_rows_here","_law_later","_law_others","_law_gone"] ["_law_script"] (qg qj2):=⟨rfl,rfl,rfl,by decide +kernel,rfl,by decide +kernel,by decide +kernel⟩
abbrev Jz:Stmt:=qM (top 3) 0
theorem qbU:qp ["self","spans","bonds"] ["self","spans","bonds"] (qg Jz):=⟨rfl,rfl,rfl,by decide +kernel,rfl,by decide +kernel,by decide +kernel⟩
abbrev jN:Stmt:=qM (top 3) 1
theorem qaX:qp ["self"] ["self"] (qg jN):=⟨rfl,rfl,rfl,by decide +kernel,rfl,by decide +kernel,by decide +kernel⟩
abbrev jO:Stmt:=qM (top 3) 2
theorem qaY:qp ["self"] ["self"] (qg jO):=⟨rfl,rfl,rfl,by decide +kernel,rfl,by decide +kernel,by decide +kernel⟩
abbrev JA:Stmt:=qM (top 41) 0
theorem qbV:qp ["self","name"] ["self","name"] (qg JA):=⟨rfl,rfl,rfl,by decide +kernel,rfl,by decide +kernel,by decide +kernel⟩
abbrev jb:Stmt:=qM (top 41) 2
theorem qaf:qp ["self"] ["self"] (qg jb):=⟨rfl,rfl,rfl,by decide +kernel,rfl,by decide +kernel,by decide +kernel⟩
abbrev jP:Stmt:=qM (top 41) 3
theorem qaZ:qp ["self","tables"] ["self","tables"] (qg jP):=⟨rfl,rfl,rfl,by decide +kernel,rfl,by decide +kernel,by decide +kernel⟩
abbrev jK:Stmt:=qM (top 42) 0
theorem qaV:qp ["self","name","low","high"] ["self","name","low","high"] (qg jK):=⟨rfl,rfl,rfl,by decide +kernel,rfl,by decide +kernel,by decide +kernel⟩
abbrev Z7:Stmt:=qM (top 42) 2
theorem qae:qp ["self","tables"] ["self","tables"] (qg Z7):=⟨rfl,rfl,rfl,by decide +kernel,rfl,by decide +kernel,by decide +kernel⟩
abbrev qcE:Stmt:=qM (top 43) 0
theorem qeK:qp ["self","name","moment"] ["self","name","moment"] (qg qcE):=⟨rfl,rfl,rfl,by decide +kernel,rfl,by decide +kernel,by decide +kernel⟩
abbrev jc:Stmt:=qM (top 44) 0
theorem qag:qp ["self","name","place","low","high"] ["self","name","place","low","high"] (qg jc):=⟨rfl,rfl,rfl,by decide +kernel,rfl,by decide +kernel,by decide +kernel⟩
abbrev Zh:Stmt:=qM (top 44) 2
theorem Ja:qp ["self"] ["self"] (qg Zh):=⟨rfl,rfl,rfl,by decide +kernel,rfl,by decide +kernel,by decide +kernel⟩
abbrev ZC:Stmt:=qM (top 44) 3
theorem JL:qp ["self","tables"] ["self","tables"] (qg ZC):=⟨rfl,rfl,rfl,by decide +kernel,rfl,by decide +kernel,by decide +kernel⟩
abbrev qak:Stmt:=qM (top 45) 0
theorem qcv:qp ["self","name","place","reading"] ["self","name","place","reading"] (qg qak):=⟨rfl,rfl,rfl,by decide +kernel,rfl,by decide +kernel,by decide +kernel⟩
abbrev Jy:Stmt:=qM (top 46) 0
theorem qbT:qp ["self","name","parts"] ["self","name","parts"] (qg Jy):=⟨rfl,rfl,rfl,by decide +kernel,rfl,by decide +kernel,by decide +kernel⟩
abbrev ja:Stmt:=qM (top 46) 3
theorem sc_Joint_places:qp ["self","told","part"] ["self"] (qg ja):=⟨rfl,rfl,rfl,by decide +kernel,rfl,by decide +kernel,by decide +kernel⟩
abbrev jM:Stmt:=qM (top 46) 4
theorem sc_Joint_spans:qp ["self","tables","told","part"] ["self","tables"] (qg jM):=⟨rfl,rfl,rfl,by decide +kernel,rfl,by decide +kernel,by decide +kernel⟩
abbrev jL:Stmt:=qM (top 47) 0
theorem qaW:qp ["self","name","part","keeps"] ["self","name","part","keeps"] (qg jL):=⟨rfl,rfl,rfl,by decide +kernel,rfl,by decide +kernel,by decide +kernel⟩
abbrev ZB:Stmt:=qM (top 47) 2
theorem JK:qp ["self"] ["self"] (qg ZB):=⟨rfl,rfl,rfl,by decide +kernel,rfl,by decide +kernel,by decide +kernel⟩
abbrev Z9:Stmt:=qM (top 47) 3
theorem sc_Sifted_spans:qp ["self","tables","keeps","told","low","high"] ["self","tables"] (qg Z9):=⟨rfl,rfl,rfl,by decide +kernel,rfl,by decide +kernel,by decide +kernel⟩
abbrev qbp:Stmt:=qM (top 57) 0
theorem qdu:qp ["self"] ["self"] (qg qbp):=⟨rfl,rfl,rfl,by decide +kernel,rfl,by decide +kernel,by decide +kernel⟩
abbrev qao:Stmt:=qM (top 57) 1
theorem qcz:qp ["self","place","table"] ["self","place","table"] (qg qao):=⟨rfl,rfl,rfl,by decide +kernel,rfl,by decide +kernel,by decide +kernel⟩
abbrev qcC:Stmt:=qM (top 57) 2
theorem sc_Log_put:qp ["self","entry","place"] ["self","entry"] (qg qcC):=⟨rfl,rfl,rfl,by decide +kernel,rfl,by decide +kernel,by decide +kernel⟩
abbrev qbr:Stmt:=qM (top 57) 3
theorem qdw:qp ["self","later","earlier","minutes"] ["self","later","earlier","minutes"] (qg qbr):=⟨rfl,rfl,rfl,by decide +kernel,rfl,by decide +kernel,by decide +kernel⟩
abbrev qbq:Stmt:=qM (top 57) 5
theorem qdv:qp ["self","name"] ["self","name"] (qg qbq):=⟨rfl,rfl,rfl,by decide +kernel,rfl,by decide +kernel,by decide +kernel⟩
abbrev QU:Stmt:=qM (top 57) 6
theorem jH:qp ["self","name"] ["self","name"] (qg QU):=⟨rfl,rfl,rfl,by decide +kernel,rfl,by decide +kernel,by decide +kernel⟩
abbrev qam:Stmt:=qM (top 57) 8
theorem qcx:qp ["self"] ["self"] (qg qam):=⟨rfl,rfl,rfl,by decide +kernel,rfl,by decide +kernel,by decide +kernel⟩
abbrev qan:Stmt:=qM (top 57) 9
theorem qcy:qp ["self","name"] ["self","name"] (qg qan):=⟨rfl,rfl,rfl,by decide +kernel,rfl,by decide +kernel,by decide +kernel⟩
abbrev qal:Stmt:=qM (top 57) 10
theorem qcw:qp ["self","name"] ["self","name"] (qg qal):=⟨rfl,rfl,rfl,by decide +kernel,rfl,by decide +kernel,by decide +kernel⟩
abbrev qap:Stmt:=qM (top 57) 11
theorem qcA:qp ["self"] ["self"] (qg qap):=⟨rfl,rfl,rfl,by decide +kernel,rfl,by decide +kernel,by decide +kernel⟩
abbrev Jx:Stmt:=qM (top 65) 0
theorem qbS:qp ["self","rows"] ["self","rows"] (qg Jx):=⟨rfl,rfl,rfl,by decide +kernel,rfl,by decide +kernel,by decide +kernel⟩
abbrev Z8:Stmt:=qM (top 65) 2
theorem sc_Table_pieces:qp ["self","ends"] ["self"] (qg Z8):=⟨rfl,rfl,rfl,by decide +kernel,rfl,by decide +kernel,by decide +kernel⟩
abbrev zR:Stmt:=qM (top 65) 6
theorem QS:qp ["self","low","high"] ["self","low","high"] (qg zR):=⟨rfl,rfl,rfl,by decide +kernel,rfl,by decide +kernel,by decide +kernel⟩
abbrev qaq:Stmt:=qM (top 6) 0
set_option genInjectivity false in
structure Ad where
 k_Lentry:Addr
 t_Lentry:Addr
 c_LogError:Addr
 c_NoSpans:Addr
 c_NoTable:Addr
 c_TooMany:Addr
 c_NoMoment:Addr
 c_NoReading:Addr
 c_NoName:Addr
 c_NoPlace:Addr
 c_NoEntry:Addr
 c_Taken:Addr
 c_NoMinutes:Addr
 c_Frame:Addr
 c_Entry:Addr
 c_Within:Addr
 c_At:Addr
 c_Between:Addr
 c_Read:Addr
 c_Joint:Addr
 c_Sifted:Addr
 c_Log:Addr
 c_Table:Addr
 f_v:Addr
 fd_v:FuncData
 f_i:Addr
 fd_i:FuncData
 f_n:Addr
 fd_n:FuncData
 f_c:Addr
 fd_c:FuncData
 f_w:Addr
 fd_w:FuncData
 f_o:Addr
 fd_o:FuncData
 f_G:Addr
 fd_G:FuncData
 f_x:Addr
 fd_x:FuncData
 f_H:Addr
 fd_H:FuncData
 f_I:Addr
 fd_I:FuncData
 f_k:Addr
 fd_k:FuncData
 f_J:Addr
 fd_J:FuncData
 f_K:Addr
 fd_K:FuncData
 f_y:Addr
 fd_y:FuncData
 f_C:Addr
 fd_C:FuncData
 f_D:Addr
 fd_D:FuncData
 f_L:Addr
 fd_L:FuncData
 f_M:Addr
 fd_M:FuncData
 f_N:Addr
 fd_N:FuncData
 f_O:Addr
 fd_O:FuncData
 f_P:Addr
 fd_P:FuncData
 f_Q:Addr
 fd_Q:FuncData
 f_m:Addr
 fd_m:FuncData
 f_a:Addr
 fd_a:FuncData
 f_d:Addr
 fd_d:FuncData
 f_E:Addr
 fd_E:FuncData
 f_R:Addr
 fd_R:FuncData
 f_S:Addr
 fd_S:FuncData
 f_p:Addr
 fd_p:FuncData
 f_T:Addr
 fd_T:FuncData
 f_F:Addr
 fd_F:FuncData
 f_U:Addr
 fd_U:FuncData
 f_V:Addr
 fd_V:FuncData
 f_W:Addr
 fd_W:FuncData
 f_X:Addr
 fd_X:FuncData
 f_Y:Addr
 fd_Y:FuncData
 f_f:Addr
 fd_f:FuncData
 f_Z:Addr
 fd_Z:FuncData
 f_ai:Addr
 fd_ai:FuncData
 f_0:Addr
 fd_0:FuncData
 f_A:Addr
 fd_A:FuncData
 f_1:Addr
 fd_1:FuncData
 f_b:Addr
 fd_b:FuncData
 f_h:Addr
 fd_h:FuncData
 f_2:Addr
 fd_2:FuncData
 f_q:Addr
 fd_q:FuncData
 f_e:Addr
 fd_e:FuncData
 f_3:Addr
 fd_3:FuncData
 f_l:Addr
 fd_l:FuncData
 f_r:Addr
 fd_r:FuncData
 f_s:Addr
 fd_s:FuncData
 f_4:Addr
 fd_4:FuncData
 f_5:Addr
 fd_5:FuncData
 f_6:Addr
 fd_6:FuncData
 f_7:Addr
 fd_7:FuncData
 f_8:Addr
 fd_8:FuncData
 f_9:Addr
 fd_9:FuncData
 f_aa:Addr
 fd_aa:FuncData
 f_ab:Addr
 fd_ab:FuncData
 f_t:Addr
 fd_t:FuncData
 f_u:Addr
 fd_u:FuncData
 f_B:Addr
 fd_B:FuncData
 f_ac:Addr
 fd_ac:FuncData
 f_j:Addr
 fd_j:FuncData
 f_ad:Addr
 fd_ad:FuncData
 f_g:Addr
 fd_g:FuncData
 f_ae:Addr
 fd_ae:FuncData
 f_af:Addr
 fd_af:FuncData
 f_z:Addr
 fd_z:FuncData
 f_ag:Addr
 fd_ag:FuncData
 f_ah:Addr
 fd_ah:FuncData
 f_aj:Addr
 fd_aj:FuncData
structure DfM (K:Frag) (C:Addr) (x q:Str) (st:Stmt) (ps:List Str) (f:Addr) (fd:FuncData):Prop where
 F:Fun K x q st f fd
 b:Binds K fd ps []
 mt:qgP K C x f
structure Txt (K:Frag) (mg:Str->Option Value) (a:Ad):Prop where
 d_v:Df K mg "copies" qd7 ["spans"] a.f_v a.fd_v
 d_i:Df K mg "frame_of" qbn ["log"] a.f_i a.fd_i
 d_n:Df K mg "is_number" qai ["thing"] a.f_n a.fd_n
 d_c:Df K mg "is_whole" qbl ["thing","low","high"] a.f_c a.fd_c
 d_w:Df K mg "is_moment" qaj ["thing"] a.f_w a.fd_w
 d_o:Df K mg "is_reading" Js ["thing"] a.f_o a.fd_o
 d_G:Df K mg "is_minutes" Jt ["thing"] a.f_G a.fd_G
 d_x:Df K mg "is_name" qcB ["thing"] a.f_x a.fd_x
 d_H:Df K mg "is_stretch" Jr ["thing"] a.f_H a.fd_H
 d_I:Df K mg "check_stretches" QT ["stretches"] a.f_I a.fd_I
 d_k:Df K mg "spans_of" qbk ["stretches"] a.f_k a.fd_k
 d_J:Df K mg "both" qh0 ["one","other"] a.f_J a.fd_J
 d_K:Df K mg "how_many" qbm ["spans"] a.f_K a.fd_K
 d_y:Df K mg "check_name" Jw ["thing"] a.f_y a.fd_y
 d_C:Df K mg "check_moment" Z6 ["thing"] a.f_C a.fd_C
 d_D:Df K mg "check_reading" ZA ["thing"] a.f_D a.fd_D
 d_L:Df K mg "check_parts" jJ ["parts"] a.f_L a.fd_L
 d_M:Df K mg "check_part" Jv ["part"] a.f_M a.fd_M
 d_N:Df K mg "is_key" qd6 ["thing","keyed"] a.f_N a.fd_N
 d_O:Df K mg "is_row" qd5 ["thing","widest"] a.f_O a.fd_O
 d_P:Df K mg "may_stand" qah ["rows","place"] a.f_P a.fd_P
 d_Q:Df K mg "check_rows" Ju ["rows","most","widest"] a.f_Q a.fd_Q
 d_m:Df K mg "_law_pool" qfJ ["_law_script","_law_k"] a.f_m a.fd_m
 d_a:Df K mg "_law_take" qfG ["_law_pool_here","_law_m"] a.f_a a.fd_a
 d_d:Df K mg "_law_same" qfH ["_law_found","_law_due"] a.f_d a.fd_d
 d_E:Df K mg "_law_shift" qd9 ["_law_pool_here","_law_wide"] a.f_E a.fd_E
 d_R:Df K mg "_law_rows" qfI ["_law_pool_here","_law_base"] a.f_R a.fd_R
 d_S:Df K mg "_law_shown" qd8 ["_law_rows_here","_law_moment"] a.f_S a.fd_S
 d_p:Df K mg "_law_between" qbs ["_law_rows_here","_law_low","_law_high"] a.f_p a.fd_p
 d_T:Df K mg "_law_cut" qh2 ["_law_found","_law_low","_law_high"] a.f_T a.fd_T
 d_F:Df K mg "_law_entry" zY ["_law_pool_here","_law_name_here","_law_tables","_law_base"] a.f_F a.fd_F
 d_U:Df K mg "_law_name" qfK ["_law_start","_law_k"] a.f_U a.fd_U
 d_V:Df K mg "_law_bond" qfL ["_law_pool_here","_law_heres","_law_mode"] a.f_V a.fd_V
 d_W:Df K mg "_law_drawn" qea ["_law_script","_law_most"] a.f_W a.fd_W
 d_X:Df K mg "_law_log" qh1 ["_law_tables","_law_entries","_law_bonds"] a.f_X a.fd_X
 d_Y:Df K mg "_law_merged" qcD ["_law_found"] a.f_Y a.fd_Y
 d_f:Df K mg "_law_told" qfF ["_law_frame","_law_sets","_law_bonds"] a.f_f a.fd_f
 d_Z:Df K mg "_law_without" qbo ["_law_bonds","_law_gone"] a.f_Z a.fd_Z
 d_ai:Df K mg "law" qj2 ["_law_script"] a.f_ai a.fd_ai
 d_0:DfM K a.c_Frame "__init__" "Frame.__init__" Jz ["self","spans","bonds"] a.f_0 a.fd_0
 d_A:DfM K a.c_Frame "spans" "Frame.spans" jN ["self"] a.f_A a.fd_A
 d_1:DfM K a.c_Frame "bonds" "Frame.bonds" jO ["self"] a.f_1 a.fd_1
 d_b:DfM K a.c_Entry "__init__" "Entry.__init__" JA ["self","name"] a.f_b a.fd_b
 d_h:DfM K a.c_Entry "places" "Entry.places" jb ["self"] a.f_h a.fd_h
 d_2:DfM K a.c_Entry "spans" "Entry.spans" jP ["self","tables"] a.f_2 a.fd_2
 d_q:DfM K a.c_Within "__init__" "Within.__init__" jK ["self","name","low","high"] a.f_q a.fd_q
 d_e:DfM K a.c_Within "spans" "Within.spans" Z7 ["self","tables"] a.f_e a.fd_e
 d_3:DfM K a.c_At "__init__" "At.__init__" qcE ["self","name","moment"] a.f_3 a.fd_3
 d_l:DfM K a.c_Between "__init__" "Between.__init__" jc ["self","name","place","low","high"] a.f_l a.fd_l
 d_r:DfM K a.c_Between "places" "Between.places" Zh ["self"] a.f_r a.fd_r
 d_s:DfM K a.c_Between "spans" "Between.spans" ZC ["self","tables"] a.f_s a.fd_s
 d_4:DfM K a.c_Read "__init__" "Read.__init__" qak ["self","name","place","reading"] a.f_4 a.fd_4
 d_5:DfM K a.c_Joint "__init__" "Joint.__init__" Jy ["self","name","parts"] a.f_5 a.fd_5
 d_6:DfM K a.c_Joint "places" "Joint.places" ja ["self"] a.f_6 a.fd_6
 d_7:DfM K a.c_Joint "spans" "Joint.spans" jM ["self","tables"] a.f_7 a.fd_7
 d_8:DfM K a.c_Sifted "__init__" "Sifted.__init__" jL ["self","name","part","keeps"] a.f_8 a.fd_8
 d_9:DfM K a.c_Sifted "places" "Sifted.places" ZB ["self"] a.f_9 a.fd_9
 d_aa:DfM K a.c_Sifted "spans" "Sifted.spans" Z9 ["self","tables"] a.f_aa a.fd_aa
 d_ab:DfM K a.c_Log "__init__" "Log.__init__" qbp ["self"] a.f_ab a.fd_ab
 d_t:DfM K a.c_Log "clock" "Log.clock" qao ["self","place","table"] a.f_t a.fd_t
 d_u:DfM K a.c_Log "put" "Log.put" qcC ["self","entry"] a.f_u a.fd_u
 d_B:DfM K a.c_Log "bind" "Log.bind" qbr ["self","later","earlier","minutes"] a.f_B a.fd_B
 d_ac:DfM K a.c_Log "drop" "Log.drop" qbq ["self","name"] a.f_ac a.fd_ac
 d_j:DfM K a.c_Log "check_entry" "Log.check_entry" QU ["self","name"] a.f_j a.fd_j
 d_ad:DfM K a.c_Log "names" "Log.names" qam ["self"] a.f_ad a.fd_ad
 d_g:DfM K a.c_Log "entry" "Log.entry" qan ["self","name"] a.f_g a.fd_g
 d_ae:DfM K a.c_Log "spans" "Log.spans" qal ["self","name"] a.f_ae a.fd_ae
 d_af:DfM K a.c_Log "bonds" "Log.bonds" qap ["self"] a.f_af a.fd_af
 d_z:DfM K a.c_Table "__init__" "Table.__init__" Jx ["self","rows"] a.f_z a.fd_z
 d_ag:DfM K a.c_Table "pieces" "Table.pieces" Z8 ["self"] a.f_ag a.fd_ag
 d_ah:DfM K a.c_Table "moments_between" "Table.moments_between" zR ["self","low","high"] a.f_ah a.fd_ah
 d_aj:DfM K a.c_LogError "__init__" "LogError.__init__" qaq ["self","text"] a.f_aj a.fd_aj
 g_Frame:mg "Frame"=some (.ref a.c_Frame)
 cl_Frame:Cls K a.c_Frame
 M_Frame:Mk K a.c_Frame a.f_0
 n_Frame_kept_spans:NoAttr K a.c_Frame "kept_spans"
 n_Frame_kept_bonds:NoAttr K a.c_Frame "kept_bonds"
 g_Entry:mg "Entry"=some (.ref a.c_Entry)
 cl_Entry:Cls K a.c_Entry
 M_Entry:Mk K a.c_Entry a.f_b
 n_Entry_name:NoAttr K a.c_Entry "name"
 g_Within:mg "Within"=some (.ref a.c_Within)
 cl_Within:Cls K a.c_Within
 M_Within:Mk K a.c_Within a.f_q
 n_Within_low:NoAttr K a.c_Within "low"
 n_Within_high:NoAttr K a.c_Within "high"
 n_Within_name:NoAttr K a.c_Within "name"
 g_At:mg "At"=some (.ref a.c_At)
 cl_At:Cls K a.c_At
 M_At:Mk K a.c_At a.f_3
 n_At_low:NoAttr K a.c_At "low"
 n_At_high:NoAttr K a.c_At "high"
 n_At_name:NoAttr K a.c_At "name"
 g_Between:mg "Between"=some (.ref a.c_Between)
 cl_Between:Cls K a.c_Between
 M_Between:Mk K a.c_Between a.f_l
 n_Between_place:NoAttr K a.c_Between "place"
 n_Between_low:NoAttr K a.c_Between "low"
 n_Between_high:NoAttr K a.c_Between "high"
 n_Between_name:NoAttr K a.c_Between "name"
 g_Read:mg "Read"=some (.ref a.c_Read)
 cl_Read:Cls K a.c_Read
 M_Read:Mk K a.c_Read a.f_4
 n_Read_place:NoAttr K a.c_Read "place"
 n_Read_low:NoAttr K a.c_Read "low"
 n_Read_high:NoAttr K a.c_Read "high"
 n_Read_name:NoAttr K a.c_Read "name"
 g_Joint:mg "Joint"=some (.ref a.c_Joint)
 cl_Joint:Cls K a.c_Joint
 M_Joint:Mk K a.c_Joint a.f_5
 n_Joint_kept_parts:NoAttr K a.c_Joint "kept_parts"
 n_Joint_name:NoAttr K a.c_Joint "name"
 g_Sifted:mg "Sifted"=some (.ref a.c_Sifted)
 cl_Sifted:Cls K a.c_Sifted
 M_Sifted:Mk K a.c_Sifted a.f_8
 n_Sifted_part:NoAttr K a.c_Sifted "part"
 n_Sifted_keeps:NoAttr K a.c_Sifted "keeps"
 n_Sifted_name:NoAttr K a.c_Sifted "name"
 g_Log:mg "Log"=some (.ref a.c_Log)
 cl_Log:Cls K a.c_Log
 M_Log:Mk K a.c_Log a.f_ab
 n_Log_tables:NoAttr K a.c_Log "tables"
 n_Log_entries:NoAttr K a.c_Log "entries"
 n_Log_bound:NoAttr K a.c_Log "bound"
 g_Table:mg "Table"=some (.ref a.c_Table)
 cl_Table:Cls K a.c_Table
 M_Table:Mk K a.c_Table a.f_z
 n_Table_kept:NoAttr K a.c_Table "kept"
 n_len:mg "len"=none
 n_max:mg "max"=none
 n_min:mg "min"=none
 n_abs:mg "abs"=none
 n_isinstance:mg "isinstance"=none
 n_range:mg "range"=none
 n_enumerate:mg "enumerate"=none
 n_int:mg "int"=none
 n_bool:mg "bool"=none
 n_str:mg "str"=none
 n_list:mg "list"=none
 n_tuple:mg "tuple"=none
 n_sorted:mg "sorted"=none
 n_sum:mg "sum"=none
 n_zip:mg "zip"=none
 n_all:mg "all"=none
 g_LAST:∃ t,mg "LAST"=some (.int 1000000000 t)
 g_WIDEST_READING:∃ t,mg "WIDEST_READING"=some (.int 10000000000 t)
 g_MOST_MINUTES:∃ t,mg "MOST_MINUTES"=some (.int 2000000001 t)
 g_LONGEST_NAME:∃ t,mg "LONGEST_NAME"=some (.int 8 t)
 g_MOST_PARTS:∃ t,mg "MOST_PARTS"=some (.int 8 t)
 g_MOST_SIFTED:∃ t,mg "MOST_SIFTED"=some (.int 1000 t)
 g_MOST_ROWS:∃ t,mg "MOST_ROWS"=some (.int 21 t)
 g_WIDEST_SHIFT:∃ t,mg "WIDEST_SHIFT"=some (.int 2880 t)
 g_MOST_PLACES:∃ t,mg "MOST_PLACES"=some (.int 6 t)
 g_MOST_ENTRIES:∃ t,mg "MOST_ENTRIES"=some (.int 60 t)
 g_MOST_BONDS:∃ t,mg "MOST_BONDS"=some (.int 100 t)
 g_LATER:∃ t,mg "LATER"=some (.int 0 t)
 g_EARLIER:∃ t,mg "EARLIER"=some (.int 1 t)
 n_ValueError:mg "ValueError"=none
 g_LogError:mg "LogError"=some (.ref a.c_LogError)
 g_NoSpans:mg "NoSpans"=some (.ref a.c_NoSpans)
 g_NoTable:mg "NoTable"=some (.ref a.c_NoTable)
 g_TooMany:mg "TooMany"=some (.ref a.c_TooMany)
 g_NoMoment:mg "NoMoment"=some (.ref a.c_NoMoment)
 g_NoReading:mg "NoReading"=some (.ref a.c_NoReading)
 g_NoName:mg "NoName"=some (.ref a.c_NoName)
 g_NoPlace:mg "NoPlace"=some (.ref a.c_NoPlace)
 g_NoEntry:mg "NoEntry"=some (.ref a.c_NoEntry)
 g_Taken:mg "Taken"=some (.ref a.c_Taken)
 g_NoMinutes:mg "NoMinutes"=some (.ref a.c_NoMinutes)
 xl_LogError:xIn K a.c_LogError=true
 ci_LogError:qgM K a.c_LogError a.f_aj
 i_Within_places:qgP K a.c_Within "places" a.f_h
 i_At_spans:qgP K a.c_At "spans" a.f_e
 i_At_places:qgP K a.c_At "places" a.f_h
 i_Read_spans:qgP K a.c_Read "spans" a.f_s
 i_Read_places:qgP K a.c_Read "places" a.f_r
 ci_Entry:qgM K a.c_Entry a.f_b
 ci_Within:qgM K a.c_Within a.f_q
 ci_Between:qgM K a.c_Between a.f_l
 mr_Frame:XMro K a.c_Frame [some a.c_Frame,none]
 io_Frame:InsF K a.c_Frame
 mr_Entry:XMro K a.c_Entry [some a.c_Entry,none]
 io_Entry:InsF K a.c_Entry
 mr_Within:XMro K a.c_Within [some a.c_Within,some a.c_Entry,none]
 io_Within:InsF K a.c_Within
 mr_At:XMro K a.c_At [some a.c_At,some a.c_Within,some a.c_Entry,none]
 io_At:InsF K a.c_At
 mr_Between:XMro K a.c_Between [some a.c_Between,some a.c_Entry,none]
 io_Between:InsF K a.c_Between
 mr_Read:XMro K a.c_Read [some a.c_Read,some a.c_Between,some a.c_Entry,none]
 io_Read:InsF K a.c_Read
 mr_Joint:XMro K a.c_Joint [some a.c_Joint,some a.c_Entry,none]
 io_Joint:InsF K a.c_Joint
 mr_Sifted:XMro K a.c_Sifted [some a.c_Sifted,some a.c_Entry,none]
 io_Sifted:InsF K a.c_Sifted
 mr_Log:XMro K a.c_Log [some a.c_Log,none]
 io_Log:InsF K a.c_Log
 mr_Table:XMro K a.c_Table [some a.c_Table,none]
 io_Table:InsF K a.c_Table
 t_Frame:qfa K a.c_Frame
 t_Entry:qfa K a.c_Entry
 t_Within:qfa K a.c_Within
 t_At:qfa K a.c_At
 t_Between:qfa K a.c_Between
 t_Read:qfa K a.c_Read
 t_Joint:qfa K a.c_Joint
 t_Sifted:qfa K a.c_Sifted
 t_Log:qfa K a.c_Log
 t_Table:qfa K a.c_Table
 ndc:([a.c_Frame,a.c_Entry,a.c_Within,a.c_At,a.c_Between,a.c_Read,a.c_Joint,a.c_Sifted,a.c_Log,a.c_Table]:List Addr).Nodup
 cd_Lentry:a.fd_F.code=.ref a.k_Lentry
 hd_Lentry:PySem.W.codeHdIn K a.k_Lentry a.t_Lentry=true
theorem zh {α β:Type}{f:α->β}{xs:List α}{i:Nat}{y:β} (h:(xs.map f)[i]?=some y):∃ x,xs[i]?=some x∧y=f x:=by
 rw[List.getElem?_map]at h
 cases e:xs[i]? with
 | none=>rw[e]at h;cases h
 | some x=>rw[e]at h;exact⟨x,rfl,(Option.some.inj h).symm⟩
def Asc (rows:List (Int×Int)):Prop:=rows.Pairwise fun a b=>a.1 < b.1
def g2 (p:Int×Int):List Int:=[p.1,p.2]
abbrev pr:Int×Int->List V:=fun p=>(g2 p).map V.int
structure Good (rows:List (Int×Int)):Prop where
 few:rows.length≤21
 fst:∃ n,rows.head?=some (0,n)
 asc:Asc rows
 ok:∀ r∈rows,0≤r.1∧r.1≤1000000000∧-2880≤r.2∧r.2≤2880
theorem qcb {α:Type}{xs:List α}{x:α} (h:xs.getLast?=some x):atI xs (-1)=some x:=by
 have hne:0 < xs.length:=List.length_pos_iff.mpr (fun z=>by rw[z]at h;cases h);unfold atI ixN;rw[if_neg (by decide),if_pos (by omega)];show xs[((-1:Int)+(xs.length:Int)).toNat]?=_;rw[tn_ xs.length,← List.getLast?_eq_getElem?];exact h
theorem qhu {n:Nat} (h:0 < n):ixN n (-1)=some (n - 1):=by
 unfold ixN;rw[if_neg (by decide),if_pos (by omega)];rw[tn_ n]
theorem TupL.last {H:Hp}{zs:List V}{ps:List (Int×Int)}{p:Int×Int} (h:TupL pr H zs ps) (e:ps.getLast?=some p):∃ t,zs.getLast?=some (.ref t)∧H t=some (.tup (pr p)):=by
 rw[List.getLast?_eq_getElem?]at e;obtain⟨t,h1,h2⟩:=h.at_ e;exact⟨t,by rw[List.getLast?_eq_getElem?,h.1];exact h1,h2⟩
theorem TupL.set {H:Hp}{zs:List V}{ps:List (Int×Int)}{i:Nat}{t:Addr}{p:Int×Int} (h:TupL pr H zs ps) (e:H t=some (.tup (pr p))):TupL pr H (zs.set i (.ref t)) (ps.set i p):=⟨by rw[List.length_set,List.length_set,h.1],fun j z y e1 e2=>by
 rw[List.getElem?_set]at e1 e2;by_cases hj:i=j
 · rw[if_pos hj]at e1 e2;split at e1
   · split at e2
     · cases e1;cases e2;exact⟨t,rfl,e⟩
     · cases e2
   · cases e1
 · rw[if_neg hj]at e1 e2
   exact h.2 j z y e1 e2⟩
inductive qlU (H:Hp) (q:Addr) (rows:List (Int×Int)):Prop
 | mk (zs:_) (h1:H q=some (.lst zs)) (h2:TupL pr H zs rows):qlU H q rows
def Rs (H:Hp) (q:Addr) (rows:List (Int×Int)):Prop:=qlU H q rows
def sgn (c:Nat):Bool:=(!decide ((⟨#[c]⟩:Str).cps.toList < ("a":Str).cps.toList)) && (!decide (("z":Str).cps.toList < (⟨#[c]⟩:Str).cps.toList))
def QZ:V->Bool
 | .str x=>decide (1≤x.length) && decide (x.length≤8) && x.cps.toList.all sgn
 | _=>false
theorem qfl {l:List Nat}{i c:Nat} (h:l[i]?=some c):l.take (i+1)=l.take i++[c]:=by
 rw[List.take_add_one,h];rfl
theorem qiT {n:Nat} (h:n≤2000):n≤sizeLine:=Nat.le_trans h (by decide)
inductive ZV (vs:List V) (H:Hp) (Q:VK):Prop
 | mk (i:_) (h1:vs=[.int i]) (h2:Q (.bl true) H):ZV vs H Q
def Zn:Sp:=fun vs H Q _=>ZV vs H Q
inductive jr (vs:List V) (H:Hp) (Q:VK):Prop
 | mk (i lo hi:Int) (h1:vs=[.int i,.int lo,.int hi]) (h2:lo≤i) (h3:i≤hi) (h4:Q (.bl true) H):jr vs H Q
def Qj:Sp:=fun vs H Q _=>jr vs H Q
inductive ZW (vs:List V) (H:Hp) (Q:VK):Prop
 | mk (i:Int) (h1:vs=[.int i]) (h2:0≤i) (h3:i≤1000000000) (h4:Q (.bl true) H):ZW vs H Q
def Zo:Sp:=fun vs H Q _=>ZW vs H Q
inductive Zm (vs:List V) (H:Hp) (Q:VK):Prop
 | mk (i:Int) (h1:vs=[.int i]) (h2:-10000000000≤i) (h3:i≤10000000000) (h4:Q (.bl true) H):Zm vs H Q
def Q2:Sp:=fun vs H Q _=>Zm vs H Q
inductive Ji (vs:List V) (H:Hp) (Q:VK):Prop
 | mk (x:Str) (h1:vs=[.str x]) (h2:QZ (.str x)=true) (h3:∀ H',Same H H'->Q (.bl true) H'):Ji vs H Q
def j8:Sp:=fun vs H Q _=>Ji vs H Q
inductive Zs (vs:List V) (H:Hp) (Q:VK):Prop
 | mk (x:Str) (h1:vs=[.str x]) (h2:QZ (.str x)=true) (h3:∀ H',Same H H'->Q .non H'):Zs vs H Q
def Q3:Sp:=fun vs H Q _=>Zs vs H Q
inductive QK (vs:List V) (H:Hp) (Q:VK):Prop
 | mk (i:Int) (h1:vs=[.int i]) (h2:0≤i) (h3:i≤1000000000) (h4:Q .non H):QK vs H Q
def Zt:Sp:=fun vs H Q _=>QK vs H Q
inductive Qz (vs:List V) (H:Hp) (Q:VK):Prop
 | mk (i:Int) (h1:vs=[.int i]) (h2:-10000000000≤i) (h3:i≤10000000000) (h4:Q .non H):Qz vs H Q
def Q9:Sp:=fun vs H Q _=>Qz vs H Q
inductive Zz (K:Frag) (vs:List V) (H:Hp) (Q:VK):Prop
 | mk (x C dx:Addr) (nm:Str) (h1:vs=[.ref x,.str nm]) (h2:H x=some (.ins C dx [])) (h3:QZ (.str nm)=true) (h4:Cls K C) (h5:NoAttr K C "name") (h6:∀ H',But x H H'->H' x=some (.ins C dx [("name",.str nm)])->Q .non H'):Zz K vs H Q
def zx (K:Frag):Sp:=fun vs H Q _=>Zz K vs H Q
inductive Zb (K:Frag) (vs:List V) (H:Hp) (Q:VK):Prop
 | mk (x C dx:Addr) (nm:Str) (lo hi:Int) (h1:vs=[.ref x,.str nm,.int lo,.int hi]) (h2:H x=some (.ins C dx [])) (h3:QZ (.str nm)=true) (h4:(0≤lo∧lo≤1000000000)) (h5:(0≤hi∧hi≤1000000000)) (h6:Cls K C) (h7:NoAttr K C "name") (h8:NoAttr K C "low") (h9:NoAttr K C "high") (h10:∀ H',But x H H'->H' x=some (.ins C dx [("name",.str nm),("low",.int lo),("high",.int hi)])->Q .non H'):Zb K vs H Q
def QE (K:Frag):Sp:=fun vs H Q _=>Zb K vs H Q
inductive Jq (a:Ad) (vs:List V) (H:Hp) (Q:VK):Prop
 | mk (x dx:Addr) (nm:Str) (m:Int) (h1:vs=[.ref x,.str nm,.int m]) (h2:H x=some (.ins a.c_At dx [])) (h3:QZ (.str nm)=true) (h4:(0≤m∧m≤1000000000)) (h5:∀ H',But x H H'->H' x=some (.ins a.c_At dx [("name",.str nm),("low",.int m),("high",.int m)])->Q .non H'):Jq a vs H Q
def qbi (a:Ad):Sp:=fun vs H Q _=>Jq a vs H Q
inductive QQ (K:Frag) (vs:List V) (H:Hp) (Q:VK):Prop
 | mk (x C dx:Addr) (nm pl:Str) (lo hi:Int) (h1:vs=[.ref x,.str nm,.str pl,.int lo,.int hi]) (h2:H x=some (.ins C dx [])) (h3:QZ (.str nm)=true) (h4:QZ (.str pl)=true) (h5:(-10000000000≤lo∧lo≤10000000000)) (h6:(-10000000000≤hi∧hi≤10000000000)) (h7:Cls K C) (h8:NoAttr K C "name") (h9:NoAttr K C "place") (h10:NoAttr K C "low") (h11:NoAttr K C "high") (h12:∀ H',But x H H'->H' x=some (.ins C dx [("name",.str nm),("place",.str pl),("low",.int lo),("high",.int hi)])->Q .non H'):QQ K vs H Q
def zQ (K:Frag):Sp:=fun vs H Q _=>QQ K vs H Q
inductive ZZ (a:Ad) (vs:List V) (H:Hp) (Q:VK):Prop
 | mk (x dx:Addr) (nm pl:Str) (m:Int) (h1:vs=[.ref x,.str nm,.str pl,.int m]) (h2:H x=some (.ins a.c_Read dx [])) (h3:QZ (.str nm)=true) (h4:QZ (.str pl)=true) (h5:(-10000000000≤m∧m≤10000000000)) (h6:∀ H',But x H H'->H' x=some (.ins a.c_Read dx [("name",.str nm),("place",.str pl),("low",.int m),("high",.int m)])->Q .non H'):ZZ a vs H Q
def Jj (a:Ad):Sp:=fun vs H Q _=>ZZ a vs H Q
inductive QP (vs:List V) (H:Hp) (Q:VK):Prop
 | mk (v:V) (h1:vs=[v]) (h2:∀ l,H l=none->Q (.ref l) (upd H l (.lst []))):QP vs H Q
def qV:Sp:=fun vs H Q _=>QP vs H Q
section
variable {P:Program}{w:World}{K:Frag}{mg:Str->Option Value}{base:Heap}
theorem JD {a:Ad} (T:Txt K mg a):FnOk P w K mg base CX0 1 a.f_n a.fd_n ["thing"] Zn:=by
 refine T.d_n.F.ok qct (fun vs H Q E h=>?_) (fun cdv A outer s H vs Q E hr h=>?_)
 · obtain⟨i,rfl,kk⟩:=h;rfl
 · obtain⟨i,rfl,kk⟩:=h;refine⟨_,(qf (qE (ZF (qk qY (by rfl) T.n_isinstance qo (qa (pv 0) (qa (zm (v:=.ty "int") rfl T.n_int ZM rfl) qb))) (jQ (qkg (qk qY (by rfl) T.n_isinstance qo (qa (pv 0) (qa (zm (v:=.ty "bool") rfl T.n_bool Jf rfl) qb)))))))),?_⟩;(try dsimp only [zw,Cx.nox]);refine⟨_,rfl,_,_,_,rfl,(by decide),rfl,true,rfl,qe9 ?_⟩;exact⟨_,rfl,_,_,_,rfl,(by decide),rfl,false,rfl,kk⟩
theorem Q7 {a:Ad} (T:Txt K mg a):FnOk P w K mg base CX0 2 a.f_c a.fd_c ["thing","low","high"] Qj:=by
 have G_n:=JD (P:=P) (w:=w) (base:=base) T;refine T.d_c.F.ok qds (fun vs H Q E h=>?_) (fun cdv A outer s H vs Q E hr h=>?_)
 · obtain⟨i,lo,hi,rfl,h1,h2,kk⟩:=h;rfl
 · obtain⟨i,lo,hi,rfl,h1,h2,kk⟩:=h;have h_n:Room (1) _:=hr.mono (by decide);refine⟨_,(qf (qE (ZF (qj G_n h_n rfl T.d_n.m T.d_n.k T.d_n.b .nil qm (qa (pv 0) qb)) (jQ (qek JM JM (pv 1) (pv 0) (pv 2)))))),?_⟩;(try dsimp only [zw,Cx.nox]);refine⟨_,rfl,i,rfl,true,rfl,qe9 ?_⟩;refine⟨_,rfl,_,rfl,_,_,rfl,rfl,_,rfl,Qg (fun _=>?_) (fun g=>absurd h1 g)⟩;refine⟨_,rfl,_,_,rfl,rfl,?_⟩;show Q (.bl (decide (i≤hi))) H;rw[decide_eq_true h2];exact kk
theorem JE {a:Ad} (T:Txt K mg a):FnOk P w K mg base CX0 3 a.f_w a.fd_w ["thing"] Zo:=by
 have G_c:=Q7 (P:=P) (w:=w) (base:=base) T;refine T.d_w.F.ok qcu (fun vs H Q E h=>?_) (fun cdv A outer s H vs Q E hr h=>?_)
 · obtain⟨i,rfl,h1,h2,kk⟩:=h;rfl
 · obtain⟨i,rfl,h1,h2,kk⟩:=h;have h_c:Room (2) _:=hr.mono (by decide);obtain⟨t_LAST,c_LAST⟩:=T.g_LAST;refine⟨_,(qf (qE (qj G_c h_c rfl T.d_c.m T.d_c.k T.d_c.b .nil qm (qa (pv 0) (qa qe (qa (za (v:=.int 1000000000) rfl c_LAST ⟨_,rfl⟩) qb)))))),?_⟩;(try dsimp only [zw,Cx.nox]);exact⟨_,rfl,i,0,1000000000,rfl,h1,h2,kk⟩
theorem jR {a:Ad} (T:Txt K mg a):FnOk P w K mg base CX0 3 a.f_o a.fd_o ["thing"] Q2:=by
 have G_c:=Q7 (P:=P) (w:=w) (base:=base) T;refine T.d_o.F.ok qbP (fun vs H Q E h=>?_) (fun cdv A outer s H vs Q E hr h=>?_)
 · obtain⟨i,rfl,h1,h2,kk⟩:=h;rfl
 · obtain⟨i,rfl,h1,h2,kk⟩:=h;have h_c:Room (2) _:=hr.mono (by decide);obtain⟨t_WIDEST_READING,c_WIDEST_READING⟩:=T.g_WIDEST_READING;refine⟨_,(qf (qE (qj G_c h_c rfl T.d_c.m T.d_c.k T.d_c.b .nil qm (qa (pv 0) (qa (jj Qi (za (v:=.int 10000000000) rfl c_WIDEST_READING ⟨_,rfl⟩)) (qa (za (v:=.int 10000000000) rfl c_WIDEST_READING ⟨_,rfl⟩) qb)))))),?_⟩;(try dsimp only [zw,Cx.nox]);exact⟨_,rfl,_,rfl,i,-10000000000,10000000000,rfl,h1,h2,kk⟩
theorem qby {a:Ad} (T:Txt K mg a):FnOk P w K mg base CX0 1 a.f_x a.fd_x ["thing"] j8:=by
 refine T.d_x.F.ok qeJ (fun vs H Q E h=>?_) (fun cdv A outer s H vs Q E hr h=>?_)
 · obtain⟨x,rfl,ok,k⟩:=h;rfl
 · obtain⟨x,rfl,ok,k⟩:=h;obtain⟨t_LONGEST_NAME,c_LONGEST_NAME⟩:=T.g_LONGEST_NAME
   refine⟨_,(qd (qS (PW.pt (qa1 (zB (zo (qk qY (by rfl) T.n_isinstance qo (qa (pv 0) (qa (zm (v:=.ty "str") rfl T.n_str j4 rfl) qb))))) (jd (zB (qg6 JM JM qe (qk qK (by rfl) T.n_len qG (qa (pv 0) qb)) (za (v:=.int 8) rfl c_LONGEST_NAME ⟨_,rfl⟩))))))
       (qf (qE qcJ))
       qA)
     (qf (qE (qk (qdd rfl) (by rfl) T.n_all qdf (qa (Qb rfl (CompOk.def ["sign"] [none]) (qke (pv 0)) (fun _ _ _ _ _=>(qq (i:=0) (show List.Nodup (["sign"]:List Str) by decide +kernel) rfl (Or.inl rfl))) (fun _ _ _ _ _=>Qa) (fun _ _ _ _ _=>(qek qcN qcN Qf (pv 0) Qf))) qb))))),?_⟩
   try dsimp only [zw,Cx.nox]
   obtain⟨⟨l1,l8⟩,al⟩:(1≤x.length∧x.length≤8)∧x.cps.toList.all sgn=true:=by
     simp only[QZ,Bool.and_eq_true,decide_eq_true_eq]at ok;exact ok
   have hx:x.length=x.cps.size:=rfl;refine⟨_,rfl,_,_,_,rfl,(by decide),rfl,true,rfl,q8 rfl ?_⟩;refine⟨_,rfl,_,_,rfl,⟨qiT (by omega),rfl⟩,_,_,rfl,rfl,_,rfl,?_⟩;refine Qg (fun h2=>?_) (fun h2=>absurd (by omega) h2);refine⟨_,_,rfl,rfl,_,rfl,?_⟩;refine qeT (fun h3=>absurd (by omega) h3) (fun h3=>?_);refine⟨_,rfl,x,rfl,fun D fD=>?_⟩;refine qhL (x:=x) (D:=D) (fun i σ H2=>∃ (s0:Option V) (bs:List Bool),σ=[s0]∧Same H H2∧H2 D=some (.lst (bs.map V.bl))∧bs=(x.cps.toList.take i).map sgn) ⟨none,[],rfl,Same.new _ fD,qc,rfl⟩ ?_ ?_
   · rintro i c σ H2 hc ⟨s0,bs,rfl,s2,hD,hb⟩;obtain⟨hi,_⟩:=Array.getElem?_eq_some_iff.mp hc;have hcl:x.cps.toList[i]?=some c:=by simpa using hc
     have hbl:bs.length≤i:=by rw[hb,List.length_map,List.length_take];omega
     refine⟨_,rfl,_,_,rfl,rfl,_,rfl,?_⟩
     have fin:∀ v:Bool,v=sgn c->∃ ys,H2 D=some (.lst ys)∧ys.length < sizeLine∧∃ (s0:Option V) (bs:List Bool),[some (V.str ⟨#[c]⟩)]=[s0]∧Same H (upd H2 D (.lst (ys++[.bl v])))∧(upd H2 D (.lst (ys++[.bl v]))) D=some (.lst (bs.map V.bl))∧bs=(x.cps.toList.take (i+1)).map sgn:=fun v e =>
       ⟨_,hD,qw (by rw[List.length_map];omega),_,bs++[v],rfl,(fun b o z=>by rw[qh (qi z fD)];exact s2 b o z),by rw[qc,List.map_append];rfl,by rw[qfl hcl,List.map_append,← hb,e];rfl⟩
     refine qkX (fun h4=>?_) (fun h4=>?_)
     · refine⟨_,_,rfl,rfl,fin _ ?_⟩;unfold sgn;rw[h4,Bool.true_and]
     · refine fin _ ?_;unfold sgn;rw[h4,Bool.false_and]
   · rintro σ H2 ⟨s0,bs,rfl,s2,hD,hb⟩;refine⟨D,bs,rfl,SqL.of hD,?_⟩
     have e:bs.all id=true:=by
       rw[hb,List.all_map];refine List.all_eq_true.mpr fun c m=>?_;exact List.all_eq_true.mp al c (List.mem_of_mem_take m)
     first
       | (rw[e];exact k H2 s2)
       | (have:=k H2 s2;simpa[e] using this)
theorem jT {a:Ad} (T:Txt K mg a):FnOk P w K mg base CX0 2 a.f_y a.fd_y ["thing"] Q3:=by
 have G_x:=qby (P:=P) (w:=w) (base:=base) T;refine T.d_y.F.ok qbR (fun vs H Q E h=>?_) (fun cdv A outer s H vs Q E hr h=>?_)
 · obtain⟨x,rfl,ok,k⟩:=h;rfl
 · obtain⟨x,rfl,ok,k⟩:=h;have h_x:Room (1) _:=hr.mono (by decide)
   refine⟨_,(qf (qS (zB (zo (qj G_x h_x rfl T.d_x.m T.d_x.k T.d_x.b .nil qm (qa (pv 0) qb))))
       (qf qO)
       qA)),?_⟩
   try dsimp only [zw,Cx.nox]
   exact⟨_,rfl,x,rfl,ok,fun H1 S1=>⟨true,rfl,q8 rfl (k H1 S1)⟩⟩
theorem qax {a:Ad} (T:Txt K mg a):FnOk P w K mg base CX0 4 a.f_C a.fd_C ["thing"] Zt:=by
 have G_w:=JE (P:=P) (w:=w) (base:=base) T;refine T.d_C.F.ok qad (fun vs H Q E h=>?_) (fun cdv A outer s H vs Q E hr h=>?_)
 · obtain⟨i,rfl,h1,h2,k⟩:=h;rfl
 · obtain⟨i,rfl,h1,h2,k⟩:=h;have h_w:Room (3) _:=hr.mono (by decide)
   refine⟨_,(qf (qS (zB (zo (qj G_w h_w rfl T.d_w.m T.d_w.k T.d_w.b .nil qm (qa (pv 0) qb))))
       (qf qO)
       qA)),?_⟩
   try dsimp only [zw,Cx.nox]
   exact⟨_,rfl,i,rfl,h1,h2,true,rfl,q8 rfl k⟩
theorem JN {a:Ad} (T:Txt K mg a):FnOk P w K mg base CX0 4 a.f_D a.fd_D ["thing"] Q9:=by
 have G_o:=jR (P:=P) (w:=w) (base:=base) T;refine T.d_D.F.ok JJ (fun vs H Q E h=>?_) (fun cdv A outer s H vs Q E hr h=>?_)
 · obtain⟨i,rfl,h1,h2,k⟩:=h;rfl
 · obtain⟨i,rfl,h1,h2,k⟩:=h;have h_o:Room (3) _:=hr.mono (by decide)
   refine⟨_,(qf (qS (zB (zo (qj G_o h_o rfl T.d_o.m T.d_o.k T.d_o.b .nil qm (qa (pv 0) qb))))
       (qf qO)
       qA)),?_⟩
   try dsimp only [zw,Cx.nox]
   exact⟨_,rfl,i,rfl,h1,h2,true,rfl,q8 rfl k⟩
theorem zG {a:Ad} (T:Txt K mg a):FnOk P w K mg base CX0 3 a.f_b a.fd_b ["self","name"] (zx K):=by
 have G_y:=jT (P:=P) (w:=w) (base:=base) T;refine T.d_b.F.ok qbV (fun vs H Q E h=>?_) (fun cdv A outer s H vs Q E hr h=>?_)
 · obtain⟨x,C,dx,nm,rfl,hx,ok,cl,na,k⟩:=h;rfl
 · obtain⟨x,C,dx,nm,rfl,hx,ok,cl,na,k⟩:=h;have h_y:Room (2) _:=hr.mono (by decide)
   refine⟨_,(qd (qD (qj G_y h_y rfl T.d_y.m T.d_y.k T.d_y.b .nil qm (qa (pv 1) qb)))
     (qf (Qe (pv 0) (pv 1) rfl))),?_⟩
   try dsimp only [zw,Cx.nox]
   refine⟨_,rfl,nm,rfl,ok,fun H1 S1=>?_⟩;exact⟨_,rfl,_,rfl,x,C,dx,_,rfl,S1 _ _ hx,cl,na,(by decide),k _ (fun b o z nb=>by rw[qh nb];exact S1 b o z) qc⟩
theorem je {a:Ad} (T:Txt K mg a):FnOk P w K mg base CX0 5 a.f_q a.fd_q ["self","name","low","high"] (QE K):=by
 have G_b:=zG (P:=P) (w:=w) (base:=base) T;have G_C:=qax (P:=P) (w:=w) (base:=base) T;refine T.d_q.F.ok qaV (fun vs H Q E h=>?_) (fun cdv A outer s H vs Q E hr h=>?_)
 · obtain⟨x,C,dx,nm,lo,hi,rfl,hx,ok,hlo,hhi,cl,n1,n2,n3,k⟩:=h;rfl
 · obtain⟨x,C,dx,nm,lo,hi,rfl,hx,ok,hlo,hhi,cl,n1,n2,n3,k⟩:=h;have h_b:Room (3+1) _:=hr.mono (by decide);have h_C:Room (4) _:=hr.mono (by decide)
   refine⟨_,(qd (qD (ZO T.ci_Entry G_b (h_b.mono (by decide)) T.d_b.b rfl T.g_Entry (qa (pv 0) (qa (pv 1) qb))))
     (qd (qD (qj G_C h_C rfl T.d_C.m T.d_C.k T.d_C.b .nil qm (qa (pv 2) qb)))
     (qd (qD (qj G_C h_C rfl T.d_C.m T.d_C.k T.d_C.b .nil qm (qa (pv 3) qb)))
     (qd (Qe (pv 0) (pv 2) rfl)
     (qf (Qe (pv 0) (pv 3) rfl)))))),?_⟩
   try dsimp only [zw,Cx.nox]
   refine⟨_,rfl,_,rfl,x,C,dx,nm,rfl,hx,ok,cl,n1,fun H1 B1 h1=>?_⟩;refine⟨_,rfl,lo,rfl,hlo.1,hlo.2,?_⟩;refine⟨_,rfl,hi,rfl,hhi.1,hhi.2,?_⟩;refine⟨_,rfl,_,rfl,x,C,dx,_,rfl,h1,cl,n2,(by simp),?_⟩;refine⟨_,rfl,_,rfl,x,C,dx,_,rfl,qc,cl,n3,(Nat.le_of_ble_eq_true rfl),?_⟩;exact k _ ((B1.put _).put _) (by rw[qc];rfl)
theorem qeN {a:Ad} (T:Txt K mg a):FnOk P w K mg base CX0 7 a.f_3 a.fd_3 ["self","name","moment"] (qbi a):=by
 have G_q:=je (P:=P) (w:=w) (base:=base) T;refine T.d_3.F.ok qeK (fun vs H Q E h=>?_) (fun cdv A outer s H vs Q E hr h=>?_)
 · obtain⟨x,dx,nm,m,rfl,hx,ok,hm,k⟩:=h;rfl
 · obtain⟨x,dx,nm,m,rfl,hx,ok,hm,k⟩:=h;have h_q:Room (5+1) _:=hr.mono (by decide);refine⟨_,(qf (qD (ZO T.ci_Within G_q (h_q.mono (by decide)) T.d_q.b rfl T.g_Within (qa (pv 0) (qa (pv 1) (qa (pv 2) (qa (pv 2) qb))))))),?_⟩;(try dsimp only [zw,Cx.nox]);exact⟨_,rfl,_,rfl,_,rfl,_,rfl,x,a.c_At,dx,nm,m,m,rfl,hx,ok,hm,hm,T.cl_At,T.n_At_name,T.n_At_low,T.n_At_high,fun H1 B1 h1=>k H1 B1 h1⟩
theorem Qq {a:Ad} (T:Txt K mg a):FnOk P w K mg base CX0 5 a.f_l a.fd_l ["self","name","place","low","high"] (zQ K):=by
 have G_b:=zG (P:=P) (w:=w) (base:=base) T;have G_y:=jT (P:=P) (w:=w) (base:=base) T;have G_D:=JN (P:=P) (w:=w) (base:=base) T;refine T.d_l.F.ok qag (fun vs H Q E h=>?_) (fun cdv A outer s H vs Q E hr h=>?_)
 · obtain⟨x,C,dx,nm,pl,lo,hi,rfl,hx,ok,okp,hlo,hhi,cl,n1,n2,n3,n4,k⟩:=h;rfl
 · obtain⟨x,C,dx,nm,pl,lo,hi,rfl,hx,ok,okp,hlo,hhi,cl,n1,n2,n3,n4,k⟩:=h;have h_b:Room (3+1) _:=hr.mono (by decide);have h_y:Room (2) _:=hr.mono (by decide);have h_D:Room (4) _:=hr.mono (by decide)
   refine⟨_,(qd (qD (ZO T.ci_Entry G_b (h_b.mono (by decide)) T.d_b.b rfl T.g_Entry (qa (pv 0) (qa (pv 1) qb))))
     (qd (qD (qj G_y h_y rfl T.d_y.m T.d_y.k T.d_y.b .nil qm (qa (pv 2) qb)))
     (qd (qD (qj G_D h_D rfl T.d_D.m T.d_D.k T.d_D.b .nil qm (qa (pv 3) qb)))
     (qd (qD (qj G_D h_D rfl T.d_D.m T.d_D.k T.d_D.b .nil qm (qa (pv 4) qb)))
     (qd (Qe (pv 0) (pv 2) rfl)
     (qd (Qe (pv 0) (pv 3) rfl)
     (qf (Qe (pv 0) (pv 4) rfl)))))))),?_⟩
   try dsimp only [zw,Cx.nox]
   refine⟨_,rfl,_,rfl,x,C,dx,nm,rfl,hx,ok,cl,n1,fun H1 B1 h1=>?_⟩;refine⟨_,rfl,pl,rfl,okp,fun H2 S2=>?_⟩;refine⟨_,rfl,lo,rfl,hlo.1,hlo.2,?_⟩;refine⟨_,rfl,hi,rfl,hhi.1,hhi.2,?_⟩;refine⟨_,rfl,_,rfl,x,C,dx,_,rfl,S2 _ _ h1,cl,n2,(by simp),?_⟩;refine⟨_,rfl,_,rfl,x,C,dx,_,rfl,qc,cl,n3,(Nat.le_of_ble_eq_true rfl),?_⟩;refine⟨_,rfl,_,rfl,x,C,dx,_,rfl,qc,cl,n4,(Nat.le_of_ble_eq_true rfl),?_⟩;exact k _ ((((B1.same S2).put _).put _).put _) (by rw[qc];rfl)
theorem qcQ {a:Ad} (T:Txt K mg a):FnOk P w K mg base CX0 7 a.f_4 a.fd_4 ["self","name","place","reading"] (Jj a):=by
 have G_l:=Qq (P:=P) (w:=w) (base:=base) T;refine T.d_4.F.ok qcv (fun vs H Q E h=>?_) (fun cdv A outer s H vs Q E hr h=>?_)
 · obtain⟨x,dx,nm,pl,m,rfl,hx,ok,okp,hm,k⟩:=h;rfl
 · obtain⟨x,dx,nm,pl,m,rfl,hx,ok,okp,hm,k⟩:=h;have h_l:Room (5+1) _:=hr.mono (by decide);refine⟨_,(qf (qD (ZO T.ci_Between G_l (h_l.mono (by decide)) T.d_l.b rfl T.g_Between (qa (pv 0) (qa (pv 1) (qa (pv 2) (qa (pv 3) (qa (pv 3) qb)))))))),?_⟩;(try dsimp only [zw,Cx.nox]);exact⟨_,rfl,_,rfl,_,rfl,_,rfl,_,rfl,x,a.c_Read,dx,nm,pl,m,m,rfl,hx,ok,okp,hm,hm,T.cl_Read,T.n_Read_name,T.n_Read_place,T.n_Read_low,T.n_Read_high,fun H1 B1 h1=>k H1 B1 h1⟩
theorem Qp {a:Ad} (T:Txt K mg a):FnOk P w K mg base CX0 1 a.f_h a.fd_h ["self"] qV:=by
 refine T.d_h.F.ok qaf (fun vs H Q E h=>?_) (fun cdv A outer s H vs Q E hr h=>?_)
 · obtain⟨v,rfl,k⟩:=h;rfl
 · obtain⟨v,rfl,k⟩:=h;refine⟨_,(qf (qE (qT qb))),?_⟩;(try dsimp only [zw,Cx.nox]);exact⟨Nat.zero_le _,fun l f=>k l f⟩
end
def SrtOk (ws:List (Int×Int)):Prop:=ws.length < 64∨(ws.length≤1000∧(ws.map g2).Pairwise (fun a b=>Q0 b a=false))
theorem SrtOk.le {ws:List (Int×Int)} (h:SrtOk ws):ws.length≤1000:=by rcases h with h|h<;>omega
theorem SrtOk.filter {ws:List (Int×Int)} (h:SrtOk ws) (p:Int×Int->Bool):SrtOk (ws.filter p):=by
 have l:=List.length_filter_le p ws;rcases h with h|⟨h,k⟩
 · exact .inl (by omega)
 · exact .inr ⟨by omega,List.Pairwise.sublist (List.Sublist.map _ List.filter_sublist) k⟩
theorem SrtOk.one (w:Int×Int):SrtOk [w]:=.inl (Nat.le_of_ble_eq_true rfl)
theorem qde:bootBuiltins "sorted"=some (.builtin "sorted"):=by decide +kernel
theorem Rs.same {H H':Hp}{q:Addr}{rows:List (Int×Int)} (h:Rs H q rows) (s:Same H H'):Rs H' q rows:=by
 obtain⟨zs,h1,h2⟩:=h;exact⟨zs,s _ _ h1,h2.same s⟩
abbrev okw (w:Int×Int):Bool:=decide (w.1≤w.2)
theorem qdn {H:Hp}{zs:List V}{ws:List (Int×Int)} (h:TupL pr H zs ws):TupI H zs (ws.map g2):=by
 refine⟨by rw[List.length_map];exact h.1,fun i z r e1 e2=>?_⟩;obtain⟨p,hp,rfl⟩:=zh e2;exact h.2 i z p e1 hp
theorem qjd {H:Hp}{zs:List V}{ws:List (Int×Int)} (h:TupI H zs (ws.map g2)):TupL pr H zs ws :=
 ⟨by have:=h.len;rwa [List.length_map]at this,fun i z p e1 e2=>h.at_ i z (g2 p) e1 (by rw[List.getElem?_map,e2];rfl)⟩
theorem qg9 {rs:List (List Int)}{fs:List (Int×Int)} (h:rs.Perm (fs.map g2)):∃ ss:List (Int×Int),rs=ss.map g2∧ss.Perm fs:=by
 refine⟨rs.map fun r=>(r.getD 0 0,r.getD 1 0),?_,?_⟩
 · rw[List.map_map];refine(List.map_id rs).symm.trans (List.map_congr_left fun r hr=>?_);obtain⟨p,_,rfl⟩:=List.mem_map.mp (h.mem_iff.mp hr);rfl
 · have:=h.map fun r=>(r.getD 0 0,r.getD 1 0)
   rw[List.map_map]at this
   rwa [show (fs.map ((fun r:List Int=>(r.getD 0 0,r.getD 1 0)) ∘ g2))=fs from (List.map_congr_left fun p _=>rfl).trans (List.map_id fs)]at this
theorem qkj {ss:List (Int×Int)} (h:(ss.map g2).Pairwise fun a b=>Q0 b a=false):ss.Pairwise fun a b=>a.1≤b.1:=by
 refine(List.pairwise_map.mp h).imp fun {a b} g=>?_;have g':Q0 [b.1,b.2] [a.1,a.2]=false:=g;unfold Q0 at g';by_cases e:b.1=a.1
 · omega
 · rw[if_neg e]at g'
   have:=of_decide_eq_false g'
   omega
theorem qku (ws:List (Int×Int)) (n:Int):Mem (ws.filter okw) n↔Mem ws n:=by
 constructor
 · rintro⟨w,hw,h⟩;exact⟨w,(List.mem_filter.mp hw).1,h⟩
 · rintro⟨w,hw,h⟩;exact⟨w,List.mem_filter.mpr ⟨hw,decide_eq_true (by omega)⟩,h⟩
theorem qhp {ss fs:List (Int×Int)} (h:ss.Perm fs) (n:Int):Mem ss n↔Mem fs n :=
 ⟨fun⟨w,hw,k⟩=>⟨w,h.mem_iff.mp hw,k⟩,fun⟨w,hw,k⟩=>⟨w,h.mem_iff.mpr hw,k⟩⟩
theorem qgj {acc:List (Int×Int)}{l w:Int×Int} (h:acc.getLast?=some l) (e:w.1≤l.2+1):qba acc w=acc.set (acc.length - 1) (l.1,if w.2 > l.2 then w.2 else l.2):=by
 unfold qba;rw[h];exact if_pos e
theorem qhz {acc:List (Int×Int)}{l w:Int×Int} (h:acc.getLast?=some l) (e:¬ w.1≤l.2+1):qba acc w=acc++[w]:=by
 unfold qba;rw[h];exact if_neg e
theorem qhA (acc:List (Int×Int)) (w:Int×Int):(qba acc w).length≤acc.length+1:=by
 unfold qba;split
 · split
   · rw[List.length_set];omega
   · rw[List.length_append];exact Nat.le_refl _
 · simp
theorem qet {ws:List (Int×Int)}{i:Nat}{w:Int×Int} (h:ws[i]?=some w):(ws.take (i+1)).foldl qba []=qba ((ws.take i).foldl qba []) w:=by
 rw[List.take_add_one,h,List.foldl_append];rfl
theorem jY (ws:List (Int×Int)):∀ i,((ws.take i).foldl qba []).length≤i
 | 0=>by simp
 | i+1=>by
   cases h:ws[i]? with
   | none =>
     have:=jY ws i
     rw[List.take_add_one,h];simp only[Option.toList,List.append_nil];omega
   | some w =>
     have:=jY ws i
     have:=qhA ((ws.take i).foldl qba []) w
     rw[qet h];omega
theorem qk8 {K:Frag}{H:Hp}{q:Addr}{zs:List V}{ws:List (Int×Int)}{Q:VK} (hq:SqL K H q zs) (tp:TupL pr H zs ws) (so:SrtOk ws)
   (k:∀ (p:Addr) (zs':List V) (rs':List (List Int)),H p=none->rs'.Perm (ws.map g2)->TupI H zs' rs'->rs'.Pairwise (fun a b=>Q0 b a=false)->Q (.ref p) (upd H p (.lst zs'))):qh5 K [.ref q] H Q∨qh4 K [.ref q] H Q:=by
 have h2:∀ r∈ws.map g2,r.length=2:=fun r hr=>by obtain⟨w,_,rfl⟩:=List.mem_map.mp hr;rfl
 rcases so with so|⟨_,up⟩
 · exact .inl ⟨q,zs,ws.map g2,2,rfl,hq,qdn tp,h2,(by decide),by rw[tp.1];exact so,k⟩
 · exact .inr ⟨q,zs,ws.map g2,2,rfl,hq,qdn tp,h2,(by decide),up,fun p fp=>k p zs _ fp (.refl _) (qdn tp) up⟩
inductive Zl (vs:List V) (H:Hp) (Q:VK):Prop
 | mk (t:Addr) (r:Int×Int) (h1:vs=[.ref t]) (h2:H t=some (.tup (pr r))) (h3:Q (.bl true) H):Zl vs H Q
def jt:Sp:=fun vs H Q _=>Zl vs H Q
inductive Qc (vs:List V) (H:Hp) (Q:VK):Prop
 | mk (q:Addr) (ws:List (Int×Int)) (h1:vs=[.ref q]) (h2:Rs H q ws) (h3:∀ H',Same H H'->Q .non H'):Qc vs H Q
def Qy:Sp:=fun vs H Q _=>Qc vs H Q
inductive jq (vs:List V) (H:Hp) (Q:VK):Prop
 | mk (q:Addr) (ws:List (Int×Int)) (h1:vs=[.ref q]) (h2:Rs H q ws) (h3:SrtOk ws) (h4:∀ (d:Addr) (r:List (Int×Int)) (H':Hp),H d=none->Same H H'->Rs H' d r->zi r->r.length≤ws.length->(∀ n,Mem r n↔Mem ws n)->Q (.ref d) H'):jq vs H Q
def Q1:Sp:=fun vs H Q _=>jq vs H Q
section
variable {P:Program}{w:World}{K:Frag}{mg:Str->Option Value}{base:Heap}
theorem qbZ {a:Ad} (T:Txt K mg a):FnOk P w K mg base CX0 2 a.f_H a.fd_H ["thing"] jt:=by
 have G_n:=JD (P:=P) (w:=w) (base:=base) T;refine T.d_H.F.ok qbO (fun vs H Q E h=>?_) (fun cdv A outer s H vs Q E hr h=>?_)
 · obtain⟨t,r,rfl,ht,kk⟩:=h;rfl
 · obtain⟨t,r,rfl,ht,kk⟩:=h;have hU:=hr.units;have h_n:Room (1) _:=hr.mono (by decide);refine⟨_,(qf (qE (ZF (qk qY (by rfl) T.n_isinstance qo (qa (pv 0) (qa (zm (v:=.ty "tuple") rfl T.n_tuple Qu rfl) qb))) (ZF (Qo (uEq hU) (qk qK (by rfl) T.n_len qG (qa (pv 0) qb)) qe (qC _)) (ZF (qj G_n h_n rfl T.d_n.m T.d_n.k T.d_n.b .nil qm (qa (qI (r:=rIx K) qx (pv 0) qe (fun _ _=>rfl)) qb)) (jQ (qj G_n h_n rfl T.d_n.m T.d_n.k T.d_n.b .nil qm (qa (qI (r:=rIx K) qx (pv 0) qe (fun _ _=>rfl)) qb)))))))),?_⟩;(try dsimp only [zw,Cx.nox]);have ty:tyN H (.ref t)=some "tuple":=by simp only[tyN];rw[ht]
   refine⟨_,rfl,_,_,_,rfl,(by decide),ty,_,rfl,Jc rfl ?_⟩;refine⟨_,rfl,_,_,rfl,.inr ⟨_,SqT.of ht,rfl⟩,.inl ⟨rfl,_,rfl,Jc (decide_eq_true rfl) ?_⟩⟩;refine⟨_,rfl,.inr (.inl ⟨t,_,_,_,rfl,rfl,SqT.of ht,rfl,_,rfl,true,rfl,qe9 ?_⟩)⟩;exact⟨_,rfl,.inr (.inl ⟨t,_,_,_,rfl,rfl,SqT.of ht,rfl,_,rfl,kk⟩)⟩
theorem jS {a:Ad} (T:Txt K mg a):FnOk P w K mg base CX0 3 a.f_I a.fd_I ["stretches"] Qy:=by
 have G_H:=qbZ (P:=P) (w:=w) (base:=base) T;refine T.d_I.F.ok sc_check_stretches (fun vs H Q E h=>?_) (fun cdv A outer s H vs Q E hr h=>?_)
 · obtain⟨q,ws,rfl,hrs,kk⟩:=h;rfl
 · obtain⟨q,ws,rfl,hrs,kk⟩:=h;have h_H:Room (2) _:=hr.mono (by decide)
   refine⟨_,(qd (qS (zB (zo (qk qY (by rfl) T.n_isinstance qo (qa (pv 0) (qa (zm (v:=.ty "list") rfl T.n_list qR rfl) qb)))))
       (qf qO)
       qA)
     (qf (zP PassesOwn.never rfl (qfR rfl T.n_enumerate (qa (pv 0) qb)) (zK rfl (qr (qq (i:=1) (sc_check_stretches.nd) rfl (Or.inl rfl)) (qr (qq (i:=2) (sc_check_stretches.nd) rfl (Or.inl rfl)) zg)))
       (qf (qS (zB (zo (qj G_H h_H rfl T.d_H.m T.d_H.k T.d_H.b .nil qm (qa (pv 2) qb))))
         (qf qO)
         qA))))),?_⟩
   try dsimp only [zw,Cx.nox]
   obtain⟨zs,hq,tp⟩:=id hrs;have ty:tyN H (.ref q)=some "list":=by simp only[tyN];rw[hq]
   refine⟨_,rfl,_,_,_,rfl,(by decide),ty,true,rfl,q8 rfl ?_⟩;refine⟨_,rfl,q,rfl,⟨zs,SqL.of hq⟩,qex (K:=K) (a:=q) (xs:=zs) (fun i σ H2=>∃ s1 s2:Option V,σ=[some (.ref q),s1,s2]∧Same H H2) ⟨none,none,rfl,Same.refl H⟩ (fun i σ H2 _ ⟨_,_,_,S⟩=>SqL.of (S _ _ hq)) ?_ ?_⟩
   · rintro i x σ H2 p hx ⟨s1,s2,rfl,S⟩ hn;have S2:Same H (upd H2 p (.tup [.int i,x])):=S.then _ hn
     obtain⟨r,t,hr',rfl,ht⟩:=tp.of hx;refine⟨p,_,rfl,SqT.of qc,rfl,_,_,rfl,_,_,rfl,rfl,?_⟩;exact⟨_,rfl,t,r,rfl,S2 _ _ ht,_,rfl,q8 rfl ⟨_,_,rfl,S2⟩⟩
   · rintro σ H2 ⟨s1,s2,rfl,S⟩;exact kk H2 S
theorem jo {a:Ad} (T:Txt K mg a):FnOk P w K mg base CX0 4 a.f_k a.fd_k ["stretches"] Q1:=by
 have G_I:=jS (P:=P) (w:=w) (base:=base) T;refine T.d_k.F.ok sc_spans_of (fun vs H Q E h=>?_) (fun cdv A outer s H vs Q E hr h=>?_)
 · obtain⟨q,ws,rfl,hrs,few,kk⟩:=h;rfl
 · obtain⟨q,ws,rfl,hrs,few,kk⟩:=h;have few1:=few.le;have h_I:Room (3) _:=hr.mono (by decide)
   refine⟨_,(qd (qD (qj G_I h_I rfl T.d_I.m T.d_I.k T.d_I.b .nil qm (qa (pv 0) qb)))
     (qd (qz (i:=1) sc_spans_of.nd rfl (Or.inl rfl) (qT qb))
     (qd (zP PassesOwn.never rfl (qX (qk (call_sortT.or qe3) (by rfl) T.n_sorted qde (qa (Qb rfl (CompOk.def ["stretch"] [none]) (qX (pv 0)) (fun _ _ _ _ _=>(qq (i:=0) (show List.Nodup (["stretch"]:List Str) by decide +kernel) rfl (Or.inl rfl))) (fun _ _ _ _ _=>(qas (qu JM (qI (r:=rIx K) qx (pv 0) qe (fun _ _=>rfl)) (qI (r:=rIx K) qx (pv 0) qe (fun _ _=>rfl)) (qC _)))) (fun _ _ _ _ _=>(pv 0))) qb))) (zK rfl (qr (qq (i:=2) (sc_spans_of.nd) rfl (Or.inl rfl)) (qr (qq (i:=3) (sc_spans_of.nd) rfl (Or.inl rfl)) zg)))
       (qf (qS (PW.pt (ZD (qej (pv 1) (fun _=>rfl)) (Qn (qu JM (pv 2) (qB Qx (qI (r:=rIx K) qx (qI (r:=rIx K) qx (pv 1) (jj Qi qe) (fun _ _=>rfl)) qe (fun _ _=>rfl)) qe) (qC _)))))
         (qf (JB (qQ (qa (qI (r:=rIx K) qx (qI (r:=rIx K) qx (pv 1) (jj Qi qe) (fun _ _=>rfl)) qe (fun _ _=>rfl)) (qa (qk (Qt rfl) (by rfl) T.n_max Qv (qa (qI (r:=rIx K) qx (qI (r:=rIx K) qx (pv 1) (jj Qi qe) (fun _ _=>rfl)) qe (fun _ _=>rfl)) (qa (pv 3) qb))) qb))) (qcI (pv 1) (jj Qi qe) jG)))
         (qf (qD (Zk PySem.F.plainAttrs_list PySem.F.slot_list_append PySem.F.type_list_append zc (pv 1) (qa (qQ (qa (pv 2) (qa (pv 3) qb))) qb)))))))
     (qf (qE (pv 1)))))),?_⟩
   try dsimp only [zw,Cx.nox]
   refine⟨_,rfl,q,ws,rfl,hrs,fun G0 S0=>?_⟩;refine⟨ql (Nat.le_of_ble_eq_true rfl),fun D fD=>?_⟩;have SD:=Same.new (.lst []) fD;have hD0:(upd G0 D (.lst [])) D=some (.lst []):=qc;obtain⟨zs,hq,tp⟩:=(hrs.same S0).same SD;(try unfold qF);(try dsimp only);generalize upd G0 D (.lst [])=G at SD hD0 hq tp ⊢;have hl:zs.length=ws.length:=tp.1;refine⟨_,rfl,q,rfl,⟨_,SqL.of hq⟩,fun C fC=>?_⟩;refine zD (K:=K) (a:=q) (xs:=zs) (D:=C) (fun i σ H2=>∃ (c0:Option V) (cs:List V),σ=[c0]∧Same G H2∧H2 C=some (.lst cs)∧TupL pr H2 cs ((ws.take i).filter okw)) ⟨none,[],rfl,Same.new _ fC,qc,.nil⟩ (fun i σ H2 _ ⟨_,_,_,S,_⟩=>SqL.of (S _ _ hq)) ?_ ?_
   · rintro i z σ H2 hz ⟨c0,cs,rfl,S,hC,tc⟩;obtain⟨r,t,hr',rfl,ht⟩:=tp.of hz;have ht2:=S _ _ ht;have et:ws.take (i+1)=ws.take i++[r]:=by rw[List.take_add_one,hr'];rfl
     have lc:cs.length≤1000:=by
       rw[tc.1];refine Nat.le_trans (List.length_filter_le _ _) ?_;rw[List.length_take];omega
     refine⟨_,rfl,.inr (.inl ⟨t,_,_,_,rfl,rfl,SqT.of ht2,rfl,_,rfl,.inr (.inl ⟨t,_,_,_,rfl,rfl,SqT.of ht2,rfl,_,_,rfl,rfl,_,rfl,Qg (fun g=>?_) (fun g=>?_)⟩)⟩)⟩
     · refine⟨_,rfl,_,hC,qw (by omega),_,cs++[.ref t],rfl,S.put fC _,qc,?_⟩;rw[et,List.filter_append,show List.filter okw [r]=[r] by simp[okw,g]];exact(tc.snoc (p:=r) ht2).put hC
     · refine⟨_,cs,rfl,S,hC,?_⟩;rw[et,List.filter_append,show List.filter okw [r]=[] by simp[okw,g],List.append_nil];exact tc
   rintro σ H2 ⟨c0,cs,rfl,S,hC,tc⟩;rw[hl,List.take_length]at tc;have okf:∀ w∈ws.filter okw,w.1≤w.2:=fun w hw=>of_decide_eq_true (List.mem_filter.mp hw).2;have lf:(ws.filter okw).length≤ws.length:=List.length_filter_le _ _;have mok:=qku ws;have sof:=few.filter okw;generalize ws.filter okw=fs at tc okf lf mok sof;refine qk8 (SqL.of hC) tc sof fun p zs' rs' fp hp tI ho=>?_;obtain⟨ss,rfl,hss⟩:=qg9 hp;have ord:=qkj ho;have oks:∀ w∈ss,w.1≤w.2:=fun w m=>okf w (hss.mem_iff.mp m);have lss:ss.length≤ws.length:=by rw[hss.length_eq];exact lf
   have tz0:TupL pr H2 zs' ss:=qjd tI;have Sp:=Same.new (.lst zs') fp;have tz:=tz0.same Sp;have hp1:(upd H2 p (.lst zs')) p=some (.lst zs'):=qc;have hD1:=Sp _ _ (S _ _ hD0);have npD:p≠D:=fun e=>by rw[e,S _ _ hD0]at fp;cases fp
   have SG:=SD.trans (S.trans Sp);(try dsimp only);generalize upd H2 p (.lst zs')=G1 at tz hp1 hD1 SG ⊢;refine⟨p,rfl,⟨_,SqL.of hp1⟩,zH (D:={ nx:=qfn (qe7 1) { nx:=fun _ H'=>Q .non H',rt:=Q },rt:=Q }) (K:=K) (a:=p) (xs:=zs') (fun i σ H3=>∃ (s2 s3:Option V) (ys:List V),σ=[some (.ref q),some (.ref D),s2,s3]∧But D G1 H3∧H3 D=some (.lst ys)∧TupL pr H3 ys ((ss.take i).foldl qba [])) ⟨none,none,[],rfl,(fun c o e _=>e),hD1,.nil⟩ (fun i σ H3 _ ⟨_,_,_,_,B,_⟩=>SqL.of (B _ _ hp1 npD)) ?_ ?_⟩
   · rintro i z σ H3 hz ⟨s2,s3,ys,rfl,B,hD,ty⟩;obtain⟨wv,t,hw,rfl,ht⟩:=tz.of hz;have ntD:t≠D:=zN ht hD1 (by intro z;cases z);have ht3:=B _ _ ht ntD;have okv:=oks wv (List.mem_of_getElem? hw)
     have ly:ys.length≤1000:=by
       have:=jY ss i
       have lti:i < ss.length:=(List.getElem?_eq_some_iff.mp hw).1;rw[ty.1];omega
     refine⟨t,_,rfl,SqT.of ht3,rfl,_,_,rfl,_,_,rfl,rfl,?_⟩;rw[qet hw];generalize (ss.take i).foldl qba []=acc at ty ⊢
     cases ea:acc.getLast? with
     | none =>
       have e0:acc=[]:=List.getLast?_eq_none_iff.mp ea;subst e0;have ey:ys=[]:=List.eq_nil_of_length_eq_zero ty.1;subst ey;refine⟨_,rfl,false,.inl ⟨_,SqL.of hD,rfl⟩,qjD (qjD ?_)⟩;refine⟨_,rfl,.inl ⟨rfl,_,SqL.of hD⟩,_,rfl,_,rfl,ql (Nat.le_of_ble_eq_true rfl),fun tt ft=>?_⟩;have St:=Same.new (.tup [.int wv.1,.int wv.2]) ft;refine⟨D,_,_,rfl,rfl,St _ _ hD,qw (by omega),?_⟩;refine⟨_,_,[]++[.ref tt],rfl,(fun c o e n=>?_),qc,?_⟩
       · rw[qh n];exact St _ _ (B c o e n)
       · exact((TupL.nil (f:=pr)).snoc (p:=wv) qc).put (St _ _ hD)
     | some l =>
       obtain⟨tl,hzl,htl⟩:=TupL.last ty ea
       have ey:true=!ys.isEmpty:=by
         cases ys with
         | nil=>cases hzl
         | cons y ys=>rfl
       refine⟨_,rfl,true,.inl ⟨_,SqL.of hD,ey⟩,qe9 ?_⟩;refine⟨_,rfl,_,rfl,_,rfl,.inl ⟨D,_,_,_,rfl,rfl,SqL.of hD,qcb hzl,.inr (.inl ⟨tl,_,_,_,rfl,rfl,SqT.of htl,rfl,.inl ⟨_,_,rfl,rfl,_,_,rfl,rfl,_,rfl,Qg (fun g=>?_) (fun g=>?_)⟩⟩)⟩⟩
       · have g':wv.1≤l.2+1:=g;refine⟨_,rfl,_,rfl,.inl ⟨D,_,_,_,rfl,rfl,SqL.of hD,qcb hzl,.inr (.inl ⟨tl,_,_,_,rfl,rfl,SqT.of htl,rfl,_,rfl,_,rfl,.inl ⟨D,_,_,_,rfl,rfl,SqL.of hD,qcb hzl,.inr (.inl ⟨tl,_,_,_,rfl,rfl,SqT.of htl,rfl,_,rfl,_,_,rfl,ql (Nat.le_of_ble_eq_true rfl),fun tt ft=>?_⟩)⟩⟩)⟩⟩;have St:=Same.new (.tup [.int l.1,.int (if wv.2 > l.2 then wv.2 else l.2)]) ft;refine⟨_,rfl,_,rfl,D,_,_,ys.length - 1,rfl,rfl,St _ _ hD,qhu (by cases ys with|nil=>cases hzl|cons y ys=>simp),?_⟩;refine⟨_,_,ys.set (ys.length - 1) (.ref tt),rfl,(fun c o e n=>?_),qc,?_⟩
         · rw[qh n];exact St _ _ (B c o e n)
         · rw[qgj ea g',← ty.1];exact(TupL.set (ty.same St) (i:=ys.length - 1) (p:=(l.1,if wv.2 > l.2 then wv.2 else l.2)) qc).put (St _ _ hD)
       · have g':¬ wv.1≤l.2+1:=g;refine⟨_,rfl,.inl ⟨rfl,_,SqL.of hD⟩,_,rfl,_,rfl,ql (Nat.le_of_ble_eq_true rfl),fun tt ft=>?_⟩;have St:=Same.new (.tup [.int wv.1,.int wv.2]) ft;refine⟨D,_,_,rfl,rfl,St _ _ hD,qw (by omega),?_⟩;refine⟨_,_,ys++[.ref tt],rfl,(fun c o e n=>?_),qc,?_⟩
         · rw[qh n];exact St _ _ (B c o e n)
         · rw[qhz ea g'];exact((ty.same St).snoc (p:=wv) qc).put (St _ _ hD)
   · rintro σ H3 ⟨s2,s3,ys,rfl,B,hD,ty⟩;have glen:=jY ss ss.length;rw[tz.1]at ty;rw[List.take_length]at ty glen;obtain⟨f1,f2⟩:=qgl ss [] ⟨fun _ z=>(nomatch z),List.Pairwise.nil⟩ oks ord fun _ z=>nomatch z;refine⟨_,rfl,kk D _ H3 (S0.none fD) (fun c o e=>?_) ⟨ys,hD,ty⟩ f1 (by omega) fun n=>?_⟩
     · have n:c≠D:=qi (S0 _ _ e) fD;exact B _ _ (SG _ _ (S0 _ _ e)) n
     · rw[f2,qhp hss,mok];exact⟨fun h=>h.elim (fun⟨_,z,_⟩=>nomatch z) id,.inr⟩
end
abbrev pr3:Int×Int×Int->List V:=fun p=>[.int p.1,.int p.2.1,.int p.2.2]
def qgq (rows:List (Int×Int)):List Int:=(rows.drop 1).map (fun r=>r.1 - 1)++[1000000000]
def nxt:List (Int×Int)->Int
 | []=>1000000000
 | r::_=>r.1 - 1
def pcs:List (Int×Int)->List (Int×Int×Int)
 | []=>[]
 | r::rs=>(r.1,nxt rs,r.2)::pcs rs
theorem jk:∀ rows:List (Int×Int),(pcs rows).length=rows.length
 | []=>rfl
 | r::rs=>by show (pcs rs).length+1=rs.length+1;rw[jk rs]
theorem qhE {rows:List (Int×Int)} (h:0 < rows.length):(qgq rows).length=rows.length:=by
 unfold qgq;rw[List.length_append,List.length_map,List.length_drop];show rows.length - 1+1=rows.length;omega
theorem qc9 (r r':Int×Int) (rs:List (Int×Int)):qgq (r::r'::rs)=(r'.1 - 1)::qgq (r'::rs):=rfl
theorem qcK:∀ (rows:List (Int×Int)) (i:Nat) (r:Int×Int) (e:Int),rows[i]?=some r->(qgq rows)[i]?=some e->(pcs rows)[i]?=some (r.1,e,r.2)
 | [],i,r,e,h,_=>by simp at h
 | [r0],i,r,e,h,h'=>by
   cases i with
   | zero=>cases h;cases h';rfl
   | succ i=>simp at h
 | r0::r1::rs,i,r,e,h,h'=>by
   cases i with
   | zero =>
     cases h;rw[qc9]at h';cases h';rfl
   | succ i =>
     rw[qc9]at h';exact qcK (r1::rs) i r e h h'
theorem qmq (zs:List V) (h:0 < zs.length):qjG zs (some 1) none=zs.drop 1:=by
 unfold qjG;rw[show HT.sIx zs.length 0 (some 1)=min 1 zs.length from HT.sIx_nat _ _ 1,HT.sIx_none,Nat.min_eq_left h];rw[List.take_of_length_le (by rw[List.length_drop];exact Nat.le_refl _)]
theorem jX {rows:List (Int×Int)} (h:Good rows):0 < rows.length:=by
 obtain⟨n,hn⟩:=h.fst
 cases rows with
 | nil=>cases hn
 | cons r rs=>exact Nat.succ_pos _
def mp (lo hi:Int) (p:Int×Int×Int):Int×Int:=(if lo - p.2.2 > p.1 then lo - p.2.2 else p.1,if hi - p.2.2 < p.2.1 then hi - p.2.2 else p.2.1)
def shw (rows:List (Int×Int)) (lo hi:Int):List (Int×Int):=(pcs rows).map (mp lo hi)
def qjE (k:Addr):List (Str×V):=qbu "kept" (.ref k) []
theorem qc7 (k:Addr):(qjE k).lookup ("kept":Str)=some (.ref k):=by
 unfold qjE;rw[zy,if_pos rfl]
theorem qgm (k:Addr) {m:Str} (h1:¬ m="kept"):(qjE k).lookup m=none:=by
 unfold qjE;rw[zy,if_neg h1];rfl
inductive qlS (a:Ad) (H:Hp) (x:Addr) (rows:List (Int×Int)):Prop
 | mk (k dx:Addr) (zs:List V) (h1:H x=some (.ins a.c_Table dx (qjE k))) (h2:H k=some (.lst zs)) (h3:TupL pr H zs rows):qlS a H x rows
def Tb (a:Ad) (H:Hp) (x:Addr) (rows:List (Int×Int)):Prop:=qlS a H x rows
inductive QM (a:Ad) (vs:List V) (H:Hp) (Q:VK):Prop
 | mk (x:Addr) (rows:List (Int×Int)) (h1:vs=[.ref x]) (h2:Tb a H x rows) (h3:Good rows) (h4:∀ (d:Addr) (zs:List V) (H':Hp),H d=none->Same H H'->H' d=some (.lst zs)->TupL pr3 H' zs (pcs rows)->Q (.ref d) H'):QM a vs H Q
def Zu (a:Ad):Sp:=fun vs H Q _=>QM a vs H Q
inductive zJ (a:Ad) (vs:List V) (H:Hp) (Q:VK):Prop
 | mk (x:Addr) (rows:List (Int×Int)) (lo hi:Int) (h1:vs=[.ref x,.int lo,.int hi]) (h2:Tb a H x rows) (h3:Good rows) (h4:(-10000000000≤lo∧lo≤10000000000)) (h5:(-10000000000≤hi∧hi≤10000000000)) (h6:∀ (d:Addr) (r:List (Int×Int)) (H':Hp),H d=none->Same H H'->Rs H' d r->zi r->r.length≤21->(∀ n,Mem r n↔Mem (shw rows lo hi) n)->Q (.ref d) H'):zJ a vs H Q
def zO (a:Ad):Sp:=fun vs H Q _=>zJ a vs H Q
section
variable {P:Program}{w:World}{K:Frag}{mg:Str->Option Value}{base:Heap}
theorem qay {a:Ad} (T:Txt K mg a):FnOk P w K mg base CX0 1 a.f_ag a.fd_ag ["self"] (Zu a):=by
 refine T.d_ag.F.ok sc_Table_pieces (fun vs H Q E h=>?_) (fun cdv A outer s H vs Q E hr h=>?_)
 · obtain⟨x,rows,rfl,⟨k,dx,zs,hx,hk,tp⟩,good,kk⟩:=h;rfl
 · obtain⟨x,rows,rfl,⟨k,dx,zs,hx,hk,tp⟩,good,kk⟩:=h;obtain⟨t_LAST,c_LAST⟩:=T.g_LAST
   refine⟨_,(qd (qz (i:=1) sc_Table_pieces.nd rfl (Or.inl rfl) (qB Qx (Qb rfl (CompOk.def ["moment","shift"] [none,none]) (qX (qha uSl (qN (pv 0) rfl) (qi5 qe) qi6)) (fun _ _ _ _ _=>(show PG _ _ (qhC K 2 _) from (zK rfl (qr (qq (i:=0) (show List.Nodup (["moment","shift"]:List Str) by decide +kernel) rfl (Or.inl rfl)) (qr (qq (i:=1) (show List.Nodup (["moment","shift"]:List Str) by decide +kernel) rfl (Or.inl rfl)) zg))))) (fun _ _ _ _ _=>Qa) (fun _ _ _ _ _=>(qB zu (pv 0) qe))) (qT (qa (za (v:=.int 1000000000) rfl c_LAST ⟨_,rfl⟩) qb))))
     (qf (qE (Qb rfl (CompOk.def ["row","end"] [none,none]) (qig rfl T.n_zip (qa (qN (pv 0) rfl) (qa (pv 1) qb))) (fun _ _ _ _ _=>(show PG _ _ (qhC K 2 _) from (zK rfl (qr (qq (i:=0) (show List.Nodup (["row","end"]:List Str) by decide +kernel) rfl (Or.inl rfl)) (qr (qq (i:=1) (show List.Nodup (["row","end"]:List Str) by decide +kernel) rfl (Or.inl rfl)) zg))))) (fun _ _ _ _ _=>Qa) (fun _ _ _ _ _=>(qQ (qa (qI (r:=rIx K) qx (pv 0) qe (fun _ _=>rfl)) (qa (pv 1) (qa (qI (r:=rIx K) qx (pv 0) qe (fun _ _=>rfl)) qb))))))))),?_⟩
   try dsimp only [zw,Cx.nox]
   have hl:zs.length=rows.length:=tp.1;have pos:=jX good;have few:=good.few;refine⟨_,rfl,x,_,dx,_,_,rfl,hx,T.cl_Table,T.n_Table_kept,qc7 _,_,rfl,.inl ⟨k,_,rfl,SqL.of hk,fun sl fsl=>?_⟩⟩;rw[qmq zs (by omega)];have B1:=Same.new (.lst (zs.drop 1)) fsl;refine⟨sl,rfl,⟨_,SqL.of qc⟩,fun D fD=>?_⟩;have B2:=B1.then (.lst []) fD
   refine zD (K:=K) (a:=sl) (xs:=zs.drop 1) (D:=D) (fun i σ H2=>∃ c0 c1:Option V,σ=[c0,c1]∧Same (upd H sl (.lst (zs.drop 1))) H2∧H2 D=some (.lst (((rows.drop 1).take i).map fun r=>V.int (r.1 - 1)))) ⟨none,none,rfl,Same.new _ fD,qc⟩ (fun i σ H2 _ ⟨_,_,_,S,_⟩=>SqL.of (S _ _ qc)) ?_ ?_
   · rintro i z σ H2 hz ⟨c0,c1,rfl,S,hD⟩;have hz':zs[i+1]?=some z:=by rw[List.getElem?_drop]at hz;rw[Nat.add_comm];exact hz
     have hi:i+1 < rows.length:=by rw[← hl];exact(List.getElem?_eq_some_iff.mp hz').1
     obtain⟨r,hr'⟩:∃ r,rows[i+1]?=some r:=⟨_,List.getElem?_eq_getElem hi⟩
     obtain⟨u,rfl,hu'⟩:=tp.2 (i+1) z r hz' hr';have hu2:=S _ _ (B1 _ _ hu');have hrd:(rows.drop 1)[i]?=some r:=by rw[List.getElem?_drop,Nat.add_comm];exact hr'
     have et:(rows.drop 1).take (i+1)=(rows.drop 1).take i++[r]:=by rw[List.take_add_one,hrd];rfl
     refine⟨u,_,rfl,SqT.of hu2,rfl,_,_,rfl,_,_,rfl,rfl,?_⟩;refine⟨_,rfl,_,_,rfl,rfl,_,hD,qw ?_,_,_,rfl,S.put fD _,?_⟩
     · rw[List.length_map,List.length_take,List.length_drop];omega
     · rw[qc,et,List.map_append];rfl
   rintro σ H2 ⟨c0,c1,rfl,S,hD⟩;rw[List.length_drop,hl,show rows.length - 1=(rows.drop 1).length by rw[List.length_drop],List.take_length]at hD;refine⟨ql (Nat.le_of_ble_eq_true rfl),fun l1 fl1=>?_⟩;have C1:=Same.new (.lst [.int 1000000000]) fl1;refine .inr (.inl ⟨D,l1,_,_,rfl,rfl,C1 _ _ hD,qc,qw (by rw[List.length_map,List.length_drop];omega),fun e fe=>?_⟩)
   have he:(upd (upd H2 l1 (.lst [.int 1000000000])) e (.lst (((rows.drop 1).map fun r=>V.int (r.1 - 1))++[.int 1000000000]))) e=some (.lst ((qgq rows).map V.int)):=by
     rw[qc];unfold qgq;rw[List.map_append,List.map_map];rfl
   have C2:=Same.new (.lst (((rows.drop 1).map fun r=>V.int (r.1 - 1))++[.int 1000000000])) fe;have SS:=((B1.trans S).trans C1).trans C2;(try dsimp only);generalize upd (upd H2 l1 (.lst [.int 1000000000])) e (.lst (((rows.drop 1).map fun r=>V.int (r.1 - 1))++[.int 1000000000]))=G at he SS ⊢;have hkG:=SS _ _ hk;have tpG:=tp.same SS;refine⟨_,rfl,x,_,dx,_,_,rfl,(SS _ _ hx),T.cl_Table,T.n_Table_kept,qc7 _,_,rfl,false,k,e,rfl,⟨_,SqL.of hkG⟩,⟨_,SqL.of he⟩,fun D2 fD2=>?_⟩;have el:zs.length=((qgq rows).map V.int).length:=by rw[List.length_map,qhE pos,hl]
   refine qez (K:=K) (t:=false) (a:=k) (b:=e) (xs:=zs) (ys:=(qgq rows).map V.int) (D:=D2) (fun i σ H3=>∃ (c0 c1:Option V) (ws:List V),σ=[c0,c1]∧Same G H3∧H3 D2=some (.lst ws)∧TupL pr3 H3 ws ((pcs rows).take i)) el ⟨none,none,[],rfl,Same.new _ fD2,qc,.nil⟩ (fun i σ H3 _ ⟨_,_,_,_,S3,_⟩=>⟨SqL.of (S3 _ _ hkG),SqL.of (S3 _ _ he)⟩) ?_ ?_
   · rintro i z y σ H3 p hz hy ⟨c0,c1,ws,rfl,S3,hD2,tw⟩ fp;obtain⟨ey,hey,rfl⟩:=zh hy;obtain⟨r,u,hr',rfl,hu'⟩:=tpG.of hz;have hpc:=qcK rows i r ey hr' hey;have P1:=Same.new (.tup [.ref u,.int ey]) fp;have S4:=S3.trans P1;have hu2:=S4 _ _ hu';have et:(pcs rows).take (i+1)=(pcs rows).take i++[(r.1,ey,r.2)]:=by rw[List.take_add_one,hpc];rfl
     refine⟨p,_,rfl,SqT.of qc,rfl,_,_,rfl,_,_,rfl,rfl,?_⟩;refine⟨_,rfl,.inr (.inl ⟨u,_,_,_,rfl,rfl,SqT.of hu2,rfl,_,rfl,_,rfl,.inr (.inl ⟨u,_,_,_,rfl,rfl,SqT.of hu2,rfl,ql (Nat.le_of_ble_eq_true rfl),fun tt ft=>?_⟩)⟩)⟩;have P2:=Same.new (.tup [.int r.1,.int ey,.int r.2]) ft;have hD3:=P2 _ _ (P1 _ _ hD2);have lw:ws.length≤21:=by rw[tw.1,List.length_take,jk];omega
     refine⟨_,hD3,qw (by omega),_,_,ws++[.ref tt],rfl,(S4.trans P2).put fD2 _,qc,?_⟩;rw[et];exact(((tw.same P1).same P2).snoc (p:=(r.1,ey,r.2)) qc).put hD3
   · rintro σ H3 ⟨c0,c1,ws,rfl,S3,hD2,tw⟩;rw[hl,show rows.length=(pcs rows).length by rw[jk],List.take_length]at tw;exact kk D2 ws H3 (SS.none fD2) (SS.trans S3) hD2 tw
theorem QX {a:Ad} (T:Txt K mg a):FnOk P w K mg base CX0 5 a.f_ah a.fd_ah ["self","low","high"] (zO a):=by
 have G_k:=jo (P:=P) (w:=w) (base:=base) T;have G_o:=jR (P:=P) (w:=w) (base:=base) T;have G_ag:=qay (P:=P) (w:=w) (base:=base) T;refine T.d_ah.F.ok QS (fun vs H Q E h=>?_) (fun cdv A outer s H vs Q E hr h=>?_)
 · obtain⟨x,rows,lo,hi,rfl,tb,good,hlo,hhi,kk⟩:=h;rfl
 · obtain⟨x,rows,lo,hi,rfl,tb,good,hlo,hhi,kk⟩:=h;have h_k:Room (4) _:=hr.mono (by decide);have h_o:Room (3) _:=hr.mono (by decide);have h_ag:Room (1) _:=hr.mono (by decide)
   refine⟨_,(qd (qS (zB (zo (qj G_o h_o rfl T.d_o.m T.d_o.k T.d_o.b .nil qm (qa (pv 1) qb))))
       (qf qO)
       qA)
     (qd (qS (zB (zo (qj G_o h_o rfl T.d_o.m T.d_o.k T.d_o.b .nil qm (qa (pv 2) qb))))
       (qf qO)
       qA)
     (qf (qE (qj G_k h_k rfl T.d_k.m T.d_k.k T.d_k.b .nil qm (qa (Qb rfl (CompOk.def ["start","end","shift","low","high"] [none,none,none,some 1,some 2]) (qX (zr (pv 0) T.cl_Table T.d_ag.mt G_ag h_ag T.d_ag.b .nil qm)) (fun _ _ _ _ _=>(show PG _ _ (qhC K 3 _) from (zK rfl (qr (qq (i:=0) (show List.Nodup (["start","end","shift","low","high"]:List Str) by decide +kernel) rfl (Or.inl rfl)) (qr (qq (i:=1) (show List.Nodup (["start","end","shift","low","high"]:List Str) by decide +kernel) rfl (Or.inl rfl)) (qr (qq (i:=2) (show List.Nodup (["start","end","shift","low","high"]:List Str) by decide +kernel) rfl (Or.inl rfl)) zg)))))) (fun _ _ _ _ _=>Qa) (fun _ _ _ _ _=>(qQ (qa (qk (Qt rfl) (by rfl) T.n_max Qv (qa (pv 0) (qa (qB zu (pv 3) (pv 2)) qb))) (qa (qk (ZK rfl) (by rfl) T.n_min ZL (qa (pv 1) (qa (qB zu (pv 4) (pv 2)) qb))) qb))))) qb)))))),?_⟩
   try dsimp only [zw,Cx.nox]
   have lp:=jk rows;have few:=good.few;obtain⟨k0,dx,zs0,hx,hk0,tp0⟩:=id tb;refine⟨_,rfl,lo,rfl,hlo.1,hlo.2,true,rfl,q8 rfl ?_⟩;refine⟨_,rfl,hi,rfl,hhi.1,hhi.2,true,rfl,q8 rfl ?_⟩;refine⟨_,rfl,x,dx,_,rfl,hx,qgm _ (by decide),x,rows,rfl,tb,good,fun d zs H1 fd S1 hd tz=>⟨d,rfl,⟨_,SqL.of hd⟩,fun C fC=>?_⟩⟩;refine zD (K:=K) (a:=d) (xs:=zs) (D:=C) (fun i σ H2=>∃ (c0 c1 c2:Option V) (cs:List V),σ=[c0,c1,c2,some (.int lo),some (.int hi)]∧Same H1 H2∧H2 C=some (.lst cs)∧TupL pr H2 cs (((pcs rows).take i).map (mp lo hi))) ⟨none,none,none,[],rfl,Same.new _ fC,qc,.nil⟩ (fun i σ H2 _ ⟨_,_,_,_,_,S,_⟩=>SqL.of (S _ _ hd)) ?_ ?_
   · rintro i z σ H2 hz ⟨c0,c1,c2,cs,rfl,S,hC,tc⟩;obtain⟨r,u,hr',rfl,hu'⟩:=tz.of hz;have hu2:=S _ _ hu';have et:(pcs rows).take (i+1)=(pcs rows).take i++[r]:=by rw[List.take_add_one,hr'];rfl
     have lc:cs.length≤21:=by rw[tc.1,List.length_map,List.length_take];omega
     refine⟨u,_,rfl,SqT.of hu2,rfl,_,_,rfl,_,_,rfl,_,_,rfl,rfl,?_⟩;refine⟨_,rfl,_,rfl,_,rfl,_,_,rfl,rfl,_,_,rfl,_,rfl,_,rfl,_,rfl,_,_,rfl,rfl,_,_,rfl,ql (Nat.le_of_ble_eq_true rfl),fun tt ft=>?_⟩;have St:=Same.new (.tup (pr (mp lo hi r))) ft;have hC2:=St _ _ hC;refine⟨_,hC2,qw (by omega),_,_,_,cs++[.ref tt],rfl,(S.trans St).put fC _,qc,?_⟩;rw[et,List.map_append];exact((tc.same St).snoc (p:=mp lo hi r) qc).put hC2
   rintro σ H2 ⟨c0,c1,c2,cs,rfl,S,hC,tc⟩;rw[tz.1,List.take_length]at tc;refine⟨C,(pcs rows).map (mp lo hi),rfl,⟨cs,hC,tc⟩,.inl (by rw[List.length_map];omega),fun e r H3 fe S3 R can lr mem=>?_⟩;rw[List.length_map]at lr;exact kk e r H3 ((S1.trans S).none fe) ((S1.trans S).trans S3) R can (by omega) mem
end
abbrev fsW (nm:Str) (lo hi:Int):List (Str×V):=[("name",.str nm),("low",.int lo),("high",.int hi)]
abbrev fsB (nm pl:Str) (lo hi:Int):List (Str×V):=[("name",.str nm),("place",.str pl),("low",.int lo),("high",.int hi)]
inductive Zg (vs:List V) (H:Hp) (Q:VK):Prop
 | mk (v u:V) (h1:vs=[v,u]) (h2:∀ (d:Addr) (H':Hp),H d=none->Same H H'->Rs H' d [(0,1000000000)]->Q (.ref d) H'):Zg vs H Q
def QH:Sp:=fun vs H Q _=>Zg vs H Q
inductive QL (K:Frag) (vs:List V) (H:Hp) (Q:VK):Prop
 | mk (x C dx:Addr) (nm:Str) (lo hi:Int) (u:V) (h1:vs=[.ref x,u]) (h2:H x=some (.ins C dx (fsW nm lo hi))) (h3:Cls K C) (h4:NoAttr K C "low") (h5:NoAttr K C "high") (h6:∀ (d:Addr) (r:List (Int×Int)) (H':Hp),H d=none->Same H H'->Rs H' d r->zi r->r.length≤1->(∀ n,Mem r n↔Mem [(lo,hi)] n)->Q (.ref d) H'):QL K vs H Q
def qU (K:Frag):Sp:=fun vs H Q _=>QL K vs H Q
inductive Qm (K:Frag) (vs:List V) (H:Hp) (Q:VK):Prop
 | mk (x C dx:Addr) (nm pl:Str) (lo hi:Int) (h1:vs=[.ref x]) (h2:H x=some (.ins C dx (fsB nm pl lo hi))) (h3:Cls K C) (h4:NoAttr K C "place") (h5:∀ l,H l=none->Q (.ref l) (upd H l (.lst [.str pl]))):Qm K vs H Q
def qZ (K:Frag):Sp:=fun vs H Q _=>Qm K vs H Q
theorem qbx {H:Hp}{t d:Addr}{w:Int×Int} (h1:H t=some (.tup (pr w))) (h2:H d=some (.lst [.ref t])):Rs H d [w]:=by
 refine⟨_,h2,rfl,fun j z y e1 e2=>?_⟩
 cases j with
 | zero=>cases e1;cases e2;exact⟨t,rfl,h1⟩
 | succ j=>cases e1
section
variable {P:Program}{w:World}{K:Frag}{mg:Str->Option Value}{base:Heap}
theorem qa6 {a:Ad} (T:Txt K mg a):FnOk P w K mg base CX0 1 a.f_2 a.fd_2 ["self","tables"] QH:=by
 refine T.d_2.F.ok qaZ (fun vs H Q E h=>?_) (fun cdv A outer s H vs Q E hr h=>?_)
 · obtain⟨v,u,rfl,kk⟩:=h;rfl
 · obtain⟨v,u,rfl,kk⟩:=h;obtain⟨t_LAST,c_LAST⟩:=T.g_LAST;refine⟨_,(qf (qE (qT (qa (qQ (qa qe (qa (za (v:=.int 1000000000) rfl c_LAST ⟨_,rfl⟩) qb))) qb)))),?_⟩;(try dsimp only [zw,Cx.nox]);refine⟨ql (Nat.le_of_ble_eq_true rfl),fun t ft=>⟨ql (Nat.le_of_ble_eq_true rfl),fun d fd=>?_⟩⟩;have S1:=Same.new (.tup [.int 0,.int 1000000000]) ft;have S2:=Same.new (.lst [.ref t]) fd;exact kk d _ (S1.none fd) (S1.trans S2) (qbx (w:=(0,1000000000)) (S2 _ _ qc) qc)
theorem zS {a:Ad} (T:Txt K mg a):FnOk P w K mg base CX0 5 a.f_e a.fd_e ["self","tables"] (qU K):=by
 have G_k:=jo (P:=P) (w:=w) (base:=base) T;refine T.d_e.F.ok qae (fun vs H Q E h=>?_) (fun cdv A outer s H vs Q E hr h=>?_)
 · obtain⟨x,C,dx,nm,lo,hi,u,rfl,hx,cl,n1,n2,kk⟩:=h;rfl
 · obtain⟨x,C,dx,nm,lo,hi,u,rfl,hx,cl,n1,n2,kk⟩:=h;have h_k:Room (4) _:=hr.mono (by decide);refine⟨_,(qf (qE (qj G_k h_k rfl T.d_k.m T.d_k.k T.d_k.b .nil qm (qa (qT (qa (qQ (qa (qN (pv 0) rfl) (qa (qN (pv 0) rfl) qb))) qb)) qb)))),?_⟩;(try dsimp only [zw,Cx.nox]);refine⟨_,rfl,x,_,dx,_,_,rfl,hx,cl,n1,rfl,_,rfl,x,_,dx,_,_,rfl,hx,cl,n2,rfl,ql (Nat.le_of_ble_eq_true rfl),fun t ft=>⟨ql (Nat.le_of_ble_eq_true rfl),fun d fd=>?_⟩⟩;have S1:=Same.new (.tup [.int lo,.int hi]) ft;have S2:=Same.new (.lst [.ref t]) fd;refine⟨d,[(lo,hi)],rfl,qbx (w:=(lo,hi)) (S2 _ _ qc) qc,.one _,fun e r H3 fe S3 R can lr mem=>?_⟩;exact kk e r H3 ((S1.trans S2).none fe) ((S1.trans S2).trans S3) R can lr mem
theorem QY {a:Ad} (T:Txt K mg a):FnOk P w K mg base CX0 1 a.f_r a.fd_r ["self"] (qZ K):=by
 refine T.d_r.F.ok Ja (fun vs H Q E h=>?_) (fun cdv A outer s H vs Q E hr h=>?_)
 · obtain⟨x,C,dx,nm,pl,lo,hi,rfl,hx,cl,n1,kk⟩:=h;rfl
 · obtain⟨x,C,dx,nm,pl,lo,hi,rfl,hx,cl,n1,kk⟩:=h;refine⟨_,(qf (qE (qT (qa (qN (pv 0) rfl) qb)))),?_⟩;(try dsimp only [zw,Cx.nox]);exact⟨_,rfl,x,_,dx,_,_,rfl,hx,cl,n1,rfl,ql (Nat.le_of_ble_eq_true rfl),fun l fl=>kk l fl⟩
end
theorem Good.ne {rows:List (Int×Int)} (h:Good rows):0 < rows.length:=jX h
inductive JU (vs:List V) (H:Hp) (Q:VK):Prop
 | mk (t:Addr) (r:Int×Int) (w:Int) (h1:vs=[.ref t,.int w]) (h2:H t=some (.tup (pr r))) (h3:0≤r.1) (h4:r.1≤1000000000) (h5:-w≤r.2) (h6:r.2≤w) (h7:Q (.bl true) H):JU vs H Q
def qci:Sp:=fun vs H Q _=>JU vs H Q
inductive ZU (vs:List V) (H:Hp) (Q:VK):Prop
 | mk (q:Addr) (i:Nat) (rows:List (Int×Int)) (h1:vs=[.ref q,.int i]) (h2:Rs H q rows) (h3:Good rows) (h4:i < rows.length) (h5:Q (.bl true) H):ZU vs H Q
def Jh:Sp:=fun vs H Q _=>ZU vs H Q
inductive Zq (vs:List V) (H:Hp) (Q:VK):Prop
 | mk (q:Addr) (rows:List (Int×Int)) (h1:vs=[.ref q,.int 21,.int 2880]) (h2:Rs H q rows) (h3:Good rows) (h4:∀ H',Same H H'->Q .non H'):Zq vs H Q
def jx:Sp:=fun vs H Q _=>Zq vs H Q
inductive Zv (a:Ad) (vs:List V) (H:Hp) (Q:VK):Prop
 | mk (x dx q:Addr) (rows:List (Int×Int)) (h1:vs=[.ref x,.ref q]) (h2:H x=some (.ins a.c_Table dx [])) (h3:Rs H q rows) (h4:Good rows) (h5:∀ H',But x H H'->Tb a H' x rows->Q .non H'):Zv a vs H Q
def Q4 (a:Ad):Sp:=fun vs H Q _=>Zv a vs H Q
section
variable {P:Program}{w:World}{K:Frag}{mg:Str->Option Value}{base:Heap}
theorem qfT {a:Ad} (T:Txt K mg a):FnOk P w K mg base CX0 4 a.f_O a.fd_O ["thing","widest"] qci:=by
 have G_w:=JE (P:=P) (w:=w) (base:=base) T;have G_c:=Q7 (P:=P) (w:=w) (base:=base) T;refine T.d_O.F.ok qfA (fun vs H Q E h=>?_) (fun cdv A outer s H vs Q E hr h=>?_)
 · obtain⟨t,r,w,rfl,ht,h1,h2,h3,h4,kk⟩:=h;rfl
 · obtain⟨t,r,w,rfl,ht,h1,h2,h3,h4,kk⟩:=h;have hU:=hr.units;have h_w:Room (3) _:=hr.mono (by decide);have h_c:Room (2) _:=hr.mono (by decide)
   refine⟨_,(qd (qS (PW.pt (qa1 (zB (zo (qk qY (by rfl) T.n_isinstance qo (qa (pv 0) (qa (zm (v:=.ty "tuple") rfl T.n_tuple Qu rfl) qb))))) (jd (qu (uNe hU) (qk qK (by rfl) T.n_len qG (qa (pv 0) qb)) qe (qC _)))))
       (qf (qE qcJ))
       qA)
     (qf (qE (ZF (qj G_w h_w rfl T.d_w.m T.d_w.k T.d_w.b .nil qm (qa (qI (r:=rIx K) qx (pv 0) qe (fun _ _=>rfl)) qb)) (jQ (qj G_c h_c rfl T.d_c.m T.d_c.k T.d_c.b .nil qm (qa (qI (r:=rIx K) qx (pv 0) qe (fun _ _=>rfl)) (qa (jj Qi (pv 1)) (qa (pv 1) qb))))))))),?_⟩
   try dsimp only [zw,Cx.nox]
   have ty:tyN H (.ref t)=some "tuple":=by simp only[tyN];rw[ht]
   refine⟨_,rfl,_,_,_,rfl,(by decide),ty,true,rfl,q8 rfl ?_⟩;refine⟨_,rfl,_,_,rfl,.inr ⟨_,SqT.of ht,rfl⟩,.inl ⟨rfl,_,rfl,qeT (fun g=>absurd rfl g) (fun _=>?_)⟩⟩;refine⟨_,rfl,.inr (.inl ⟨t,_,_,_,rfl,rfl,SqT.of ht,rfl,r.1,rfl,h1,h2,true,rfl,qe9 ?_⟩)⟩;exact⟨_,rfl,.inr (.inl ⟨t,_,_,_,rfl,rfl,SqT.of ht,rfl,_,rfl,_,rfl,_,rfl,r.2,-w,w,rfl,h3,h4,kk⟩)⟩
theorem qcO {a:Ad} (T:Txt K mg a):FnOk P w K mg base CX0 1 a.f_P a.fd_P ["rows","place"] Jh:=by
 refine T.d_P.F.ok qcs (fun vs H Q E h=>?_) (fun cdv A outer s H vs Q E hr h=>?_)
 · obtain⟨q,i,rows,rfl,⟨zs,hq,tp⟩,good,hi,kk⟩:=h;rfl
 · obtain⟨q,i,rows,rfl,⟨zs,hq,tp⟩,good,hi,kk⟩:=h;have hU:=hr.units
   refine⟨_,(qd (qS (qu (uEq hU) (pv 1) qe (qC _))
       (qf (qE (Qo (uEq hU) (qI (r:=rIx K) qx (qI (r:=rIx K) qx (pv 0) qe (fun _ _=>rfl)) qe (fun _ _=>rfl)) qe (qC _))))
       qA)
     (qf (qE (Qo qaw (qI (r:=rIx K) qx (qI (r:=rIx K) qx (pv 0) (pv 1) (fun _ _=>rfl)) qe (fun _ _=>rfl)) (qI (r:=rIx K) qx (qI (r:=rIx K) qx (pv 0) (qB zu (pv 1) qe) (fun _ _=>rfl)) qe (fun _ _=>rfl)) (qC _))))),?_⟩
   try dsimp only [zw,Cx.nox]
   refine⟨_,rfl,.inl ⟨rfl,_,rfl,?_⟩⟩;obtain⟨r,hr'⟩:∃ r,rows[i]?=some r:=⟨_,List.getElem?_eq_getElem hi⟩
   obtain⟨t,hz,ht⟩:=tp.at_ hr';refine Qg (fun g=>?_) (fun g=>?_)
   · have g0:i=0:=by injection g with g;omega
     subst g0;obtain⟨n,hn⟩:=good.fst
     have e:r=(0,n):=by
       rw[List.head?_eq_getElem?,hr']at hn;exact Option.some.inj hn
     subst e;refine⟨_,rfl,.inl ⟨q,_,_,_,rfl,rfl,SqL.of hq,zA hz,.inr (.inl ⟨t,_,_,_,rfl,rfl,SqT.of ht,rfl,.inl ⟨rfl,?_⟩⟩)⟩⟩;exact kk
   · have g1:0 < i:=by
       refine Nat.pos_of_ne_zero fun z=>g ?_;rw[z];rfl
     obtain⟨r0,hr0⟩:∃ r,rows[i - 1]?=some r:=⟨_,List.getElem?_eq_getElem (by omega)⟩
     obtain⟨t0,hz0,ht0⟩:=tp.at_ hr0
     have lt:r0.1 < r.1:=by
       obtain⟨l1,e1⟩:=List.getElem?_eq_some_iff.mp hr0;obtain⟨l2,e2⟩:=List.getElem?_eq_some_iff.mp hr'
       have:=List.pairwise_iff_getElem.mp good.asc (i - 1) i l1 l2 (by omega)
       rw[e1,e2]at this;exact this
     refine⟨_,rfl,_,rfl,.inl ⟨q,_,_,_,rfl,rfl,SqL.of hq,zA hz,.inr (.inl ⟨t,_,_,_,rfl,rfl,SqT.of ht,rfl,_,rfl,_,rfl,_,_,rfl,rfl,.inl ⟨q,_,_,_,rfl,rfl,SqL.of hq,(by show atI zs ((i:Int) - 1)=_;rw[show (i:Int) - 1=((i - 1:Nat):Int) by omega];exact zA hz0),.inr (.inl ⟨t0,_,_,_,rfl,rfl,SqT.of ht0,rfl,_,_,rfl,rfl,?_⟩)⟩⟩)⟩⟩;show Q (.bl (decide (r0.1 < r.1))) H;rw[decide_eq_true lt];exact kk
theorem qb1 {a:Ad} (T:Txt K mg a):FnOk P w K mg base CX0 5 a.f_Q a.fd_Q ["rows","most","widest"] jx:=by
 have G_O:=qfT (P:=P) (w:=w) (base:=base) T;have G_P:=qcO (P:=P) (w:=w) (base:=base) T;refine T.d_Q.F.ok sc_check_rows (fun vs H Q E h=>?_) (fun cdv A outer s H vs Q E hr h=>?_)
 · obtain⟨q,rows,rfl,⟨zs,hq,tp⟩,good,kk⟩:=h;rfl
 · obtain⟨q,rows,rfl,⟨zs,hq,tp⟩,good,kk⟩:=h;have hU:=hr.units;have h_O:Room (4) _:=hr.mono (by decide);have h_P:Room (1) _:=hr.mono (by decide)
   refine⟨_,(qd (qS (PW.pt (qa1 (zB (zo (qk qY (by rfl) T.n_isinstance qo (qa (pv 0) (qa (zm (v:=.ty "list") rfl T.n_list qR rfl) qb))))) (jd (qu (uEq hU) (qk qK (by rfl) T.n_len qG (qa (pv 0) qb)) qe (qC _)))))
       (qf qO)
       qA)
     (qd (qS (qu qaw (qk qK (by rfl) T.n_len qG (qa (pv 0) qb)) (pv 1) (qC _))
       (qf qO)
       qA)
     (qf (zP PassesOwn.never rfl (qfR rfl T.n_enumerate (qa (pv 0) qb)) (zK rfl (qr (qq (i:=3) (sc_check_rows.nd) rfl (Or.inl rfl)) (qr (qq (i:=4) (sc_check_rows.nd) rfl (Or.inl rfl)) zg)))
       (qf (qS (PW.pt (qa1 (zB (zo (qj G_O h_O rfl T.d_O.m T.d_O.k T.d_O.b .nil qm (qa (pv 4) (qa (pv 2) qb))))) (jd (zB (zo (qj G_P h_P rfl T.d_P.m T.d_P.k T.d_P.b .nil qm (qa (pv 0) (qa (pv 3) qb))))))))
         (qf qO)
         qA)))))),?_⟩
   try dsimp only [zw,Cx.nox]
   have hl:zs.length=rows.length:=tp.1;have few:=good.few;have pos:=good.ne;have ty:tyN H (.ref q)=some "list":=by simp only[tyN];rw[hq]
   refine⟨_,rfl,_,_,_,rfl,(by decide),ty,true,rfl,q8 rfl ?_⟩;refine⟨_,rfl,_,_,rfl,.inl ⟨_,SqL.of hq,rfl⟩,.inl ⟨rfl,_,rfl,Qg (fun g=>?_) (fun _=>?_)⟩⟩
   · injection g with g;omega
   refine⟨_,rfl,_,_,rfl,.inl ⟨_,SqL.of hq,rfl⟩,_,rfl,_,_,rfl,rfl,_,rfl,Qg (fun g=>?_) (fun _=>?_)⟩
   · omega
   refine⟨_,rfl,q,rfl,⟨zs,SqL.of hq⟩,qex (K:=K) (a:=q) (xs:=zs) (fun i σ H2=>∃ s3 s4:Option V,σ=[some (.ref q),some (.int 21),some (.int 2880),s3,s4]∧Same H H2) ⟨none,none,rfl,Same.refl H⟩ (fun i σ H2 _ ⟨_,_,_,S⟩=>SqL.of (S _ _ hq)) ?_ ?_⟩
   · rintro i x σ H2 p hx ⟨s3,s4,rfl,S⟩ hn;have S2:Same H (upd H2 p (.tup [.int i,x])):=S.then _ hn
     have hi:i < rows.length:=by rw[← hl];exact(List.getElem?_eq_some_iff.mp hx).1
     obtain⟨r,hr'⟩:∃ r,rows[i]?=some r:=⟨_,List.getElem?_eq_getElem hi⟩
     obtain⟨t,rfl,ht⟩:=tp.2 i x r hx hr';have ok:=good.ok r (List.mem_of_getElem? hr');refine⟨p,_,rfl,SqT.of qc,rfl,_,_,rfl,_,_,rfl,rfl,?_⟩;refine⟨_,rfl,_,rfl,t,r,2880,rfl,S2 _ _ ht,ok.1,ok.2.1,ok.2.2.1,ok.2.2.2,true,rfl,q8 rfl ?_⟩;exact⟨_,rfl,_,rfl,q,i,rows,rfl,⟨zs,S2 _ _ hq,tp.same S2⟩,good,hi,true,rfl,q8 rfl ⟨_,_,rfl,S2⟩⟩
   · rintro σ H2 ⟨s3,s4,rfl,S⟩;exact kk H2 S
theorem jU {a:Ad} (T:Txt K mg a):FnOk P w K mg base CX0 6 a.f_z a.fd_z ["self","rows"] (Q4 a):=by
 have G_Q:=qb1 (P:=P) (w:=w) (base:=base) T;refine T.d_z.F.ok qbS (fun vs H Q E h=>?_) (fun cdv A outer s H vs Q E hr h=>?_)
 · obtain⟨x,dx,q,rows,rfl,hx,hrs,good,kk⟩:=h;rfl
 · obtain⟨x,dx,q,rows,rfl,hx,hrs,good,kk⟩:=h;have h_Q:Room (5) _:=hr.mono (by decide);obtain⟨t_MOST_ROWS,c_MOST_ROWS⟩:=T.g_MOST_ROWS;obtain⟨t_WIDEST_SHIFT,c_WIDEST_SHIFT⟩:=T.g_WIDEST_SHIFT
   refine⟨_,(qd (qD (qj G_Q h_Q rfl T.d_Q.m T.d_Q.k T.d_Q.b .nil qm (qa (pv 1) (qa (za (v:=.int 21) rfl c_MOST_ROWS ⟨_,rfl⟩) (qa (za (v:=.int 2880) rfl c_WIDEST_SHIFT ⟨_,rfl⟩) qb)))))
     (qf (Qe (pv 0) (zC (r:=qg4 K) zl (by rfl) T.n_list qR (qa (pv 1) qb)) rfl))),?_⟩
   try dsimp only [zw,Cx.nox]
   refine⟨_,rfl,q,rows,rfl,hrs,good,fun G1 S1=>?_⟩;obtain⟨zs,hq,tp⟩:=hrs.same S1;have hx1:=S1 _ _ hx;refine⟨_,rfl,q,zs,rfl,.inl (SqL.of hq),fun k fk=>?_⟩;have nkx:x≠k:=qi hx1 fk;refine⟨_,rfl,x,_,dx,[],rfl,(qh nkx).trans hx1,T.cl_Table,T.n_Table_kept,(by show 0 < 1000;decide),?_⟩;have fkH:H k=none:=S1.none fk;refine kk _ (fun c o e n=>?_) ⟨k,dx,zs,qc,(qh nkx.symm).trans qc,⟨tp.1,fun i z p e1 e2=>?_⟩⟩
   · rw[qh n,qh (qi e fkH)];exact S1 _ _ e
   · obtain⟨t,et,ht⟩:=tp.2 i z p e1 e2;refine⟨t,et,?_⟩;rw[qh (zN ht hx1 (by intro z;cases z)),qh (qi ht fk)];exact ht
end
theorem qjC {l:List Addr} (n:l.Nodup) {i j:Nat}{x y:Addr} (hi:l[i]?=some x) (hj:l[j]?=some y) (h:i≠j):x≠y:=by
 intro e;subst e;obtain⟨h1,e1⟩:=List.getElem?_eq_some_iff.mp hi;obtain⟨h2,e2⟩:=List.getElem?_eq_some_iff.mp hj;exact h ((List.getElem_inj n).mp (e1.trans e2.symm))
theorem qt {H G:Hp}{l:Addr}{o:HO} (h:upd H l o=G) (f:H l=none):Same H G∧G l=some o:=by
 subst h;exact⟨Same.new o f,qc⟩
theorem qfy {i:Nat}{v:V}{u:TS}{D:qgQ}{σ:L2.St}{H:Hp} (h:u D (σ.set i (some v)) H):qk0 (qkU (tC v) (qhD i)) u D σ H:=h
theorem Jd {A:List (Int×Int)}{i:Nat}{x:Int×Int} (h:A[i]?=some x):A.drop i=x::A.drop (i+1):=by
 obtain⟨hi,e⟩:=List.getElem?_eq_some_iff.mp h;rw[← e];exact List.drop_eq_getElem_cons hi
theorem j0 {A:List (Int×Int)} (c:zi A) {i:Nat}{x:Int×Int} (h:A[i]?=some x):∀ u∈A.drop (i+1),x.2+1 < u.1:=fun u m=>by
 obtain⟨k,hk,e⟩:=List.mem_iff_getElem.mp m;rw[List.getElem_drop]at e;obtain⟨hi,ex⟩:=List.getElem?_eq_some_iff.mp h;have hk':i+1+k < A.length:=by rw[List.length_drop]at hk;omega
 have:=List.pairwise_iff_getElem.mp c.2 i (i+1+k) hi hk' (by omega)
 rw[ex,e]at this;exact this
theorem mem_cons2 {x:Int×Int}{A:List (Int×Int)}{n:Int}:Mem (x::A) n↔(x.1≤n∧n≤x.2)∨Mem A n:=by
 constructor
 · rintro⟨w,m,h⟩;rcases List.mem_cons.mp m with e|m
   · exact .inl (e▸h)
   · exact .inr ⟨w,m,h⟩
 · rintro (h|⟨w,m,h⟩)
   · exact⟨x,List.mem_cons_self,h⟩
   · exact⟨w,List.mem_cons_of_mem _ m,h⟩
theorem mem_snoc2 {x:Int×Int}{A:List (Int×Int)}{n:Int}:Mem (A++[x]) n↔Mem A n∨(x.1≤n∧n≤x.2):=by
 constructor
 · rintro⟨w,m,h⟩;rcases List.mem_append.mp m with m|m
   · exact .inl ⟨w,m,h⟩
   · exact .inr (List.mem_singleton.mp m▸h)
 · rintro (⟨w,m,h⟩|h)
   · exact⟨w,List.mem_append_left _ m,h⟩
   · exact⟨x,List.mem_append_right _ (List.mem_singleton.mpr rfl),h⟩
structure BI (A B:List (Int×Int)) (i j:Nat) (t:List (Int×Int)):Prop where
 can:zi t
 sub:∀ n,Mem t n->Mem A n∧Mem B n
 cov:∀ n,Mem A n->Mem B n->Mem t n∨(Mem (A.drop i) n∧Mem (B.drop j) n)
 sep:∀ w∈t,∀ x y,A[i]?=some x->B[j]?=some y->w.2+1 < x.1∨w.2+1 < y.1
 len:t.length≤i+j
abbrev mx2 (x y:Int):Int:=if y > x then y else x
abbrev mn2 (x y:Int):Int:=if y < x then y else x
abbrev bt (x y:Int×Int) (t:List (Int×Int)):List (Int×Int):=if mx2 x.1 y.1≤mn2 x.2 y.2 then t++[(mx2 x.1 y.1,mn2 x.2 y.2)] else t
theorem BI.mid {A B:List (Int×Int)}{i j:Nat}{t:List (Int×Int)}{x y:Int×Int} (b:BI A B i j t) (hx:A[i]?=some x) (hy:B[j]?=some y):zi (bt x y t)∧(∀ n,Mem (bt x y t) n->Mem A n∧Mem B n)∧(∀ n,Mem t n∨((x.1≤n∧n≤x.2)∧(y.1≤n∧n≤y.2))->Mem (bt x y t) n)∧(bt x y t).length≤i+j+1:=by
 have h1:x.1≤mx2 x.1 y.1∧y.1≤mx2 x.1 y.1∧(mx2 x.1 y.1=x.1∨mx2 x.1 y.1=y.1):=by unfold mx2;split<;>omega
 have h2:mn2 x.2 y.2≤x.2∧mn2 x.2 y.2≤y.2∧(mn2 x.2 y.2=x.2∨mn2 x.2 y.2=y.2):=by unfold mn2;split<;>omega
 have mx:=List.mem_of_getElem? hx;have my:=List.mem_of_getElem? hy;unfold bt;generalize mx2 x.1 y.1=lo at *;generalize mn2 x.2 y.2=hi at *;split
 · rename_i le
   refine⟨⟨fun w m=>?_,List.pairwise_append.mpr ⟨b.can.2,List.pairwise_singleton _ _,fun u mu v mv=>?_⟩⟩,fun n h=>?_,fun n h=>mem_snoc2.mpr ?_,?_⟩
   · rcases List.mem_append.mp m with m|m
     · exact b.can.1 w m
     · rw[List.mem_singleton.mp m];exact le
   · rw[List.mem_singleton.mp mv];show u.2+1 < lo;rcases b.sep u mu x y hx hy with z|z<;>omega
   · rcases mem_snoc2.mp h with h|h
     · exact b.sub n h
     · have h3:lo≤n:=h.1;have h4:n≤hi:=h.2;exact⟨⟨x,mx,by omega,by omega⟩,⟨y,my,by omega,by omega⟩⟩
   · rcases h with h|h
     · exact .inl h
     · refine .inr ⟨?_,?_⟩
       · show lo≤n;omega
       · show n≤hi;omega
   · rw[List.length_append];have:=b.len;show t.length+1≤_;omega
 · rename_i le
   refine⟨b.can,b.sub,fun n h=>?_,by have:=b.len;omega⟩;rcases h with h|h
   · exact h
   · omega
theorem BI.stepA {A B:List (Int×Int)} (cA:zi A) (cB:zi B) {i j:Nat}{t:List (Int×Int)}{x y:Int×Int} (b:BI A B i j t) (hx:A[i]?=some x) (hy:B[j]?=some y) (lt:x.2 < y.2):BI A B (i+1) j (bt x y t):=by
 obtain⟨m1,m2,m3,m4⟩:=b.mid hx hy;have gA:=j0 cA hx;have gB:=j0 cB hy;refine⟨m1,m2,fun n a1 a2=>?_,fun w mw x' y' hx' hy'=>?_,by omega⟩
 · rcases b.cov n a1 a2 with h|⟨h,h'⟩
   · exact .inl (m3 n (.inl h))
   · rw[Jd hx]at h;rcases mem_cons2.mp h with h|h
     · have h'':=h';rw[Jd hy]at h'';rcases mem_cons2.mp h'' with k|⟨u,mu,k1,k2⟩
       · exact .inl (m3 n (.inr ⟨h,k⟩))
       · have:=gB u mu
         omega
     · exact .inr ⟨h,h'⟩
 · have gx:=gA x' (by rw[Jd hx'];exact List.mem_cons_self);have x0:=cA.1 x (List.mem_of_getElem? hx);rw[hy]at hy';cases hy';unfold bt at mw;split at mw
   · rcases List.mem_append.mp mw with mw|mw
     · rcases b.sep w mw x y hx hy with z|z
       · exact .inl (by omega)
       · exact .inr z
     · rw[List.mem_singleton.mp mw];refine .inl ?_;show mn2 x.2 y.2+1 < x'.1;unfold mn2;split<;>omega
   · rcases b.sep w mw x y hx hy with z|z
     · exact .inl (by omega)
     · exact .inr z
theorem BI.stepB {A B:List (Int×Int)} (cA:zi A) (cB:zi B) {i j:Nat}{t:List (Int×Int)}{x y:Int×Int} (b:BI A B i j t) (hx:A[i]?=some x) (hy:B[j]?=some y) (lt:¬ x.2 < y.2):BI A B i (j+1) (bt x y t):=by
 obtain⟨m1,m2,m3,m4⟩:=b.mid hx hy;have gA:=j0 cA hx;have gB:=j0 cB hy;refine⟨m1,m2,fun n a1 a2=>?_,fun w mw x' y' hx' hy'=>?_,by omega⟩
 · rcases b.cov n a1 a2 with h|⟨h,h'⟩
   · exact .inl (m3 n (.inl h))
   · rw[Jd hy]at h';rcases mem_cons2.mp h' with k|k
     · have h'':=h;rw[Jd hx]at h'';rcases mem_cons2.mp h'' with k'|⟨u,mu,k1,k2⟩
       · exact .inl (m3 n (.inr ⟨k',k⟩))
       · have:=gA u mu
         omega
     · exact .inr ⟨h,k⟩
 · have gy:=gB y' (by rw[Jd hy'];exact List.mem_cons_self);have y0:=cB.1 y (List.mem_of_getElem? hy);rw[hx]at hx';cases hx';unfold bt at mw;split at mw
   · rcases List.mem_append.mp mw with mw|mw
     · rcases b.sep w mw x y hx hy with z|z
       · exact .inl z
       · exact .inr (by omega)
     · rw[List.mem_singleton.mp mw];refine .inr ?_;show mn2 x.2 y.2+1 < y'.1;unfold mn2;split<;>omega
   · rcases b.sep w mw x y hx hy with z|z
     · exact .inl z
     · exact .inr (by omega)
theorem BI.fin {A B:List (Int×Int)}{i j:Nat}{t:List (Int×Int)} (b:BI A B i j t) (h:A.length≤i∨B.length≤j):∀ n,Mem t n↔Mem A n∧Mem B n:=fun n=>by
 refine⟨b.sub n,fun zz_=>?_⟩;obtain⟨h1,h2⟩:=zz_;rcases b.cov n h1 h2 with z|⟨z1,z2⟩
 · exact z
 · rcases h with h|h
   · rw[List.drop_eq_nil_of_le h]at z1;obtain⟨_,m,_⟩:=z1;cases m
   · rw[List.drop_eq_nil_of_le h]at z2;obtain⟨_,m,_⟩:=z2;cases m
theorem BI.zero (A B:List (Int×Int)):BI A B 0 0 []:=⟨⟨(fun _ m=>nomatch m),List.Pairwise.nil⟩,(fun _ ⟨_,m,_⟩=>nomatch m),fun _ h1 h2=>.inr ⟨h1,h2⟩,(fun _ m=>nomatch m),Nat.zero_le _⟩
inductive qck (vs:List V) (H:Hp) (Q:VK):Prop
 | mk (p q:Addr) (A B:List (Int×Int)) (h1:vs=[.ref p,.ref q]) (h2:Rs H p A) (h3:Rs H q B) (h4:zi A) (h5:zi B) (h6:A.length+B.length≤900) (h7:∀ (d:Addr) (r:List (Int×Int)) (H':Hp),H d=none->Same H H'->Rs H' d r->zi r->r.length≤A.length+B.length->(∀ n,Mem r n↔Mem A n∧Mem B n)->Q (.ref d) H'):qck vs H Q
def qft:Sp:=fun vs H Q _=>qck vs H Q
section
variable {P:Program}{w:World}{K:Frag}{mg:Str->Option Value}{base:Heap}
theorem qja {a:Ad} (T:Txt K mg a):FnOk P w K mg base CX0 1 a.f_J a.fd_J ["one","other"] qft:=by
 refine T.d_J.F.ok sc_both (fun vs H Q E h=>?_) (fun cdv A outer s H vs Q E hr h=>?_)
 · obtain⟨p,q,A,B,rfl,⟨zp,hp,tp⟩,⟨zq,hq,tq⟩,cA,cB,few,kk⟩:=h;rfl
 · obtain⟨p,q,A,B,rfl,⟨zp,hp,tp⟩,⟨zq,hq,tq⟩,cA,cB,few,kk⟩:=h;have hu:=qJ hr;have hU:=hr.units
   refine⟨_,(qd (qz (i:=2) sc_both.nd rfl (Or.inl rfl) (qT qb))
     (qd (qz (i:=3) sc_both.nd rfl (Or.inl rfl) qe)
     (qd (qz (i:=4) sc_both.nd rfl (Or.inl rfl) qe)
     (qd (qg7 PassesOwn.never (PW.pt (ZD (qu qdx (pv 3) (qk qK (by rfl) T.n_len qG (qa (pv 0) qb)) (qC _)) (Qn (qu qdx (pv 4) (qk qK (by rfl) T.n_len qG (qa (pv 1) qb)) (qC _)))))
       (qd (qz (i:=5) sc_both.nd rfl (Or.inl rfl) (qk (Qt rfl) (by rfl) T.n_max Qv (qa (qI (r:=rIx K) qx (qI (r:=rIx K) qx (pv 0) (pv 3) (fun _ _=>rfl)) qe (fun _ _=>rfl)) (qa (qI (r:=rIx K) qx (qI (r:=rIx K) qx (pv 1) (pv 4) (fun _ _=>rfl)) qe (fun _ _=>rfl)) qb))))
       (qd (qz (i:=6) sc_both.nd rfl (Or.inl rfl) (qk (ZK rfl) (by rfl) T.n_min ZL (qa (qI (r:=rIx K) qx (qI (r:=rIx K) qx (pv 0) (pv 3) (fun _ _=>rfl)) qe (fun _ _=>rfl)) (qa (qI (r:=rIx K) qx (qI (r:=rIx K) qx (pv 1) (pv 4) (fun _ _=>rfl)) qe (fun _ _=>rfl)) qb))))
       (qd (qS (qu JM (pv 5) (pv 6) (qC _))
         (qf (qD (Zk PySem.F.plainAttrs_list PySem.F.slot_list_append PySem.F.type_list_append zc (pv 2) (qa (qQ (qa (pv 5) (qa (pv 6) qb))) qb))))
         qA)
       (qf (qS (qu qdx (qI (r:=rIx K) qx (qI (r:=rIx K) qx (pv 0) (pv 3) (fun _ _=>rfl)) qe (fun _ _=>rfl)) (qI (r:=rIx K) qx (qI (r:=rIx K) qx (pv 1) (pv 4) (fun _ _=>rfl)) qe (fun _ _=>rfl)) (qC _))
         (qf (qif (i:=3) sc_both.nd rfl (Or.inl rfl) qe qiq))
         (qf (qif (i:=4) sc_both.nd rfl (Or.inl rfl) qe qiq))))))))
     (qf (qE (pv 2))))))),?_⟩
   try dsimp only [zw,Cx.nox]
   refine⟨ql (Nat.le_of_ble_eq_true rfl),fun d fd=>?_⟩;generalize hG:upd H d _=G;obtain⟨S0,e0⟩:=qt hG fd;clear hG;(try unfold qF);(try dsimp only);refine qfy (qfy ?_);refine q9 (t:=qhV _ _) (fun σ' H'=>∃ (s3 s4 s5 s6:Option V) (t:List (Int×Int)),σ'=[some (.ref p),some (.ref q),some (.ref d),s3,s4,s5,s6]∧Same H H'∧Rs H' d t∧zi t∧t.length≤A.length+B.length∧∀ n,Mem t n↔Mem A n∧Mem B n) (fun N hN=>?_) ?_
   · refine⟨fun m σ H2=>∃ (i j:Nat) (s5 s6:Option V) (t:List (Int×Int)),σ=[some (.ref p),some (.ref q),some (.ref d),some (.int (i:Int)),some (.int (j:Int)),s5,s6]∧Same H H2∧Rs H2 d t∧BI A B i j t∧i≤A.length∧j≤B.length∧m=(A.length - i)+(B.length - j),⟨_,0,0,none,none,[],rfl,S0,⟨[],e0,.nil⟩,.zero A B,Nat.zero_le _,Nat.zero_le _,rfl⟩,?_⟩;rintro m σ H2 ⟨i,j,s5,s6,t,rfl,S2,⟨zt,ht,tt⟩,bi,hi,hj,rfl⟩;have lp:zp.length=A.length:=tp.1;have lq:zq.length=B.length:=tq.1;have hp2:=S2 _ _ hp;have hq2:=S2 _ _ hq;refine⟨_,rfl,_,rfl,_,_,rfl,.inl ⟨_,SqL.of hp2,rfl⟩,_,_,rfl,rfl,_,rfl,Qg (fun g1=>?_) (fun g1=>?_)⟩
     case refine_2=>exact q8 rfl (hN _ _ ⟨_,_,_,_,t,rfl,S2,⟨zt,ht,tt⟩,bi.can,Nat.le_trans bi.len (by omega),bi.fin (.inl (by omega))⟩)
     refine⟨_,rfl,_,rfl,_,_,rfl,.inl ⟨_,SqL.of hq2,rfl⟩,_,_,rfl,rfl,_,rfl,Qg (fun g2=>?_) (fun g2=>?_)⟩
     case refine_2=>exact hN _ _ ⟨_,_,_,_,t,rfl,S2,⟨zt,ht,tt⟩,bi.can,Nat.le_trans bi.len (by omega),bi.fin (.inr (by omega))⟩
     refine⟨fun σ' H'=>∃ m',m' < (A.length - i)+(B.length - j)∧(fun m σ H2=>∃ (i j:Nat) (s5 s6:Option V) (t:List (Int×Int)),σ=[some (.ref p),some (.ref q),some (.ref d),some (.int (i:Int)),some (.int (j:Int)),s5,s6]∧Same H H2∧Rs H2 d t∧BI A B i j t∧i≤A.length∧j≤B.length∧m=(A.length - i)+(B.length - j)) m' σ' H',fun _ _ h=>h,?_⟩;obtain⟨x,hx⟩:∃ x,A[i]?=some x:=⟨_,List.getElem?_eq_getElem (by omega)⟩
     obtain⟨y,hy⟩:∃ y,B[j]?=some y:=⟨_,List.getElem?_eq_getElem (by omega)⟩
     obtain⟨u,ha,hu0⟩:=tp.at_ hx;obtain⟨v,hb,hv0⟩:=tq.at_ hy;have hu:=S2 _ _ hu0;have hv:=S2 _ _ hv0;refine⟨_,rfl,_,rfl,.inl ⟨p,_,_,_,rfl,rfl,SqL.of hp2,zA ha,.inr (.inl ⟨u,_,_,_,rfl,rfl,SqT.of hu,rfl,_,rfl,_,rfl,.inl ⟨q,_,_,_,rfl,rfl,SqL.of hq2,zA hb,.inr (.inl ⟨v,_,_,_,rfl,rfl,SqT.of hv,rfl,_,_,rfl,?_⟩)⟩⟩)⟩⟩;(try unfold qF);(try dsimp only);refine⟨_,rfl,_,rfl,.inl ⟨p,_,_,_,rfl,rfl,SqL.of hp2,zA ha,.inr (.inl ⟨u,_,_,_,rfl,rfl,SqT.of hu,rfl,_,rfl,_,rfl,.inl ⟨q,_,_,_,rfl,rfl,SqL.of hq2,zA hb,.inr (.inl ⟨v,_,_,_,rfl,rfl,SqT.of hv,rfl,_,_,rfl,?_⟩)⟩⟩)⟩⟩;(try unfold qF);(try dsimp only);have lt:zt.length=t.length:=tt.1;have bl:=bi.len;refine q9 (t:=qgY _ _ _) (fun σ' H'=>σ'=[some (.ref p),some (.ref q),some (.ref d),some (.int (i:Int)),some (.int (j:Int)),some (.int (mx2 x.1 y.1)),some (.int (mn2 x.2 y.2))]∧Same H H'∧Rs H' d (bt x y t)) (fun N hN=>?_) ?_
     · refine⟨_,rfl,_,rfl,_,_,rfl,rfl,_,rfl,Qg (fun g3=>?_) (fun g3=>hN _ _ ⟨rfl,S2,by unfold bt;rw[if_neg g3];exact⟨zt,ht,tt⟩⟩)⟩;refine⟨_,rfl,.inl ⟨rfl,_,SqL.of ht⟩,_,rfl,_,rfl,ql (Nat.le_of_ble_eq_true rfl),fun w fw=>?_⟩;generalize hG:upd H2 w _=G2;obtain⟨S3,e3⟩:=qt hG fw;clear hG;refine⟨d,_,_,rfl,rfl,S3 _ _ ht,qw (by omega),?_⟩;refine hN _ _ ⟨rfl,(S2.trans S3).put fd _,?_⟩;unfold bt;rw[if_pos g3];exact⟨_,qc,((tt.same S3).snoc (p:=(mx2 x.1 y.1,mn2 x.2 y.2)) e3).put (S3 _ _ ht)⟩
     rintro _ H3 ⟨rfl,S3,R3⟩;have hp2:=S3 _ _ hp;have hq2:=S3 _ _ hq;have hu:=S3 _ _ hu0;have hv:=S3 _ _ hv0;refine⟨_,rfl,_,rfl,.inl ⟨p,_,_,_,rfl,rfl,SqL.of hp2,zA ha,.inr (.inl ⟨u,_,_,_,rfl,rfl,SqT.of hu,rfl,_,rfl,_,rfl,.inl ⟨q,_,_,_,rfl,rfl,SqL.of hq2,zA hb,.inr (.inl ⟨v,_,_,_,rfl,rfl,SqT.of hv,rfl,_,_,rfl,rfl,_,rfl,Qg (fun g4=>?_) (fun g4=>?_)⟩)⟩⟩)⟩⟩
     · refine⟨_,rfl,_,_,rfl,rfl,?_⟩;exact⟨_,(by omega:(A.length - (i+1))+(B.length - j) < _),i+1,j,_,_,_,rfl,S3,R3,bi.stepA cA cB hx hy g4,by omega,hj,rfl⟩
     · refine⟨_,rfl,_,_,rfl,rfl,?_⟩;exact⟨_,(by omega:(A.length - i)+(B.length - (j+1)) < _),i,j+1,_,_,_,rfl,S3,R3,bi.stepB cA cB hx hy g4,hi,by omega,rfl⟩
   rintro _ H2 ⟨s3,s4,s5,s6,t,rfl,S2,R2,c2,l2,m2⟩;exact⟨_,rfl,kk d t H2 fd S2 R2 c2 l2 m2⟩
end
theorem qa9 {K:Frag}{mg:Str->Option Value}{a:Ad} (T:Txt K mg a):kitOne K (.ref a.c_Entry) (.ref a.c_Entry)=some true:=by
 rw[Qs T.mr_Entry rfl T.t_Entry];simp
theorem ZG {K:Frag}{mg:Str->Option Value}{a:Ad} (T:Txt K mg a):kitOne K (.ref a.c_Within) (.ref a.c_Entry)=some true:=by
 rw[Qs T.mr_Within rfl T.t_Entry];simp
theorem qdG {K:Frag}{mg:Str->Option Value}{a:Ad} (T:Txt K mg a):kitOne K (.ref a.c_At) (.ref a.c_Entry)=some true:=by
 rw[Qs T.mr_At rfl T.t_Entry];simp
theorem Zj {K:Frag}{mg:Str->Option Value}{a:Ad} (T:Txt K mg a):kitOne K (.ref a.c_Between) (.ref a.c_Entry)=some true:=by
 rw[Qs T.mr_Between rfl T.t_Entry];simp
theorem qb6 {K:Frag}{mg:Str->Option Value}{a:Ad} (T:Txt K mg a):kitOne K (.ref a.c_Read) (.ref a.c_Entry)=some true:=by
 rw[Qs T.mr_Read rfl T.t_Entry];simp
theorem qa8 {K:Frag}{mg:Str->Option Value}{a:Ad} (T:Txt K mg a):kitOne K (.ref a.c_Joint) (.ref a.c_Entry)=some true:=by
 rw[Qs T.mr_Joint rfl T.t_Entry];simp
theorem qaK {K:Frag}{mg:Str->Option Value}{a:Ad} (T:Txt K mg a):kitOne K (.ref a.c_Sifted) (.ref a.c_Entry)=some true:=by
 rw[Qs T.mr_Sifted rfl T.t_Entry];simp
theorem qaJ {K:Frag}{mg:Str->Option Value}{a:Ad} (T:Txt K mg a):kitOne K (.ref a.c_Within) (.ref a.c_Joint)=some false:=by
 rw[Qs T.mr_Within rfl T.t_Joint];simp[qjC T.ndc (i:=6) (j:=2) rfl rfl (by decide),qjC T.ndc (i:=6) (j:=1) rfl rfl (by decide)]
theorem JQ {K:Frag}{mg:Str->Option Value}{a:Ad} (T:Txt K mg a):kitOne K (.ref a.c_Between) (.ref a.c_Joint)=some false:=by
 rw[Qs T.mr_Between rfl T.t_Joint];simp[qjC T.ndc (i:=6) (j:=4) rfl rfl (by decide),qjC T.ndc (i:=6) (j:=1) rfl rfl (by decide)]
theorem qa7 {K:Frag}{mg:Str->Option Value}{a:Ad} (T:Txt K mg a):kitOne K (.ref a.c_Within) (.ref a.c_Read)=some false:=by
 rw[Qs T.mr_Within rfl T.t_Read];simp[qjC T.ndc (i:=5) (j:=2) rfl rfl (by decide),qjC T.ndc (i:=5) (j:=1) rfl rfl (by decide)]
theorem JP {K:Frag}{mg:Str->Option Value}{a:Ad} (T:Txt K mg a):kitOne K (.ref a.c_Within) (.ref a.c_Within)=some true:=by
 rw[Qs T.mr_Within rfl T.t_Within];simp
abbrev fsJ (nm:Str) (l:Addr):List (Str×V):=[("name",.str nm),("kept_parts",.ref l)]
abbrev fsS (nm:Str) (p f:Addr):List (Str×V):=[("name",.str nm),("part",.ref p),("keeps",.ref f)]
theorem qW {H H':Hp}{x dx C:Addr} (h1:H x=none) (h2:H dx=none) (b:But x (upd (upd H dx (.own x)) x (.ins C dx [])) H'):Same H H':=fun c o e=>by
 have n1:=qi e h1;have n2:=qi e h2;exact b c o (by rw[qh n1,qh n2];exact e) n1
theorem up2 {H:Hp}{x dx:Addr}{o o':HO} (f1:H x=none) (f2:H dx=none):Same H (upd (upd H dx o) x o'):=fun b u e=>by
 rw[qh (qi e f1),qh (qi e f2)];exact e
theorem qks {H H':Hp}{x C dx:Addr} (hx:H x=some (.ins C dx [])) (b:But x H H'):∀ y C' d fs,H y=some (.ins C' d fs)->fs≠[]->H' y=some (.ins C' d fs):=fun y C' d fs e n=>by
 refine b _ _ e fun z=>?_;rw[z,hx]at e;injection e with e;injection e with _ _ e;exact n e.symm
inductive Pt (a:Ad) (H:Hp) (x:Addr):List Str->Prop
 | within {dx:Addr}{nm:Str}{lo hi:Int}:H x=some (.ins a.c_Within dx (fsW nm lo hi))->Pt a H x []
 | between {dx:Addr}{nm pl:Str}{lo hi:Int}:H x=some (.ins a.c_Between dx (fsB nm pl lo hi))->Pt a H x [pl]
theorem Pt.mp {a:Ad}{H H':Hp}{x:Addr}{ss:List Str} (h:Pt a H x ss) (k:∀ C d fs,H x=some (.ins C d fs)->fs≠[]->H' x=some (.ins C d fs)):Pt a H' x ss:=by
 cases h with
 | within e=>exact .within (k _ _ _ e (by simp))
 | between e=>exact .between (k _ _ _ e (by simp))
theorem Pt.same {a:Ad}{H H':Hp}{x:Addr}{ss:List Str} (h:Pt a H x ss) (s:Same H H'):Pt a H' x ss:=h.mp fun _ _ _ e _=>s _ _ e
theorem qj9 {K:Frag}{mg:Str->Option Value}{a:Ad} (T:Txt K mg a) {H:Hp}{x:Addr}{ss:List Str} (h:Pt a H x ss):∃ C,qdm K H (.ref x) (.ref C)∧kitOne K (.ref C) (.ref a.c_Entry)=some true∧kitOne K (.ref C) (.ref a.c_Joint)=some false:=by
 cases h with
 | within hx=>exact⟨_,T.io_Within.ty hx,ZG T,qaJ T⟩
 | between hx=>exact⟨_,T.io_Between.ty hx,Zj T,JQ T⟩
def qlD (ws:List (Int×Int)):Int:=(ws.map fun w=>w.2 - w.1+1).sum
theorem qgB:bootBuiltins "sum"=some (.builtin "sum"):=by decide +kernel
inductive jv (vs:List V) (H:Hp) (Q:VK):Prop
 | mk (q:Addr) (ws:List (Int×Int)) (h1:vs=[.ref q]) (h2:Rs H q ws) (h3:ws.length≤64) (h4:∀ H',Same H H'->Q (.int (qlD ws)) H'):jv vs H Q
def JW:Sp:=fun vs H Q _=>jv vs H Q
theorem qgZ {r:List (Int×Int)}{lo hi:Int} (c:zi r) (l:r.length≤1) (m:∀ n,Mem r n↔Mem [(lo,hi)] n) (h:hi - lo < 1000):qlD r≤1000:=by
 cases r with
 | nil=>decide
 | cons w t =>
   cases t with
   | cons _ _=>simp at l
   | nil =>
     have hw:=c.1 w (List.mem_singleton.mpr rfl);obtain⟨u,mu,a1,a2⟩:=(m w.1).mp ⟨w,List.mem_singleton.mpr rfl,Int.le_refl _,hw⟩;obtain⟨v,mv,b1,b2⟩:=(m w.2).mp ⟨w,List.mem_singleton.mpr rfl,hw,Int.le_refl _⟩;rw[List.mem_singleton.mp mu]at a1;rw[List.mem_singleton.mp mv]at b2;show (w.2 - w.1+1)+0≤1000;have a1':lo≤w.1:=a1;have b2':w.2≤hi:=b2;omega
inductive Za (a:Ad) (vs:List V) (H:Hp) (Q:VK):Prop
 | mk (q:Addr) (ps:List (Addr×List Str)) (h1:vs=[.ref q]) (h2:H q=some (.lst (ps.map fun p=>V.ref p.1))) (h3:0 < ps.length) (h4:ps.length≤8) (h5:(∀ p∈ps,Pt a H p.1 p.2)) (h6:Q .non H):Za a vs H Q
def ZX (a:Ad):Sp:=fun vs H Q _=>Za a vs H Q
inductive Zx (a:Ad) (vs:List V) (H:Hp) (Q:VK):Prop
 | mk (x dx q:Addr) (nm:Str) (ps:List (Addr×List Str)) (h1:vs=[.ref x,.str nm,.ref q]) (h2:H x=some (.ins a.c_Joint dx [])) (h3:QZ (.str nm)=true) (h4:H q=some (.lst (ps.map fun p=>V.ref p.1))) (h5:0 < ps.length) (h6:ps.length≤8) (h7:(∀ p∈ps,Pt a H p.1 p.2)) (h8:∀ (l:Addr) (H':Hp),H l=none->But x H H'->H' x=some (.ins a.c_Joint dx (fsJ nm l))->H' l=some (.lst (ps.map fun p=>V.ref p.1))->Q .non H'):Zx a vs H Q
def jE (a:Ad):Sp:=fun vs H Q _=>Zx a vs H Q
inductive Zr (a:Ad) (vs:List V) (H:Hp) (Q:VK):Prop
 | mk (x dx:Addr) (nm:Str) (lo hi:Int) (h1:vs=[.ref x]) (h2:H x=some (.ins a.c_Within dx (fsW nm lo hi))) (h3:hi - lo < 1000) (h4:∀ H',Same H H'->Q .non H'):Zr a vs H Q
def jy (a:Ad):Sp:=fun vs H Q _=>Zr a vs H Q
inductive Zc (a:Ad) (vs:List V) (H:Hp) (Q:VK):Prop
 | mk (x dx p dp f:Addr) (nm pn:Str) (lo hi:Int) (h1:vs=[.ref x,.str nm,.ref p,.ref f]) (h2:H x=some (.ins a.c_Sifted dx [])) (h3:QZ (.str nm)=true) (h4:H p=some (.ins a.c_Within dp (fsW pn lo hi))) (h5:hi - lo < 1000) (h6:∀ H',But x H H'->H' x=some (.ins a.c_Sifted dx (fsS nm p f))->Q .non H'):Zc a vs H Q
def ZY (a:Ad):Sp:=fun vs H Q _=>Zc a vs H Q
inductive QA (a:Ad) (vs:List V) (H:Hp) (Q:VK):Prop
 | mk (x dx p dp f:Addr) (nm pn:Str) (lo hi:Int) (h1:vs=[.ref x]) (h2:H x=some (.ins a.c_Sifted dx (fsS nm p f))) (h3:H p=some (.ins a.c_Within dp (fsW pn lo hi))) (h4:∀ l,H l=none->Q (.ref l) (upd H l (.lst []))):QA a vs H Q
def z9 (a:Ad):Sp:=fun vs H Q _=>QA a vs H Q
def ZN (acc ss:List Str):List Str:=acc++ss.filter fun u=>decide (u∉acc)
inductive QO (a:Ad) (vs:List V) (H:Hp) (Q:VK):Prop
 | mk (x dx l:Addr) (nm:Str) (ps:List (Addr×List Str)) (h1:vs=[.ref x]) (h2:H x=some (.ins a.c_Joint dx (fsJ nm l))) (h3:H l=some (.lst (ps.map fun p=>V.ref p.1))) (h4:ps.length≤8) (h5:(∀ p∈ps,Pt a H p.1 p.2∧p.2.length≤1)) (h6:∀ (d:Addr) (H':Hp),H d=none->Same H H'->H' d=some (.lst ((ps.foldl (fun acc p=>ZN acc p.2) []).map V.str))->Q (.ref d) H'):QO a vs H Q
def Ql (a:Ad):Sp:=fun vs H Q _=>QO a vs H Q
theorem qhx {n:Str}{ns:List Str}:inV (.str n) (ns.map V.str)=decide (n∈ns):=by
 unfold inV;rw[List.any_map,Bool.eq_iff_iff,List.any_eq_true,decide_eq_true_iff];constructor
 · rintro⟨y,m,e⟩
   have:y=n:=by simpa[eqV] using e
   exact this▸m
 · intro m;exact⟨n,m,by simp[eqV]⟩
theorem qc8 (ns:List Str):(ns.map V.str).all qaO=true:=by
 rw[List.all_map,List.all_eq_true];intro x _;rfl
section
variable {P:Program}{w:World}{K:Frag}{mg:Str->Option Value}{base:Heap}
theorem qdy {a:Ad} (T:Txt K mg a):FnOk P w K mg base CX0 1 a.f_K a.fd_K ["spans"] JW:=by
 refine T.d_K.F.ok qdt (fun vs H Q E h=>?_) (fun cdv A outer s H vs Q E hr h=>?_)
 · obtain⟨q,ws,rfl,hrs,few,kk⟩:=h;rfl
 · obtain⟨q,ws,rfl,hrs,few,kk⟩:=h;refine⟨_,(qf (qE (qk (r:=qj4 K) (qgy rfl) (by rfl) T.n_sum qgB (qa (Qb rfl (CompOk.def ["low","high"] [none,none]) (qX (pv 0)) (fun _ _ _ _ _=>(show PG _ _ (qhC K 2 _) from (zK rfl (qr (qq (i:=0) (show List.Nodup (["low","high"]:List Str) by decide +kernel) rfl (Or.inl rfl)) (qr (qq (i:=1) (show List.Nodup (["low","high"]:List Str) by decide +kernel) rfl (Or.inl rfl)) zg))))) (fun _ _ _ _ _=>Qa) (fun _ _ _ _ _=>(qB Qx (qB zu (pv 1) (pv 0)) qe))) qb)))),?_⟩;(try dsimp only [zw,Cx.nox]);obtain⟨zs,hq,tp⟩:=id hrs;refine⟨_,rfl,q,rfl,⟨_,SqL.of hq⟩,fun D fD=>?_⟩;refine zD (K:=K) (a:=q) (xs:=zs) (D:=D) (fun i σ H2=>∃ (s0 s1:Option V),σ=[s0,s1]∧Same H H2∧H2 D=some (.lst (((ws.take i).map fun w=>w.2 - w.1+1).map V.int))) ⟨none,none,rfl,Same.new _ fD,qc⟩ (fun i σ H2 _ ⟨_,_,_,S,_⟩=>SqL.of (S _ _ hq)) ?_ ?_
   · rintro i z σ H2 hz ⟨s0,s1,rfl,S,hD⟩;obtain⟨p,t,hp,rfl,ht⟩:=tp.of hz;have li:i < ws.length:=(List.getElem?_eq_some_iff.mp hp).1;refine⟨t,_,rfl,SqT.of (S _ _ ht),rfl,_,_,rfl,_,_,rfl,rfl,?_⟩;refine⟨_,rfl,_,rfl,_,_,rfl,rfl,.inl ⟨_,_,rfl,rfl,_,hD,qw (by rw[List.length_map,List.length_map,List.length_take];omega),_,_,rfl,S.put fD _,?_⟩⟩;rw[qc,List.take_add_one,hp];simp
   · rintro σ H2 ⟨s0,s1,rfl,S,hD⟩;rw[tp.1,List.take_length]at hD;exact⟨D,_,rfl,SqL.of hD,kk H2 S⟩
theorem qa2 {a:Ad} (T:Txt K mg a):FnOk P w K mg base CX0 1 a.f_L a.fd_L ["parts"] (ZX a):=by
 refine T.d_L.F.ok sc_check_parts (fun vs H Q E h=>?_) (fun cdv A outer s H vs Q E hr h=>?_)
 · obtain⟨q,ps,rfl,hq,h0,h8,en,kk⟩:=h;rfl
 · obtain⟨q,ps,rfl,hq,h0,h8,en,kk⟩:=h;have hU:=hr.units;obtain⟨t_MOST_PARTS,c_MOST_PARTS⟩:=T.g_MOST_PARTS
   refine⟨_,(qd (qS (PW.pt (qa1 (zB (zo (qk qY (by rfl) T.n_isinstance qo (qa (pv 0) (qa (zm (v:=.ty "list") rfl T.n_list qR rfl) qb))))) (jd (qu (uEq hU) (qk qK (by rfl) T.n_len qG (qa (pv 0) qb)) qe (qC _)))))
       (qf qO)
       qA)
     (qd (qS (qu qaw (qk qK (by rfl) T.n_len qG (qa (pv 0) qb)) (za (v:=.int 8) rfl c_MOST_PARTS ⟨_,rfl⟩) (qC _))
       (qf qO)
       qA)
     (qf (zP PassesOwn.never rfl (qX (pv 0)) (qq (i:=1) (sc_check_parts.nd) rfl (Or.inl rfl))
       (qf (qS (PW.pt (qa1 (zB (zo (qk (r:=qjB K) j3 (by rfl) T.n_isinstance qo (qa (pv 1) (qa (za (v:=.ref a.c_Entry) rfl T.g_Entry rfl) qb))))) (jd (zo (qk (r:=qjB K) j3 (by rfl) T.n_isinstance qo (qa (pv 1) (qa (za (v:=.ref a.c_Joint) rfl T.g_Joint rfl) qb)))))))
         (qf qO)
         qA)))))),?_⟩
   try dsimp only [zw,Cx.nox]
   have ty:tyN H (.ref q)=some "list":=by simp only[tyN];rw[hq]
   have lq:(ps.map fun p=>V.ref p.1).length=ps.length:=List.length_map _;refine⟨_,rfl,_,_,_,rfl,(by decide),ty,true,rfl,q8 rfl ?_⟩;refine⟨_,rfl,_,_,rfl,.inl ⟨_,SqL.of hq,rfl⟩,.inl ⟨rfl,_,rfl,Qg (fun g=>absurd g ?_) (fun _=>?_)⟩⟩
   · intro z;injection z with z;omega
   refine⟨_,rfl,_,_,rfl,.inl ⟨_,SqL.of hq,rfl⟩,_,_,rfl,rfl,_,rfl,Qg (fun g=>absurd g (by omega)) (fun _=>?_)⟩;(try unfold qF);(try dsimp only);refine⟨_,rfl,q,rfl,⟨_,SqL.of hq⟩,zH (K:=K) (a:=q) (xs:=ps.map fun p=>V.ref p.1) (fun j σ H'=>∃ s1:Option V,σ=[some (.ref q),s1]∧H'=H) ⟨_,rfl,rfl⟩ (fun j σ H' _ ⟨_,_,h⟩=>h▸SqL.of hq) ?_ ?_⟩
   · rintro j z σ H' hz ⟨s1,rfl,rfl⟩;obtain⟨k,hk,rfl⟩:=zh hz;obtain⟨C,c1,c2,c3⟩:=qj9 T (en k (List.mem_of_getElem? hk));exact⟨_,rfl,_,_,_,_,rfl,c1,c2,true,rfl,q8 rfl ⟨_,rfl,_,_,_,_,rfl,c1,c3,false,rfl,q8 rfl ⟨_,rfl,rfl⟩⟩⟩
   · rintro σ H' ⟨s1,rfl,rfl⟩;exact kk
theorem qb3 {a:Ad} (T:Txt K mg a):FnOk P w K mg base CX0 5 a.f_5 a.fd_5 ["self","name","parts"] (jE a):=by
 have G_b:=zG (P:=P) (w:=w) (base:=base) T;have G_L:=qa2 (P:=P) (w:=w) (base:=base) T;refine T.d_5.F.ok qbT (fun vs H Q E h=>?_) (fun cdv A outer s H vs Q E hr h=>?_)
 · obtain⟨x,dx,q,nm,ps,rfl,hx,ok,hq,h0,h8,en,kk⟩:=h;rfl
 · obtain⟨x,dx,q,nm,ps,rfl,hx,ok,hq,h0,h8,en,kk⟩:=h;have h_b:Room (3+1) _:=hr.mono (by decide);have h_L:Room (1) _:=hr.mono (by decide)
   refine⟨_,(qd (qD (ZO T.ci_Entry G_b (h_b.mono (by decide)) T.d_b.b rfl T.g_Entry (qa (pv 0) (qa (pv 1) qb))))
     (qd (qD (qj G_L h_L rfl T.d_L.m T.d_L.k T.d_L.b .nil qm (qa (pv 2) qb)))
     (qf (Qe (pv 0) (zC (r:=qg4 K) zl (by rfl) T.n_list qR (qa (pv 2) qb)) rfl)))),?_⟩
   try dsimp only [zw,Cx.nox]
   refine⟨_,rfl,_,rfl,x,a.c_Joint,dx,nm,rfl,hx,ok,T.cl_Joint,T.n_Joint_name,fun H1 B1 h1=>?_⟩;have hq1:=B1 _ _ hq (zN hq hx (by intro z;cases z));refine⟨_,rfl,q,ps,rfl,hq1,h0,h8,fun p m=>(en p m).mp fun C d fs=>qks hx B1 p.1 C d fs,?_⟩;refine⟨_,rfl,q,_,rfl,.inl (SqL.of hq1),fun l fl=>?_⟩;have nl:l≠x:=fun z=>by rw[z,h1]at fl;cases fl
   refine⟨_,rfl,x,_,dx,_,rfl,(by rw[qh nl.symm];exact h1),T.cl_Joint,T.n_Joint_kept_parts,(Nat.le_of_ble_eq_true rfl),?_⟩;exact kk l _ (B1.none fl nl) (fun b o e nb=>by rw[qh nb,qh (qi (B1 b o e nb) fl)];exact B1 b o e nb) (by rw[qc];rfl) (by rw[qh nl,qc])
theorem qb2 {a:Ad} (T:Txt K mg a):FnOk P w K mg base CX0 6 a.f_M a.fd_M ["part"] (jy a):=by
 have G_K:=qdy (P:=P) (w:=w) (base:=base) T;have G_e:=zS (P:=P) (w:=w) (base:=base) T;refine T.d_M.F.ok sc_check_part (fun vs H Q E h=>?_) (fun cdv A outer s H vs Q E hr h=>?_)
 · obtain⟨x,dx,nm,lo,hi,rfl,hx,hlt,kk⟩:=h;rfl
 · obtain⟨x,dx,nm,lo,hi,rfl,hx,hlt,kk⟩:=h;have h_K:Room (1) _:=hr.mono (by decide);have h_e:Room (5) _:=hr.mono (by decide);obtain⟨t_MOST_SIFTED,c_MOST_SIFTED⟩:=T.g_MOST_SIFTED
   refine⟨_,(qd (qS (zo (qk (r:=qjB K) j3 (by rfl) T.n_isinstance qo (qa (pv 0) (qa (za (v:=.ref a.c_Read) rfl T.g_Read rfl) qb))))
       (qf qi4)
       qA)
     (qd (qS (zB (zo (qk (r:=qjB K) j3 (by rfl) T.n_isinstance qo (qa (pv 0) (qa (za (v:=.ref a.c_Within) rfl T.g_Within rfl) qb)))))
       (qf qO)
       qA)
     (qd (qz (i:=1) sc_check_part.nd rfl (Or.inl rfl) (qj G_K h_K rfl T.d_K.m T.d_K.k T.d_K.b .nil qm (qa (qL (pv 0) T.cl_Within T.d_e.mt G_e h_e T.d_e.b .nil qm (qa qbY qb)) qb)))
     (qf (qS (qu qaw (pv 1) (za (v:=.int 1000) rfl c_MOST_SIFTED ⟨_,rfl⟩) (qC _))
       (qf qO)
       qA))))),?_⟩
   try dsimp only [zw,Cx.nox]
   refine⟨_,rfl,_,_,_,_,rfl,T.io_Within.ty hx,qa7 T,false,rfl,q8 rfl ?_⟩;refine⟨_,rfl,_,_,_,_,rfl,T.io_Within.ty hx,JP T,true,rfl,q8 rfl ?_⟩;(try unfold qF);(try dsimp only);refine⟨_,rfl,x,dx,_,rfl,hx,rfl,fun d0 fd0=>⟨x,_,dx,_,_,_,_,rfl,(Same.new (.dK []) fd0) _ _ hx,T.cl_Within,T.n_Within_low,T.n_Within_high,fun d r H1 fd S1 R c l m=>⟨d,r,rfl,R,Nat.le_trans l (Nat.le_of_ble_eq_true rfl),fun H2 S2=>?_⟩⟩⟩;have S3:=((Same.new (.dK []) fd0).trans S1).trans S2;refine⟨_,rfl,_,_,rfl,rfl,_,rfl,Qg (fun g=>absurd g ?_) (fun _=>kk H2 S3)⟩
   have:=qgZ c l m hlt
   omega
theorem qa3 {a:Ad} (T:Txt K mg a):FnOk P w K mg base CX0 7 a.f_8 a.fd_8 ["self","name","part","keeps"] (ZY a):=by
 have G_b:=zG (P:=P) (w:=w) (base:=base) T;have G_M:=qb2 (P:=P) (w:=w) (base:=base) T;refine T.d_8.F.ok qaW (fun vs H Q E h=>?_) (fun cdv A outer s H vs Q E hr h=>?_)
 · obtain⟨x,dx,p,dp,f,nm,pn,lo,hi,rfl,hx,ok,hp,hlt,kk⟩:=h;rfl
 · obtain⟨x,dx,p,dp,f,nm,pn,lo,hi,rfl,hx,ok,hp,hlt,kk⟩:=h;have h_b:Room (3+1) _:=hr.mono (by decide);have h_M:Room (6) _:=hr.mono (by decide)
   refine⟨_,(qd (qD (ZO T.ci_Entry G_b (h_b.mono (by decide)) T.d_b.b rfl T.g_Entry (qa (pv 0) (qa (pv 1) qb))))
     (qd (qD (qj G_M h_M rfl T.d_M.m T.d_M.k T.d_M.b .nil qm (qa (pv 2) qb)))
     (qd (Qe (pv 0) (pv 2) rfl)
     (qf (Qe (pv 0) (pv 3) rfl))))),?_⟩
   try dsimp only [zw,Cx.nox]
   refine⟨_,rfl,_,rfl,x,a.c_Sifted,dx,nm,rfl,hx,ok,T.cl_Sifted,T.n_Sifted_name,fun H1 B1 h1=>?_⟩;refine⟨_,rfl,p,dp,pn,lo,hi,rfl,qks hx B1 _ _ _ _ hp (by simp),hlt,fun H2 S2=>?_⟩;refine⟨_,rfl,_,rfl,x,_,dx,_,rfl,S2 _ _ h1,T.cl_Sifted,T.n_Sifted_part,(Nat.le_of_ble_eq_true rfl),?_⟩;refine⟨_,rfl,_,rfl,x,_,dx,_,rfl,qc,T.cl_Sifted,T.n_Sifted_keeps,(Nat.le_of_ble_eq_true rfl),?_⟩;exact kk _ (fun b o e nb=>by rw[qh nb,qh nb];exact S2 b o (B1 b o e nb)) (by rw[qc];rfl)
theorem JO {a:Ad} (T:Txt K mg a):FnOk P w K mg base CX0 2 a.f_9 a.fd_9 ["self"] (z9 a):=by
 have G_h:=Qp (P:=P) (w:=w) (base:=base) T;refine T.d_9.F.ok JK (fun vs H Q E h=>?_) (fun cdv A outer s H vs Q E hr h=>?_)
 · obtain⟨x,dx,p,dp,f,nm,pn,lo,hi,rfl,hx,hp,kk⟩:=h;rfl
 · obtain⟨x,dx,p,dp,f,nm,pn,lo,hi,rfl,hx,hp,kk⟩:=h;have h_h:Room (1) _:=hr.mono (by decide);refine⟨_,(qf (qE (zr (qN (pv 0) rfl) T.cl_Within T.i_Within_places G_h h_h T.d_h.b .nil qm))),?_⟩;(try dsimp only [zw,Cx.nox]);refine⟨_,rfl,x,_,dx,_,_,rfl,hx,T.cl_Sifted,T.n_Sifted_part,rfl,p,dp,_,rfl,hp,rfl,_,rfl,fun l fl=>kk l fl⟩
end
theorem qkd {K:Frag}{mg:Str->Option Value}{a:Ad} (T:Txt K mg a) {te:TE}{σ:L2.St}{H:Hp}{Q:VK}{x:Addr}{ss:List Str} (hte:∀ R:V->Hp->Prop,R (.ref x) H->te σ H R) (en:Pt a H x ss) (k:∀ l,H l=none->Q (.ref l) (upd H l (.lst (ss.map V.str)))) :
   QJ a.c_Within "places" qV [] E0 te qe8 σ H Q∨QJ a.c_Between "places" (qZ K) [] E0 te qe8 σ H Q:=by
 cases en with
 | @within dx nm lo hi hx=>exact .inl (hte _ ⟨x,dx,_,rfl,hx,rfl,_,rfl,fun l fl=>k l fl⟩)
 | @between dx nm pl lo hi hx=>exact .inr (hte _ ⟨x,dx,_,rfl,hx,rfl,x,_,dx,_,pl,_,_,rfl,hx,T.cl_Between,T.n_Between_place,fun l fl=>k l fl⟩)
theorem qe5 (acc ss:List Str):(ZN acc ss).length≤acc.length+ss.length:=by
 unfold ZN;rw[List.length_append]
 have:=List.length_filter_le (fun u=>decide (u∉acc)) ss
 omega
theorem qey {ps:List (Addr×List Str)} (h:∀ p∈ps,p.2.length≤1):∀ j,((ps.take j).foldl (fun acc p=>ZN acc p.2) []).length≤j
 | 0=>Nat.le_refl _
 | j+1=>by
   have ih:=qey h j
   cases e:ps[j]? with
   | none=>rw[List.take_add_one,e];simp only[Option.toList_none,List.append_nil];omega
   | some p =>
     rw[List.take_add_one,e,List.foldl_append]
     have:=qe5 ((ps.take j).foldl (fun acc p=>ZN acc p.2) []) p.2
     have:=h p (List.mem_of_getElem? e)
     show (ZN _ p.2).length≤_;omega
section
variable {P:Program}{w:World}{K:Frag}{mg:Str->Option Value}{base:Heap}
theorem qaC {a:Ad} (T:Txt K mg a):FnOk P w K mg base CX0 2 a.f_6 a.fd_6 ["self"] (Ql a):=by
 have G_h:=Qp (P:=P) (w:=w) (base:=base) T;have G_r:=QY (P:=P) (w:=w) (base:=base) T;refine T.d_6.F.ok sc_Joint_places (fun vs H Q E h=>?_) (fun cdv A outer s H vs Q E hr h=>?_)
 · obtain⟨x,dx,l,nm,ps,rfl,hx,hl,h8,en,kk⟩:=h;rfl
 · obtain⟨x,dx,l,nm,ps,rfl,hx,hl,h8,en,kk⟩:=h;have hu:=qJ hr;have h_h:Room (1) _:=hr.mono (by decide);have h_r:Room (1) _:=hr.mono (by decide)
   refine⟨_,(qd (qz (i:=1) sc_Joint_places.nd rfl (Or.inr rfl) (qT qb))
     (qd (zP PassesOwn.never rfl (qX (qN (pv 0) rfl)) (qq (i:=2) (sc_Joint_places.nd) rfl (Or.inl rfl))
       (qf (qD (Zk PySem.F.plainAttrs_list PySem.F.slot_list_extend PySem.F.type_list_extend qcX (pv 1) (qa (Qb rfl (CompOk.def ["place","told"] [none,some 1]) (qX (PE.or (zr (pv 2) T.cl_Within T.i_Within_places G_h h_h T.d_h.b .nil qm) (zr (pv 2) T.cl_Between T.d_r.mt G_r h_r T.d_r.b .nil qm))) (fun _ _ _ _ _=>(qq (i:=0) (show List.Nodup (["place","told"]:List Str) by decide +kernel) rfl (Or.inl rfl))) (fun _ _ _ _ _=>(qas (qu (r:=rIn K true) qcM (pv 0) (pv 1) (by with_unfolding_all rfl)))) (fun _ _ _ _ _=>(pv 0))) qb)))))
     (qf (qE (pv 1))))),?_⟩
   try dsimp only [zw,Cx.nox]
   refine⟨Nat.zero_le _,fun t ft=>?_⟩;generalize hG:upd H t _=G;obtain⟨S0,e0⟩:=qt hG ft;clear hG;have lps:(ps.map fun p=>V.ref p.1).length=ps.length:=List.length_map _;(try unfold qF);(try dsimp only);refine⟨_,rfl,x,_,dx,_,_,rfl,S0 _ _ hx,T.cl_Joint,T.n_Joint_kept_parts,rfl,l,rfl,⟨_,SqL.of (S0 _ _ hl)⟩,zH (K:=K) (a:=l) (xs:=ps.map fun p=>V.ref p.1) (D:={ nx:=qfn (qe7 1) { nx:=fun _ H'=>Q .non H',rt:=Q },rt:=Q }) (fun j σ H'=>∃ s2:Option V,σ=[some (.ref x),some (.ref t),s2]∧Same H H'∧H' t=some (.lst (((ps.take j).foldl (fun acc p=>ZN acc p.2) []).map V.str))) ⟨none,rfl,S0,e0⟩ (fun j σ H' _ ⟨_,_,S,_⟩=>SqL.of (S _ _ hl)) ?_ ?_⟩
   · rintro j z σ H2 hz ⟨s2,rfl,S2,ht⟩;obtain⟨p,hp,rfl⟩:=zh hz;obtain⟨ep,l1⟩:=en p (List.mem_of_getElem? hp);have jl:j < ps.length:=(List.getElem?_eq_some_iff.mp hp).1;have fl:=qey (fun p m=>(en p m).2) j;have sn:(ps.take (j+1)).foldl (fun acc p=>ZN acc p.2) []=ZN ((ps.take j).foldl (fun acc p=>ZN acc p.2) []) p.2:=by rw[List.take_add_one,hp,List.foldl_append];rfl
     rw[sn];generalize (ps.take j).foldl (fun acc p=>ZN acc p.2) []=acc at ht fl;refine⟨_,rfl,.inl ⟨rfl,_,SqL.of ht⟩,?_⟩;refine qkd T (fun R h=>⟨_,rfl,h⟩) (ep.same S2) fun pq fpq=>?_;generalize hG:upd H2 pq _=H3;obtain⟨S3,ep3⟩:=qt hG fpq;clear hG;have ht3:=S3 _ _ ht;have npt:pq≠t:=fun z=>by rw[z,ht]at fpq;cases fpq
     refine⟨pq,rfl,⟨_,SqL.of ep3⟩,fun D fD=>?_⟩;refine zD (K:=K) (a:=pq) (xs:=p.2.map V.str) (D:=D) (fun i σ H'=>∃ (c0:Option V),σ=[c0,some (.ref t)]∧Same H3 H'∧H' D=some (.lst (((p.2.take i).filter fun u=>decide (u∉acc)).map V.str))) ⟨none,rfl,Same.new _ fD,qc⟩ (fun i σ H' _ ⟨_,_,S,_⟩=>SqL.of (S _ _ ep3)) ?_ ?_
     · rintro i z σ H4 hz ⟨c0,rfl,S4,hD⟩;obtain⟨u,hu,rfl⟩:=zh hz
       have es:(p.2.take (i+1)).filter (fun u=>decide (u∉acc))=(p.2.take i).filter (fun u=>decide (u∉acc))++(if u∉acc then [u] else []):=by
         rw[List.take_add_one,hu,List.filter_append];congr 1;show List.filter _ [u]=_;rw[List.filter_cons];by_cases z:u∈acc
         · rw[if_neg (by simp[z]),if_neg (fun w=>w z)];rfl
         · rw[if_pos (by simp[z]),if_pos z];rfl
       have lf:=List.length_filter_le (fun u=>decide (u∉acc)) (p.2.take i);rw[List.length_take]at lf;refine⟨_,rfl,_,rfl,t,_,rfl,.inl (SqL.of (S4 _ _ ht3)),rfl,qc8 _,_,rfl,?_⟩;rw[qhx];by_cases z:u∈acc
       · refine q8 (by simp[z]) ⟨_,rfl,S4,?_⟩;rw[es,if_neg (fun w=>w z),List.append_nil];exact hD
       · refine Jc (by simp[z]) ⟨_,rfl,_,hD,qw (by rw[List.length_map];omega),_,rfl,S4.put fD _,?_⟩;rw[qc,es,if_pos z,List.map_append];rfl
     · rintro σ H4 ⟨c0,rfl,S4,hD⟩;rw[List.length_map,List.take_length]at hD;have lf:=List.length_filter_le (fun u=>decide (u∉acc)) p.2;refine⟨t,D,_,_,rfl,rfl,S4 _ _ ht3,hD,Nat.le_of_lt (qw (by rw[List.length_map,List.length_map];omega)),?_⟩;refine⟨_,rfl,((S2.trans S3).trans S4).put ft _,?_⟩;rw[qc,← List.map_append];rfl
   · rintro σ H2 ⟨s2,rfl,S2,ht⟩;rw[lps,List.take_length]at ht;exact⟨_,rfl,kk t H2 ft S2 ht⟩
end
theorem qev {sc sc':Scope}{n:Nat} (h:∀ y∈sc'.names,y.2=NameKind.free->sc.names.lookup y.1=some .cell):∀ y∈sc'.names,y.2=NameKind.free->∃ c,(cellsFrom n sc.names []).lookup y.1=some c:=fun y m e=>qca (h y m e)
abbrev qkW:Expr:=match (zX zY).getLast? with
 | some (.Return (some (.Tuple (.Call _ [_,_,l] _ _::_) _ _)) _)=>l
 | _=>.Name "" ⟨0,0,0,0⟩
abbrev qlk:Arguments:=match qkW with
 | .Lambda p _ _ _=>p
 | _=>⟨[],[],none,[],[],none,[]⟩
abbrev qlm:Expr:=match qkW with
 | .Lambda _ b _ _=>b
 | x=>x
abbrev lamS:Scope:=match qkW with
 | .Lambda _ _ s _=>s
 | _=>qg zY
abbrev qin:Pos:=match qkW with
 | .Lambda _ _ _ p=>p
 | _=>⟨0,0,0,0⟩
abbrev qlj:Str:="_law_entry"++".<locals>."++"<lambda>"
theorem qmh:qlZ qlk qlm lamS ["_law_k"] ["_law_by","_law_rest"]:=⟨rfl,rfl,rfl,by decide +kernel,by decide +kernel,by decide +kernel,by decide +kernel,fun qual cl pm cdv ct us hl=>by
 obtain _|⟨u,_|⟨v,t⟩⟩:=us
 · cases hl
 · rfl
 · simp at hl,by decide +kernel⟩
abbrev fvL (e r:Int):List (Str×V):=[("_law_by",.int e),("_law_rest",.int r)]
def Kf (H:Hp) (f:Addr) (e r:Int):Prop:=Clo H f qlj qlk qlm lamS (fvL e r)
def spK (f:Addr):Sp:=fun vs H Q _=>∃ n e r:Int,vs=[.int n]∧Kf H f e r∧0 < e∧Q (.bl (decide (n % e=r))) H
theorem qdI (i j:Int):decide (V.int i=V.int j)=decide (i=j):=decide_eq_decide.mpr ⟨fun z=>by injection z,fun z=>by rw[z]⟩
theorem qkn {a:Ad}{P:Program}{w:World}{K:Frag}{mg:Str->Option Value}{base:Heap} (T:Txt K mg a) {f:Addr}:qlT P w K mg base 2 f (spK f):=by
 intro A outer s H us vs Q hr e0 r h;obtain⟨n,e,rr,rfl,clo,ee,kk⟩:=h;refine qjv (k:=1) (fv:=fvL e rr) qmh hr e0 clo r rfl fun cl c _ hr' out=>?_;have hU:=hr'.units;refine⟨_,(Qo (uEq hU) (qB QV (pv 0) (pv 1)) (pv 2) (qC _)),?_⟩;refine⟨_,rfl,_,rfl,_,_,rfl,rfl,ee,_,rfl,.inl ⟨rfl,?_⟩⟩;dsimp only;rw[qgF,qdI];exact kk
theorem qlP {α:Type}{k l y:Str}{w v:α} (h:y≠k) (g:y≠l):[(k,w),(l,v)].lookup y=none:=by
 rw[List.lookup_cons,show (y == k)=false from beq_eq_false_iff_ne.mpr h,List.lookup_cons,show (y == l)=false from beq_eq_false_iff_ne.mpr g];rfl
theorem qll:lamS.names=([("_law_k",.local),("_law_by",.free),("_law_rest",.free)]:List (Str×NameKind)):=by decide +kernel
theorem qln {X:Cx}{σ:L2.St}{H' H'':Hp}{f c:Addr}{e r:Int}{o:Obj}{n:Nat}{N:List Str} (lo:qjA X qlk qlm lamS c o) (ci:qcd N (qg zY) (cellsFrom n (qg zY).names []) σ H' H'') (n1:N[13]?=some ("_law_by":Str)) (n2:N[14]?=some ("_law_rest":Str)) (h1:σ[13]?=some (some (.int e))) (h2:σ[14]?=some (some (.int r)))
   (he:X.env={ X.env with qual:="_law_entry"++".<locals>.",cells:=cellsFrom n (qg zY).names [] }) (hf:H' f=some (.ext (qeE f o))) (hc:H' c=some (.ext (qaT c (X.env.qual++"<lambda>")))):Kf H'' f e r:=by
 have hq:X.env.qual="_law_entry"++".<locals>.":=by rw[he]
 have hcl:X.env.cells=cellsFrom n (qg zY).names []:=by rw[he]
 have fr:∀ y∈lamS.names,y.2=NameKind.free->∃ c,X.env.cells.lookup y.1=some c:=by rw[hcl];exact qev (sc:=qg zY) (by decide +kernel)
 have c0:=qkJ (X:=X) (fv:=fvL e r) lo (by rw[hcl];exact ci) hf hc fr (fun y v h=>by
   rw[List.lookup_cons]at h;split at h
   · rename_i z
     cases h;cases eq_of_beq z;exact⟨by rw[qll];decide +kernel,by decide +kernel,13,n1,h1⟩
   rw[List.lookup_cons]at h;split at h
   · rename_i z
     cases h;cases eq_of_beq z;exact⟨by rw[qll];decide +kernel,by decide +kernel,14,n2,h2⟩
   cases h) (fun y h=>by
   by_cases z:y="_law_by"
   · subst z;rfl
   by_cases z2:y="_law_rest"
   · subst z2;rfl
   refine absurd ?_ h;rw[qll]
   first|exact qlP z z2|exact qlP z2 z)
 rw[hq]at c0;exact c0
abbrev Pls:=List (Str×Addr×List (Int×Int))
abbrev tv (ts:Pls):List (Str×V):=ts.map fun t=>(t.1,V.ref t.2.1)
abbrev fsL (td ed bl:Addr):List (Str×V):=[("tables",.ref td),("entries",.ref ed),("bound",.ref bl)]
abbrev prB (b:Str×Str×Int):List V:=[.str b.1,.str b.2.1,.int b.2.2]
def skv (ps:List (Str×V)):List (Key×V):=ps.map fun p=>((.inr p.1:Key),p.2)
theorem qab:∀ {ps:List (Str×V)},(ps.map (·.1)).Nodup->∀ e∈ps,qch (skv ps) (.inr e.1)=some e.2
 | [],_,x,m=>nomatch m
 | y::ps,nd,x,m=>by
   rw[List.map_cons,List.nodup_cons]at nd;unfold skv qch;rw[List.map_cons,List.find?_cons];rcases List.mem_cons.mp m with rfl|m
   · simp
   · have n:¬ ((.inr y.1:Key)=.inr x.1):=fun e=>by
       injection e with e;exact nd.1 (e▸List.mem_map_of_mem m)
     rw[show decide (((.inr y.1:Key),y.2).1=.inr x.1)=false by simpa using n];exact qab nd.2 x m
theorem qd2:∀ {ps:List (Str×V)}{pl:Str},pl∉ps.map (·.1)->qch (skv ps) (.inr pl)=none
 | [],_,_=>rfl
 | y::ps,pl,h=>by
   rw[List.map_cons,List.mem_cons,not_or]at h;unfold skv qch;rw[List.map_cons,List.find?_cons];have n:¬ ((.inr y.1:Key)=.inr pl):=fun e=>by injection e with e;exact h.1 e.symm
   rw[show decide (((.inr y.1:Key),y.2).1=.inr pl)=false by simpa using n];exact qd2 h.2
theorem qfx {ps:List (Str×V)}{pl:Str} (no:pl∉ps.map (·.1)) (v:V):qce (skv ps) (.inr pl) v=skv (ps++[(pl,v)]):=by
 rw[qg5 _ (qd2 no)];unfold skv;rw[List.map_append];rfl
theorem qf2 {ps:List (Str×V)}{pl:Str}{v:V} (nd:(ps.map (·.1)).Nodup) (no:pl∉ps.map (·.1)):((ps++[(pl,v)]).map (·.1)).Nodup:=by
 rw[List.map_append];exact List.nodup_append.mpr ⟨nd,by simp,fun y m z mz e'=>no (by rw[List.mem_singleton.mp mz]at e';have e2:y=pl:=e';rw[← e2];exact m)⟩
structure Tq (a:Ad) (H:Hp) (td:Addr) (ts:Pls):Prop where
 ht:H td=some (.dK (skv (tv ts)))
 tt:∀ t∈ts,Tb a H t.2.1 t.2.2
 tg:∀ t∈ts,Good t.2.2
 nd:(ts.map (·.1)).Nodup
theorem zU (ts:Pls):(tv ts).map (·.1)=ts.map (·.1):=by
 rw[List.map_map];rfl
theorem Tb.sm {a:Ad}{H H':Hp}{x:Addr}{rows:List (Int×Int)} (h:Tb a H x rows) (s:Same H H'):Tb a H' x rows:=by
 obtain⟨k,dx,zs,h1,h2,h3⟩:=h;exact⟨k,dx,zs,s _ _ h1,s _ _ h2,h3.same s⟩
theorem Tq.sm {a:Ad}{H H':Hp}{td:Addr}{ts:Pls} (h:Tq a H td ts) (s:Same H H'):Tq a H' td ts:=⟨s _ _ h.ht,fun t m=>(h.tt t m).sm s,h.tg,h.nd⟩
theorem Tq.get {a:Ad}{H:Hp}{td:Addr}{ts:Pls} (h:Tq a H td ts) {t:Str×Addr×List (Int×Int)} (m:t∈ts):qe6 H td (.str t.1) (some (.ref t.2.1)) :=
 .inl ⟨_,.inr t.1,.inl h.ht,rfl,(qab (by rw[zU];exact h.nd) (t.1,V.ref t.2.1) (List.mem_map.mpr ⟨t,m,rfl⟩)).symm⟩
def Sh (ts:Pls) (pl:Str) (lo hi n:Int):Prop:=∃ t∈ts,t.1=pl∧Mem (shw t.2.2 lo hi) n
theorem qij {ts:Pls} (nd:(ts.map (·.1)).Nodup) {t u:Str×Addr×List (Int×Int)} (h1:t∈ts) (h2:u∈ts) (e:t.1=u.1):t=u:=by
 induction ts with
 | nil=>cases h1
 | cons v ts ih =>
   have nd':=List.nodup_cons.mp nd;rcases List.mem_cons.mp h1 with rfl|m1
   · rcases List.mem_cons.mp h2 with rfl|m2
     · rfl
     · exact absurd (by show t.1∈_;rw[e];exact List.mem_map.mpr ⟨u,m2,rfl⟩) nd'.1
   · rcases List.mem_cons.mp h2 with rfl|m2
     · exact absurd (by show u.1∈_;rw[← e];exact List.mem_map.mpr ⟨t,m1,rfl⟩) nd'.1
     · exact ih nd'.2 m1 m2
theorem qdq {ts:Pls} (nd:(ts.map (·.1)).Nodup) {t:Str×Addr×List (Int×Int)} (m:t∈ts) {lo hi n:Int}:Mem (shw t.2.2 lo hi) n↔Sh ts t.1 lo hi n :=
 ⟨fun h=>⟨t,m,rfl,h⟩,fun⟨u,mu,e,h⟩=>by rw[← qij nd mu m e];exact h⟩
abbrev qhS (n:Int):Prop:=-10000000000≤n∧n≤10000000000
abbrev Gv (H:Hp) (Q:VK) (M:Int->Prop) (k:Nat):Prop:=∀ (d:Addr) (r:List (Int×Int)) (H':Hp),H d=none->Same H H'->Rs H' d r->zi r->r.length≤k->(∀ n,Mem r n↔M n)->Q (.ref d) H'
inductive QB (a:Ad) (vs:List V) (H:Hp) (Q:VK):Prop
 | mk (x C dx td:Addr) (nm pl:Str) (lo hi:Int) (ts:Pls) (h1:vs=[.ref x,.ref td]) (h2:(C=a.c_Between∨C=a.c_Read)) (h3:H x=some (.ins C dx (fsB nm pl lo hi))) (h4:Tq a H td ts) (h5:pl∈ts.map (·.1)) (h6:qhS lo) (h7:qhS hi) (h8:Gv H Q (Sh ts pl lo hi) 21):QB a vs H Q
def zj (a:Ad):Sp:=fun vs H Q _=>QB a vs H Q
inductive Pm (a:Ad) (H:Hp) (ts:Pls) (x:Addr):(Int->Prop)->Prop
 | within {dx:Addr}{nm:Str}{lo hi:Int}:H x=some (.ins a.c_Within dx (fsW nm lo hi))->Pm a H ts x (fun n=>lo≤n∧n≤hi)
 | between {dx:Addr}{nm pl:Str}{lo hi:Int}:H x=some (.ins a.c_Between dx (fsB nm pl lo hi))->pl∈ts.map (·.1)->qhS lo->qhS hi->Pm a H ts x (Sh ts pl lo hi)
theorem Pm.same {a:Ad}{H H':Hp}{ts:Pls}{x:Addr}{M:Int->Prop} (h:Pm a H ts x M) (s:Same H H'):Pm a H' ts x M:=by
 cases h with
 | within e=>exact .within (s _ _ e)
 | between e h1 h2 h3=>exact .between (s _ _ e) h1 h2 h3
theorem mem1 {lo hi n:Int}:Mem [(lo,hi)] n↔lo≤n∧n≤hi:=by
 constructor
 · rintro⟨w,m,h1,h2⟩;rw[List.mem_singleton.mp m]at h1 h2;exact⟨h1,h2⟩
 · rintro⟨h1,h2⟩;exact⟨_,List.mem_singleton.mpr rfl,h1,h2⟩
theorem qjY {K:Frag}{mg:Str->Option Value}{a:Ad} (T:Txt K mg a) {te:TE}{ta:TA}{σ:L2.St}{H:Hp}{Q:VK}{x td:Addr}{ts:Pls}{M:Int->Prop} (hte:∀ R:V->Hp->Prop,R (.ref x) H->te σ H R) (hta:∀ R:List V->Hp->Prop,R [.ref td] H->ta σ H R) (pm:Pm a H ts x M) (tq:Tq a H td ts) (k:Gv H Q M 21) :
   QJ a.c_Within "spans" (qU K) [] E0 te ta σ H Q∨QJ a.c_Between "spans" (zj a) [] E0 te ta σ H Q:=by
 cases pm with
 | @within dx nm lo hi hx=>exact .inl (hte _ ⟨x,dx,_,rfl,hx,rfl,hta _ ⟨x,_,dx,_,_,_,_,rfl,hx,T.cl_Within,T.n_Within_low,T.n_Within_high,fun f r H' ff S' R c l m=>k f r H' ff S' R c (Nat.le_trans l (by decide)) fun n=>(m n).trans mem1⟩⟩)
 | @between dx nm pl lo hi hx h1 h2 h3=>exact .inr (hte _ ⟨x,dx,_,rfl,hx,rfl,hta _ ⟨x,_,dx,td,nm,pl,lo,hi,ts,rfl,.inl rfl,hx,tq,h1,h2,h3,k⟩⟩)
def MJ (ps:List (Addr×(Int->Prop))) (n:Int):Prop:=(0≤n∧n≤1000000000)∧∀ p∈ps,p.2 n
inductive Zd (a:Ad) (vs:List V) (H:Hp) (Q:VK):Prop
 | mk (x dx l td:Addr) (nm:Str) (ps:List (Addr×(Int->Prop))) (ts:Pls) (h1:vs=[.ref x,.ref td]) (h2:H x=some (.ins a.c_Joint dx (fsJ nm l))) (h3:H l=some (.lst (ps.map fun p=>V.ref p.1))) (h4:ps.length≤8) (h5:(∀ p∈ps,Pm a H ts p.1 p.2)) (h6:Tq a H td ts) (h7:Gv H Q (MJ ps) 400):Zd a vs H Q
def QF (a:Ad):Sp:=fun vs H Q _=>Zd a vs H Q
theorem qhQ {α:Type}{p:α->Prop}{l:List α}{i:Nat}{x:α} (h:l[i]?=some x):(∀ y∈l.take (i+1),p y)↔(∀ y∈l.take i,p y)∧p x:=by
 rw[List.take_add_one,h];constructor
 · intro k;exact⟨fun y m=>k y (List.mem_append_left _ m),k x (List.mem_append_right _ (List.mem_singleton.mpr rfl))⟩
 · rintro⟨k1,k2⟩ y m;rcases List.mem_append.mp m with m|m
   · exact k1 y m
   · rw[show y=x from List.mem_singleton.mp m];exact k2
def mo (w:Int×Int):List Int:=(List.range (w.2+1 - w.1).toNat).map fun k:Nat=>w.1+(k:Int)
def mos (r:List (Int×Int)):List Int:=r.flatMap mo
abbrev kq (e r n:Int):Bool:=decide (n % e=r)
abbrev dup (n:Int):Int×Int:=(n,n)
theorem mem_mo {w:Int×Int}{n:Int}:n∈mo w↔w.1≤n∧n≤w.2:=by
 unfold mo;rw[List.mem_map];constructor
 · rintro⟨k,mk,e⟩
   have:=List.mem_range.mp mk
   omega
 · rintro⟨h1,h2⟩;exact⟨(n - w.1).toNat,List.mem_range.mpr (by omega),by omega⟩
theorem mem_mos {r:List (Int×Int)}{n:Int}:n∈mos r↔Mem r n:=by
 unfold mos;rw[List.mem_flatMap];exact⟨fun⟨w,m,h⟩=>⟨w,m,mem_mo.mp h⟩,fun⟨w,m,h⟩=>⟨w,m,mem_mo.mpr h⟩⟩
theorem qik:∀ {r:List (Int×Int)},zi r->(mos r).Nodup
 | [],_=>List.nodup_nil
 | w::r,c=>by
   have c':zi r:=⟨fun u m=>c.1 u (List.mem_cons_of_mem _ m),(List.pairwise_cons.mp c.2).2⟩
   unfold mos;rw[List.flatMap_cons];refine List.nodup_append.mpr ⟨?_,qik c',fun n h1 m h2 e=>?_⟩
   · unfold mo;refine List.Pairwise.map _ (fun i j h=>?_) (List.nodup_range (n:=(w.2+1 - w.1).toNat));intro z;exact h (by omega)
   · subst e;obtain⟨u,mu,u1,u2⟩:=mem_mos.mp (show n∈mos r from h2)
     have:=(List.pairwise_cons.mp c.2).1 u mu
     have:=(mem_mo.mp h1).2
     omega
theorem qdV:∀ {l m:List Int},l.Nodup->(∀ x∈l,x∈m)->l.length≤m.length
 | [],_,_,_=>Nat.zero_le _
 | x::l,m,nd,h=>by
   rw[List.nodup_cons]at nd;have mx:=h x List.mem_cons_self
   have:=qdV (l:=l) (m:=m.erase x) nd.2 fun y my=>by
     have ne:y≠x:=fun e=>nd.1 (by rw[← e];exact my);exact(List.mem_erase_of_ne ne).mpr (h y (List.mem_cons_of_mem _ my))
   rw[List.length_erase_of_mem mx]at this
   have:=List.length_pos_of_mem mx
   rw[List.length_cons];omega
theorem qe2 {r:List (Int×Int)} (c:zi r) (i:Nat):zi (r.take i):=⟨fun w m=>c.1 w (List.mem_of_mem_take m),c.2.sublist (List.take_sublist _ _)⟩
theorem qgX {β:Type}{f:β->List V}{H:Hp}{xs ys:List V}{ps qs:List β} (h:TupL f H xs ps) (g:TupL f H ys qs):TupL f H (xs++ys) (ps++qs):=by
 have hl:=h.1;refine⟨by rw[List.length_append,List.length_append,h.1,g.1],fun j z y e1 e2=>?_⟩;by_cases c:j < xs.length
 · rw[List.getElem?_append_left c]at e1;rw[List.getElem?_append_left (by omega)]at e2;exact h.2 j z y e1 e2
 · rw[List.getElem?_append_right (by omega)]at e1;rw[List.getElem?_append_right (by omega)]at e2;rw[hl]at e1;exact g.2 _ z y e1 e2
theorem qf4 {l:List Int}{n:Int}:Mem (l.map dup) n↔n∈l:=by
 constructor
 · rintro⟨w,m,h1,h2⟩;obtain⟨k,mk,rfl⟩:=List.mem_map.mp m;have h1':k≤n:=h1;have h2':n≤k:=h2;rw[Int.le_antisymm h2' h1'];exact mk
 · intro m;exact⟨dup n,List.mem_map_of_mem m,Int.le_refl _,Int.le_refl _⟩
theorem qeo {r:List (Int×Int)}{i:Nat}{w:Int×Int} (h:r[i]?=some w):mos (r.take (i+1))=mos (r.take i)++mo w:=by
 unfold mos;rw[List.take_add_one,h,List.flatMap_append];simp
theorem qjk {r:List (Int×Int)}{i:Nat}:∀ n∈mos (r.take i),n∈mos r:=fun n m=>by
 obtain⟨w,mw,h⟩:=List.mem_flatMap.mp m;exact List.mem_flatMap.mpr ⟨w,List.mem_of_mem_take mw,h⟩
theorem qiF (w:Int×Int):(mo w).Pairwise (· < ·):=by
 unfold mo;exact List.Pairwise.map _ (fun i j h=>by omega) (List.pairwise_lt_range (n:=(w.2+1 - w.1).toNat))
theorem qgI:∀ {r:List (Int×Int)},zi r->(mos r).Pairwise (· < ·)
 | [],_=>List.Pairwise.nil
 | w::r,c=>by
   have c':zi r:=⟨fun u m=>c.1 u (List.mem_cons_of_mem _ m),(List.pairwise_cons.mp c.2).2⟩
   unfold mos;rw[List.flatMap_cons];refine List.pairwise_append.mpr ⟨qiF w,qgI c',fun n h1 m h2=>?_⟩;obtain⟨u,mu,u1,u2⟩:=mem_mos.mp (show m∈mos r from h2)
   have:=(List.pairwise_cons.mp c.2).1 u mu
   have:=(mem_mo.mp h1).2
   omega
theorem qiQ {us:List Int} (h:us.Pairwise (· < ·)) (l:us.length≤1000):SrtOk (us.map dup):=by
 refine .inr ⟨by rw[List.length_map];exact l,?_⟩;rw[List.map_map];refine List.Pairwise.map _ (fun i j h=>?_) h;show (if j=i then _ else decide (j < i))=false;rw[if_neg (by omega),decide_eq_false (by omega)]
inductive QN (a:Ad) (vs:List V) (H:Hp) (Q:VK):Prop
 | mk (x dx p dp f:Addr) (td:V) (nm pn:Str) (lo hi e r:Int) (h1:vs=[.ref x,td]) (h2:H x=some (.ins a.c_Sifted dx (fsS nm p f))) (h3:H p=some (.ins a.c_Within dp (fsW pn lo hi))) (h4:hi - lo < 1000) (h5:0≤lo) (h6:hi≤1000000000) (h7:Kf H f e r) (h8:0 < e) (h9:Gv H Q (fun n=>(lo≤n∧n≤hi)∧n % e=r) 1000):QN a vs H Q
def Qk (a:Ad):Sp:=fun vs H Q _=>QN a vs H Q
section
variable {P:Program}{w:World}{K:Frag}{mg:Str->Option Value}{base:Heap}
theorem Zi {a:Ad} (T:Txt K mg a):FnOk P w K mg base CX0 6 a.f_s a.fd_s ["self","tables"] (zj a):=by
 have G_ah:=QX (P:=P) (w:=w) (base:=base) T;refine T.d_s.F.ok JL (fun vs H Q E h=>?_) (fun cdv A outer s H vs Q E hr h=>?_)
 · obtain⟨x,C,dx,td,nm,pl,lo,hi,ts,rfl,hC,hx,tq,hp,hlo,hhi,kk⟩:=h;rfl
 · obtain⟨x,C,dx,td,nm,pl,lo,hi,ts,rfl,hC,hx,tq,hp,hlo,hhi,kk⟩:=h;have hu:=qJ hr;have h_ah:Room (5) _:=hr.mono (by decide)
   refine⟨_,(qd (qS (qu (qav hu) (qN (pv 0) rfl) (pv 1) (by with_unfolding_all rfl))
       (qf qO)
       qA)
     (qf (qE (qL (qfS hu (pv 1) (qN (pv 0) rfl) (fun _ _=>rfl)) T.cl_Table T.d_ah.mt G_ah h_ah T.d_ah.b .nil qm (qa (qN (pv 0) rfl) (qa (qN (pv 0) rfl) qb)))))),?_⟩
   try dsimp only [zw,Cx.nox]
   obtain⟨cl,n_place,n_low,n_high⟩:Cls K C∧NoAttr K C "place"∧NoAttr K C "low"∧NoAttr K C "high":=by
     rcases hC with rfl|rfl
     · exact⟨T.cl_Between,T.n_Between_place,T.n_Between_low,T.n_Between_high⟩
     · exact⟨T.cl_Read,T.n_Read_place,T.n_Read_low,T.n_Read_high⟩
   obtain⟨t,mt,et⟩:=List.mem_map.mp hp;have et:t.1=pl:=et;subst et;refine⟨_,rfl,x,_,dx,_,_,rfl,hx,cl,n_place,rfl,_,rfl,td,_,rfl,tq.get mt,_,rfl,q8 rfl ?_⟩;obtain⟨k0,dt,zs0,ht,hk0,tp0⟩:=id (tq.tt t mt);refine⟨_,rfl,_,rfl,x,_,dx,_,_,rfl,hx,cl,n_place,rfl,td,_,rfl,tq.get mt,t.2.1,dt,_,rfl,ht,qgm _ (by decide),?_⟩;exact⟨_,rfl,x,_,dx,_,_,rfl,hx,cl,n_low,rfl,_,rfl,x,_,dx,_,_,rfl,hx,cl,n_high,rfl,t.2.1,t.2.2,lo,hi,rfl,tq.tt t mt,tq.tg t mt,hlo,hhi,fun d r H' fd S R c l m=>kk d r H' fd S R c l fun n=>(m n).trans (qdq tq.nd mt)⟩
theorem qa4 {a:Ad} (T:Txt K mg a):FnOk P w K mg base CX0 7 a.f_7 a.fd_7 ["self","tables"] (QF a):=by
 have G_J:=qja (P:=P) (w:=w) (base:=base) T;have G_e:=zS (P:=P) (w:=w) (base:=base) T;have G_s:=Zi (P:=P) (w:=w) (base:=base) T;refine T.d_7.F.ok sc_Joint_spans (fun vs H Q E h=>?_) (fun cdv A outer s H vs Q E hr h=>?_)
 · obtain⟨x,dx,l,td,nm,ps,ts,rfl,hx,hl,n8,pm,tq,kk⟩:=h;rfl
 · obtain⟨x,dx,l,td,nm,ps,ts,rfl,hx,hl,n8,pm,tq,kk⟩:=h;have h_J:Room (1) _:=hr.mono (by decide);have h_e:Room (5) _:=hr.mono (by decide);have h_s:Room (6) _:=hr.mono (by decide);obtain⟨t_LAST,c_LAST⟩:=T.g_LAST
   refine⟨_,(qd (qz (i:=2) sc_Joint_spans.nd rfl (Or.inl rfl) (qT (qa (qQ (qa qe (qa (za (v:=.int 1000000000) rfl c_LAST ⟨_,rfl⟩) qb))) qb)))
     (qd (zP PassesOwn.never rfl (qX (qN (pv 0) rfl)) (qq (i:=3) (sc_Joint_spans.nd) rfl (Or.inl rfl))
       (qf (qz (i:=2) sc_Joint_spans.nd rfl (Or.inl rfl) (qj G_J h_J rfl T.d_J.m T.d_J.k T.d_J.b .nil qm (qa (pv 2) (qa (PE.or (qL (pv 3) T.cl_Within T.d_e.mt G_e h_e T.d_e.b .nil qm (qa (pv 1) qb)) (qL (pv 3) T.cl_Between T.d_s.mt G_s h_s T.d_s.b .nil qm (qa (pv 1) qb))) qb))))))
     (qf (qE (pv 2))))),?_⟩
   try dsimp only [zw,Cx.nox]
   refine⟨ql (Nat.le_of_ble_eq_true rfl),fun t0 f0=>⟨ql (Nat.le_of_ble_eq_true rfl),fun d0 fd0=>?_⟩⟩;have S1:=Same.new (.tup [.int 0,.int 1000000000]) f0;have S2:=Same.new (.lst [.ref t0]) fd0;have R0:Rs (upd (upd H t0 (.tup [.int 0,.int 1000000000])) d0 (.lst [.ref t0])) d0 [(0,1000000000)]:=qbx (w:=(0,1000000000)) (S2 _ _ qc) qc;have S0:=S1.trans S2;have g0:H d0=none:=S1.none fd0;generalize upd (upd H t0 (.tup [.int 0,.int 1000000000])) d0 (.lst [.ref t0])=G at R0 S0 ⊢;(try unfold qF);(try dsimp only);refine⟨_,rfl,x,_,dx,_,_,rfl,S0 _ _ hx,T.cl_Joint,T.n_Joint_kept_parts,rfl,l,rfl,⟨_,SqL.of (S0 _ _ hl)⟩,zH (K:=K) (a:=l) (xs:=ps.map fun p=>V.ref p.1) (D:={ nx:=qfn (qe7 2) { nx:=fun _ H'=>Q .non H',rt:=Q },rt:=Q }) (fun j σ H'=>∃ (s3:Option V) (d:Addr) (rr:List (Int×Int)),σ=[some (.ref x),some (.ref td),some (.ref d),s3]∧Same H H'∧H d=none∧Rs H' d rr∧zi rr∧rr.length≤1+21 * j∧∀ n,Mem rr n↔(0≤n∧n≤1000000000)∧∀ p∈ps.take j,p.2 n) ⟨none,d0,_,rfl,S0,g0,R0,⟨fun w m=>by rw[List.mem_singleton.mp m];decide,List.pairwise_singleton _ _⟩,Nat.le_of_ble_eq_true rfl,fun n=>?_⟩ (fun j σ H' _ ⟨_,_,_,_,S,_⟩=>SqL.of (S _ _ hl)) ?_ ?_⟩
   · exact mem1.trans ⟨fun h=>⟨h,fun p m=>nomatch m⟩,fun h=>h.1⟩
   · rintro j z σ H2 hz ⟨s3,d,rr,rfl,S,gd,R,can,lr,mem⟩;obtain⟨b,hb,rfl⟩:=zh hz;have mb:=List.mem_of_getElem? hb;have jl:j < ps.length:=(List.getElem?_eq_some_iff.mp hb).1;refine⟨_,rfl,qjY T (fun R h=>⟨_,rfl,h⟩) (fun R h=>⟨_,rfl,h⟩) ((pm b mb).same S) (tq.sm S) fun f r2 H3 ff S3 R3 c3 l3 m3=>?_⟩;refine⟨d,f,rr,r2,rfl,R.same S3,R3,can,c3,by omega,fun d4 r4 H4 fd4 S4 R4 c4 l4 m4=>?_⟩;refine⟨_,d4,r4,rfl,(S.trans S3).trans S4,(S.trans S3).none fd4,R4,c4,by omega,fun n=>?_⟩;rw[m4,mem,m3,qhQ (p:=fun q:Addr×(Int->Prop)=>q.2 n) hb];exact and_assoc
   · rintro σ H2 ⟨s3,d,rr,rfl,S,gd,R,can,lr,mem⟩;rw[List.length_map]at lr mem;rw[List.take_length]at mem;exact⟨_,rfl,kk d rr H2 gd S R can (by omega) mem⟩
theorem qaz {a:Ad} (T:Txt K mg a):FnOk P w K mg base CX0 6 a.f_aa a.fd_aa ["self","tables"] (Qk a):=by
 have G_e:=zS (P:=P) (w:=w) (base:=base) T;have G_k:=jo (P:=P) (w:=w) (base:=base) T;refine T.d_aa.F.ok sc_Sifted_spans (fun vs H Q E h=>?_) (fun cdv A outer s H vs Q E hr h=>?_)
 · obtain⟨x,dx,p,dp,f,td,nm,pn,lo,hi,e,r,rfl,hx,hp,hlt,lo0,hi9,hf,he0,kk⟩:=h;rfl
 · obtain⟨x,dx,p,dp,f,td,nm,pn,lo,hi,e,r,rfl,hx,hp,hlt,lo0,hi9,hf,he0,kk⟩:=h;have hu:=qJ hr;have h_e:Room (5) _:=hr.mono (by decide);have h_k:Room (4) _:=hr.mono (by decide)
   refine⟨_,(qd (qz (i:=2) sc_Sifted_spans.nd rfl (Or.inr rfl) (qN (pv 0) rfl))
     (qd (qz (i:=3) sc_Sifted_spans.nd rfl (Or.inl rfl) (qT qb))
     (qd (zP PassesOwn.never rfl (qX (qL (qN (pv 0) rfl) T.cl_Within T.d_e.mt G_e h_e T.d_e.b .nil qm (qa (pv 1) qb))) (zK rfl (qr (qq (i:=4) (sc_Sifted_spans.nd) rfl (Or.inl rfl)) (qr (qq (i:=5) (sc_Sifted_spans.nd) rfl (Or.inl rfl)) zg)))
       (qf (qD (Zk PySem.F.plainAttrs_list PySem.F.slot_list_extend PySem.F.type_list_extend qcX (pv 3) (qa (Qb rfl (CompOk.def ["moment","keeps"] [none,some 2]) (qcH rfl T.n_range (qa (pv 4) (qa (qB Qx (pv 5) qe) qb))) (fun _ _ _ _ _=>(qq (i:=0) (show List.Nodup (["moment","keeps"]:List Str) by decide +kernel) rfl (Or.inl rfl))) (fun _ _ _ _ _=>(qas (zo (qhe (k:=2) (Ok:=fun f sp=>sp=spK f) (pv 1) (hr.mono (by decide)) (fun f sp h=>by rw[h];exact qkn T) (qa (pv 0) qb))))) (fun _ _ _ _ _=>(qQ (qa (pv 0) (qa (pv 0) qb))))) qb)))))
     (qf (qE (qj G_k h_k rfl T.d_k.m T.d_k.k T.d_k.b .nil qm (qa (pv 3) qb))))))),?_⟩
   try dsimp only [zw,Cx.nox]
   have l1k:(mo (lo,hi)).length≤1000:=by
     unfold mo;rw[List.length_map,List.length_range];show (hi+1 - lo).toNat≤1000;omega
   have lm:∀ n,lo≤n∧n≤hi->n∈mo (lo,hi):=fun n h=>mem_mo.mpr h
   have lb:∀ n∈mo (lo,hi),0≤n∧n≤1000000000:=fun n m=>by
     have:=mem_mo.mp m
     have h1:lo≤n:=this.1;have h2:n≤hi:=this.2;omega
   refine⟨_,rfl,x,_,dx,_,_,rfl,hx,T.cl_Sifted,T.n_Sifted_keeps,rfl,?_⟩;(try unfold qF);(try dsimp only);refine⟨ql (Nat.le_of_ble_eq_true rfl),fun t ft=>?_⟩;generalize hG:upd H t _=G;obtain⟨S0,e0⟩:=qt hG ft;clear hG;(try unfold qF);(try dsimp only);refine q9 (t:=qiL _ _ _) (fun σ' H'=>∃ (s4 s5:Option V) (us:List Int),σ'=[some (.ref x),some td,some (.ref f),some (.ref t),s4,s5]∧Same H H'∧Rs H' t (us.map dup)∧us.length≤1000∧us.Pairwise (· < ·)∧∀ n,n∈us↔(lo≤n∧n≤hi)∧n % e=r) (fun N hN=>?_) ?_
   · refine⟨_,rfl,x,_,dx,_,_,rfl,(S0 _ _ hx),T.cl_Sifted,T.n_Sifted_part,rfl,p,dp,_,rfl,S0 _ _ hp,rfl,_,rfl,p,_,dp,_,_,_,_,rfl,S0 _ _ hp,T.cl_Within,T.n_Within_low,T.n_Within_high,fun fq rr H1 ff S1 ⟨zs,hfq,tz⟩ can l21 mem0=>?_⟩;have mem:∀ n,Mem rr n↔lo≤n∧n≤hi:=fun n=>(mem0 n).trans mem1;have lz:zs.length=rr.length:=tz.1;have lenu:∀ i,((mos (rr.take i)).filter (kq e r)).length≤1000:=fun i=>Nat.le_trans (qdV ((qik (qe2 can i)).filter _) fun n m=>lm n ((mem n).mp (mem_mos.mp (qjk n (List.mem_filter.mp m).1)))) l1k;have nft:fq≠t:=fun z=>by rw[z,e0]at ff;cases ff
     have ht1:=S1 _ _ e0;refine⟨fq,rfl,⟨_,SqL.of hfq⟩,zH (K:=K) (a:=fq) (xs:=zs) (D:={ nx:=N,rt:=Q }) (fun j σ H'=>∃ (s4 s5:Option V),σ=[some (.ref x),some td,some (.ref f),some (.ref t),s4,s5]∧But t H1 H'∧Rs H' t (((mos (rr.take j)).filter (kq e r)).map dup)) ⟨_,_,rfl,But.refl _ _,⟨[],ht1,.nil⟩⟩ (fun j σ H' _ ⟨_,_,_,b,_⟩=>SqL.of (b _ _ hfq nft)) ?_ ?_⟩
     · rintro j z σ H2 hz ⟨s4,s5,rfl,B2,⟨zt,ht,tt⟩⟩;obtain⟨w,u,hw',rfl,hu0⟩:=tz.of hz;have hu:=B2 _ _ hu0 (zN hu0 ht1 (by intro z;cases z));have mw:=List.mem_of_getElem? hw';have w12:=can.1 w mw;have b1:=lb w.1 (lm _ ((mem _).mp ⟨w,mw,Int.le_refl _,w12⟩));have b2:=lb w.2 (lm _ ((mem _).mp ⟨w,mw,w12,Int.le_refl _⟩));have lt:=tt.1;rw[List.length_map]at lt;have l0:=lenu j;have l1:=lenu (j+1);rw[qeo hw',List.filter_append,List.length_append]at l1;refine⟨u,_,rfl,SqT.of hu,rfl,_,_,rfl,_,_,rfl,rfl,?_⟩;refine⟨_,rfl,.inl ⟨rfl,_,SqL.of ht⟩,_,rfl,_,rfl,.inl ⟨_,_,rfl,rfl,_,_,rfl,⟨by omega,by omega,by omega,by omega⟩,fun D fD=>?_⟩⟩;have eT:(w.2+1 - w.1).toNat=(w.2+1 - w.1).toNat:=rfl;refine qbD (lo:=w.1) (n:=(w.2+1 - w.1).toNat) (D:=D) (fun i σ H3=>∃ (c0:Option V) (ys:List V),σ=[c0,some (.ref f)]∧Same H2 H3∧H3 D=some (.lst ys)∧TupL pr H3 ys ((((List.range i).map fun k:Nat=>w.1+(k:Int)).filter (kq e r)).map dup)) ⟨none,[],rfl,Same.new _ fD,qc,.nil⟩ ?_ ?_
       · rintro i σ H3 hi ⟨c0,ys,rfl,S3,hD,ty⟩
         have es:(((List.range (i+1)).map fun k:Nat=>w.1+(k:Int)).filter (kq e r))=(((List.range i).map fun k:Nat=>w.1+(k:Int)).filter (kq e r))++(if kq e r (w.1+(i:Int))=true then [w.1+(i:Int)] else []):=by
           rw[List.range_succ,List.map_append,List.filter_append];congr 1;show List.filter (kq e r) [w.1+(i:Int)]=_;rw[List.filter_cons];split<;>rfl
         have SH3:Same H H3:=fun b o e'=>S3 b o (B2 b o (S1 b o (S0 b o e')) (qi e' ft));have hf3:=Clo.same hf SH3;obtain⟨cl,c,pm,ctv,hfo,_,_,_,_⟩:=id hf3;refine⟨_,rfl,f,spK f,_,_,rfl,hfo,rfl,rfl,_,rfl,hfo,w.1+(i:Int),e,r,rfl,hf3,he0,_,rfl,?_⟩;refine qkX (fun g=>?_) (fun g=>?_)
         · refine⟨_,rfl,_,rfl,ql (Nat.le_of_ble_eq_true rfl),fun v fv=>⟨ys,(Same.new _ fv) _ _ hD,qw ?_,_,_,rfl,(S3.trans (Same.new _ fv)).put fD _,qc,?_⟩⟩
           · have h1:=ty.1;rw[List.length_map]at h1
             have h2:(((List.range i).map fun k:Nat=>w.1+(k:Int)).filter (kq e r)).length≤((mo w).filter (kq e r)).length:=by
               refine List.Sublist.length_le (List.Sublist.filter _ ?_);unfold mo;exact List.Sublist.map _ (List.range_sublist.mpr (by omega))
             omega
           · rw[es,if_pos g,List.map_append];exact((ty.same (Same.new _ fv)).snoc (p:=dup (w.1+(i:Int))) qc).put ((Same.new _ fv) _ _ hD)
         · refine⟨_,ys,rfl,S3,hD,?_⟩;rw[es,if_neg (by rw[show kq e r (w.1+(i:Int))=false from g];decide),List.append_nil];exact ty
       · rintro σ H3 ⟨c0,ys,rfl,S3,hD,ty⟩;have tyw:TupL pr H3 ys (((mo w).filter (kq e r)).map dup):=ty;have ly:=tyw.1;rw[List.length_map]at ly;refine⟨t,D,_,_,rfl,rfl,S3 _ _ ht,hD,Nat.le_of_lt (qw (by omega)),?_⟩;refine⟨_,_,rfl,fun b o e nb=>by rw[qh nb];exact S3 b o (B2 b o e nb),?_⟩;rw[qeo hw',List.filter_append,List.map_append];exact⟨_,qc,TupL.put (qgX (tt.same S3) tyw) (S3 _ _ ht)⟩
     · rintro σ H2 ⟨s4,s5,rfl,B2,R2⟩;rw[lz,List.take_length]at R2;refine hN _ _ ⟨_,_,_,rfl,fun b o e=>B2 b o (S1 b o (S0 b o e)) (qi e ft),R2,by have:=lenu rr.length;rw[List.take_length]at this;exact this,(qgI can).sublist List.filter_sublist,fun n=>?_⟩;rw[List.mem_filter,mem_mos,mem];simp only[decide_eq_true_eq]
   rintro _ H2 ⟨s4,s5,us,rfl,S2,R2,l2,as2,m2⟩;refine⟨_,rfl,t,us.map dup,rfl,R2,qiQ as2 l2,fun d rr H3 fd S3 R3 c3 l3 m3=>?_⟩;refine kk d rr H3 (S2.none fd) (S2.trans S3) R3 c3 (by rw[List.length_map]at l3;omega) fun n=>?_;rw[m3,qf4,m2]
end
structure Lo (a:Ad) (H:Hp) (x td ed bl:Addr) (ps ns:List (Str×V)) (zs:List V):Prop where
 hx:∃ dx,H x=some (.ins a.c_Log dx (fsL td ed bl))
 ht:H td=some (.dK (skv ps))
 he:H ed=some (.dK (skv ns))
 hb:H bl=some (.lst zs)
 ne:td≠ed
 ndt:(ps.map (·.1)).Nodup
 nde:(ns.map (·.1)).Nodup
section
variable {a:Ad}{H H':Hp}{x td ed bl:Addr}{ps ns:List (Str×V)}{zs:List V}
theorem Lo.sm (h:Lo a H x td ed bl ps ns zs) (s:Same H H'):Lo a H' x td ed bl ps ns zs :=
 ⟨let ⟨dx,e⟩:=h.hx;⟨dx,s _ _ e⟩,s _ _ h.ht,s _ _ h.he,s _ _ h.hb,h.ne,h.ndt,h.nde⟩
theorem Lo.eget (h:Lo a H x td ed bl ps ns zs) {e:Str×V} (m:e∈ns):qe6 H ed (.str e.1) (some e.2):=.inl ⟨_,.inr e.1,.inl h.he,rfl,(qab h.nde e m).symm⟩
theorem Lo.tget (h:Lo a H x td ed bl ps ns zs) {e:Str×V} (m:e∈ps):qe6 H td (.str e.1) (some e.2):=.inl ⟨_,.inr e.1,.inl h.ht,rfl,(qab h.ndt e m).symm⟩
end
theorem qko {H:Hp}{a b:Addr}{o:HO} (h:upd H a o b=none):H b=none:=by
 by_cases e:b=a
 · subst e;rw[qc]at h;cases h
 · rw[qh e]at h;exact h
theorem qdp {α:Type}{p:α->Bool}{l:List α}{i:Nat}{x:α} (h:l[i]?=some x):(l.take (i+1)).filter p=(l.take i).filter p++(if p x=true then [x] else []):=by
 rw[List.take_add_one,h,List.filter_append];congr 1;by_cases c:p x=true
 · simp[c]
 · simp[c]
theorem TupL.putD {β:Type}{f:β->List V}{H:Hp}{d:Addr}{kvs:List (Key×V)}{zs:List V}{ps:List β} (h:TupL f H zs ps) (e:H d=some (.dK kvs)) (o:HO):TupL f (upd H d o) zs ps:=⟨h.1,fun j z y e1 e2=>by
 obtain⟨t,et,ht⟩:=h.2 j z y e1 e2
 exact⟨t,et,by rw[qh (zN ht e (by intro z;cases z))];exact ht⟩⟩
theorem qhF (ns:List (Str×V)) (s:Str):qdK (skv ns) (.inr s)=skv (ns.filter fun n=>decide (n.1≠s)):=by
 unfold qdK skv;rw[List.filter_map];congr 1;refine List.filter_congr fun t _=>?_;show decide (¬ (Sum.inr t.1=(Sum.inr s:Key)))=decide (¬ t.1=s);exact decide_eq_decide.mpr ⟨fun h z=>h (by rw[z]),fun h z=>h (by injection z)⟩
theorem qfr (x y:Str):decide (V.str x=V.str y)=decide (x=y):=decide_eq_decide.mpr ⟨fun z=>by injection z,fun z=>by rw[z]⟩
section
variable {a:Ad}{H:Hp}{x td ed bl:Addr}{ps ns:List (Str×V)}{zs:List V}
theorem Lo.pe (h:Lo a H x td ed bl ps ns zs) (ns':List (Str×V)) (nd:(ns'.map (·.1)).Nodup):Lo a (upd H ed (.dK (skv ns'))) x td ed bl ps ns' zs :=
 ⟨let ⟨dx,e⟩:=h.hx;⟨dx,by rw[qh (zN e h.he (by intro z;cases z))];exact e⟩,by rw[qh h.ne];exact h.ht,qc,by rw[qh (zN h.hb h.he (by intro z;cases z))];exact h.hb,h.ne,h.ndt,nd⟩
theorem Lo.pt (h:Lo a H x td ed bl ps ns zs) (ps':List (Str×V)) (nd:(ps'.map (·.1)).Nodup):Lo a (upd H td (.dK (skv ps'))) x td ed bl ps' ns zs :=
 ⟨let ⟨dx,e⟩:=h.hx;⟨dx,by rw[qh (zN e h.ht (by intro z;cases z))];exact e⟩,qc,by rw[qh h.ne.symm];exact h.he,by rw[qh (zN h.hb h.ht (by intro z;cases z))];exact h.hb,h.ne,nd,h.nde⟩
end
theorem qac (ps:List (Str×V)):(skv ps).length=ps.length:=by unfold skv;rw[List.length_map]
theorem qeB {n:Nat} (h:n≤100):n < sizeLine:=qw (by omega)
theorem qim {ns:List (Str×V)}{n:Str} (h:n∈ns.map (·.1)):∃ e∈ns,e.1=n:=by
 obtain⟨e,m,ee⟩:=List.mem_map.mp h;exact⟨e,m,ee⟩
inductive Kd where
 | any|wi (lo hi:Int)|at_ (m:Int)|bt (pl:Str) (lo hi:Int)|rd (pl:Str) (m:Int)|jn (pl:Str) (lo hi l h:Int)|sf (l h e r:Int)
def Kd.pls:Kd->List Str
 | .bt pl _ _=>[pl]
 | .rd pl _=>[pl]
 | .jn pl _ _ _ _=>[pl]
 | _=>[]
def MK (ts:Pls):Kd->Int->Prop
 | .any,n=>0≤n∧n≤1000000000
 | .wi lo hi,n=>lo≤n∧n≤hi
 | .at_ m,n=>m≤n∧n≤m
 | .bt pl lo hi,n=>Sh ts pl lo hi n
 | .rd pl m,n=>Sh ts pl m m n
 | .jn pl lo hi l h,n=>(0≤n∧n≤1000000000)∧Sh ts pl lo hi n∧l≤n∧n≤h
 | .sf l h e r,n=>(l≤n∧n≤h)∧n % e=r
inductive EnD (a:Ad) (H:Hp) (y:Addr) (nm:Str):Kd->Prop
 | any {dx:Addr}:H y=some (.ins a.c_Entry dx [("name",.str nm)])->EnD a H y nm .any
 | wi {dx:Addr}{lo hi:Int}:H y=some (.ins a.c_Within dx (fsW nm lo hi))->EnD a H y nm (.wi lo hi)
 | at_ {dx:Addr}{m:Int}:H y=some (.ins a.c_At dx (fsW nm m m))->EnD a H y nm (.at_ m)
 | bt {dx:Addr}{pl:Str}{lo hi:Int}:H y=some (.ins a.c_Between dx (fsB nm pl lo hi))->qhS lo->qhS hi->EnD a H y nm (.bt pl lo hi)
 | rd {dx:Addr}{pl:Str}{m:Int}:H y=some (.ins a.c_Read dx (fsB nm pl m m))->qhS m->EnD a H y nm (.rd pl m)
 | jn {dx l' b db w dw:Addr}{pl bn wn:Str}{lo hi l h:Int}:H y=some (.ins a.c_Joint dx (fsJ nm l'))->H l'=some (.lst [.ref b,.ref w])->H b=some (.ins a.c_Between db (fsB bn pl lo hi))->H w=some (.ins a.c_Within dw (fsW wn l h))->qhS lo->qhS hi->EnD a H y nm (.jn pl lo hi l h)
 | sf {dx p dp f:Addr}{pn:Str}{l h e r:Int}:H y=some (.ins a.c_Sifted dx (fsS nm p f))->H p=some (.ins a.c_Within dp (fsW pn l h))->h - l < 1000->0≤l->h≤1000000000->Kf H f e r->0 < e->EnD a H y nm (.sf l h e r)
theorem EnD.same {a:Ad}{H H':Hp}{y:Addr}{nm:Str}{kd:Kd} (h:EnD a H y nm kd) (s:Same H H'):EnD a H' y nm kd:=by
 cases h with
 | any e=>exact .any (s _ _ e)
 | wi e=>exact .wi (s _ _ e)
 | at_ e=>exact .at_ (s _ _ e)
 | bt e h1 h2=>exact .bt (s _ _ e) h1 h2
 | rd e h1=>exact .rd (s _ _ e) h1
 | jn e e1 e2 e3 h1 h2=>exact .jn (s _ _ e) (s _ _ e1) (s _ _ e2) (s _ _ e3) h1 h2
 | sf e e1 h1 h2 h3 k h4=>exact .sf (s _ _ e) (s _ _ e1) h1 h2 h3 (Clo.same k s) h4
theorem qiw {K:Frag}{mg:Str->Option Value}{a:Ad} (T:Txt K mg a) {H:Hp}{x:Addr}{nm:Str}{kd:Kd} (h:EnD a H x nm kd):∃ C dx fs,H x=some (.ins C dx fs)∧qdm K H (.ref x) (.ref C)∧kitOne K (.ref C) (.ref a.c_Entry)=some true∧Cls K C∧NoAttr K C "name"∧fs.lookup ("name":Str)=some (V.str nm):=by
 cases h with
 | any hx=>exact⟨_,_,_,hx,T.io_Entry.ty hx,qa9 T,T.cl_Entry,T.n_Entry_name,rfl⟩
 | wi hx=>exact⟨_,_,_,hx,T.io_Within.ty hx,ZG T,T.cl_Within,T.n_Within_name,rfl⟩
 | at_ hx=>exact⟨_,_,_,hx,T.io_At.ty hx,qdG T,T.cl_At,T.n_At_name,rfl⟩
 | bt hx _ _=>exact⟨_,_,_,hx,T.io_Between.ty hx,Zj T,T.cl_Between,T.n_Between_name,rfl⟩
 | rd hx _=>exact⟨_,_,_,hx,T.io_Read.ty hx,qb6 T,T.cl_Read,T.n_Read_name,rfl⟩
 | jn hx _ _ _ _ _=>exact⟨_,_,_,hx,T.io_Joint.ty hx,qa8 T,T.cl_Joint,T.n_Joint_name,rfl⟩
 | sf hx _ _ _ _ _ _=>exact⟨_,_,_,hx,T.io_Sifted.ty hx,qaK T,T.cl_Sifted,T.n_Sifted_name,rfl⟩
inductive Zp (vs:List V) (H:Hp) (Q:VK):Prop
 | mk (i:Int) (h1:vs=[.int i]) (h2:-2000000000≤i) (h3:i≤2000000001) (h4:Q (.bl true) H):Zp vs H Q
def ju:Sp:=fun vs H Q _=>Zp vs H Q
inductive JV (vs:List V) (H:Hp) (Q:VK):Prop
 | mk (x:Str) (d:Addr) (v:V) (h1:vs=[.str x,.ref d]) (h2:qe6 H d (.str x) (some v)) (h3:Q (.bl true) H):JV vs H Q
def qcj:Sp:=fun vs H Q _=>JV vs H Q
inductive jA (a:Ad) (vs:List V) (H:Hp) (Q:VK):Prop
 | mk (x dx:Addr) (h1:vs=[.ref x]) (h2:H x=some (.ins a.c_Log dx [])) (h3:∀ (td ed bl:Addr) (H':Hp),But x H H'->H td=none->H ed=none->H bl=none->Lo a H' x td ed bl [] [] []->Q .non H'):jA a vs H Q
def J7 (a:Ad):Sp:=fun vs H Q _=>jA a vs H Q
inductive Qd (a:Ad) (vs:List V) (H:Hp) (Q:VK):Prop
 | mk (x td ed bl:Addr) (ps ns:List (Str×V)) (zs:List V) (e:Str×V) (h1:vs=[.ref x,.str e.1]) (h2:Lo a H x td ed bl ps ns zs) (h3:e∈ns) (h4:Q .non H):Qd a vs H Q
def zE (a:Ad):Sp:=fun vs H Q _=>Qd a vs H Q
inductive Z1 (a:Ad) (vs:List V) (H:Hp) (Q:VK):Prop
 | mk (x td ed bl:Addr) (ps ns:List (Str×V)) (zs:List V) (h1:vs=[.ref x]) (h2:Lo a H x td ed bl ps ns zs) (h3:∀ l,H l=none->Q (.ref l) (upd H l (.lst ((ns.map (·.1)).map V.str)))):Z1 a vs H Q
def Jm (a:Ad):Sp:=fun vs H Q _=>Z1 a vs H Q
inductive Z2 (a:Ad) (vs:List V) (H:Hp) (Q:VK):Prop
 | mk (x td ed bl:Addr) (ps ns:List (Str×V)) (zs:List V) (e:Str×V) (h1:vs=[.ref x,.str e.1]) (h2:Lo a H x td ed bl ps ns zs) (h3:e∈ns) (h4:Q e.2 H):Z2 a vs H Q
def Jn (a:Ad):Sp:=fun vs H Q _=>Z2 a vs H Q
inductive Z4 (a:Ad) (vs:List V) (H:Hp) (Q:VK):Prop
 | mk (x td ed bl:Addr) (ps ns:List (Str×V)) (zs:List V) (h1:vs=[.ref x]) (h2:Lo a H x td ed bl ps ns zs) (h3:∀ l,H l=none->Q (.ref l) (upd H l (.lst zs))):Z4 a vs H Q
def Jo (a:Ad):Sp:=fun vs H Q _=>Z4 a vs H Q
inductive jC (a:Ad) (vs:List V) (H:Hp) (Q:VK):Prop
 | mk (x td ed bl:Addr) (ps ns:List (Str×V)) (zs:List V) (e f:Str×V) (m:Int) (h1:vs=[.ref x,.str e.1,.str f.1,.int m]) (h2:Lo a H x td ed bl ps ns zs) (h3:e∈ns) (h4:f∈ns) (h5:-2000000000≤m) (h6:m≤2000000001) (h7:zs.length < 100) (h8:∀ (t:Addr) (v:V) (H':Hp),H t=none->But bl H H'->H' t=some (.tup (prB (e.1,f.1,m)))->Lo a H' x td ed bl ps ns (zs++[.ref t])->Q v H'):jC a vs H Q
def jg (a:Ad):Sp:=fun vs H Q _=>jC a vs H Q
inductive Z3 (a:Ad) (vs:List V) (H:Hp) (Q:VK):Prop
 | mk (x td ed bl:Addr) (ps ns:List (Str×V)) (zs:List V) (pl:Str) (v:V) (h1:vs=[.ref x,.str pl,v]) (h2:Lo a H x td ed bl ps ns zs) (h3:QZ (.str pl)=true) (h4:((pl∉ps.map (·.1)∧ps.length < 6∧∀ H',But td H H'->Lo a H' x td ed bl (ps++[(pl,v)]) ns zs->Q .non H') ∨
  (∃ ps',pl∈ps.map (·.1)∧ps.length≤6∧qce (skv ps) (.inr pl) v=skv ps'∧ps'.map (·.1)=ps.map (·.1)∧∀ H',But td H H'->Lo a H' x td ed bl ps' ns zs->Q .non H'))):Z3 a vs H Q
def Zw (a:Ad):Sp:=fun vs H Q _=>Z3 a vs H Q
inductive Jl (a:Ad) (vs:List V) (H:Hp) (Q:VK):Prop
 | mk (x td ed bl:Addr) (ps ns:List (Str×V)) (zs:List V) (y:Addr) (nm:Str) (kd:Kd) (h1:vs=[.ref x,.ref y]) (h2:Lo a H x td ed bl ps ns zs) (h3:EnD a H y nm kd) (h4:(∀ s∈kd.pls,s∈ps.map (·.1))) (h5:nm∉ns.map (·.1)) (h6:ns.length < 60) (h7:∀ H',But ed H H'->Lo a H' x td ed bl ps (ns++[(nm,.ref y)]) zs->Q .non H'):Jl a vs H Q
def j9 (a:Ad):Sp:=fun vs H Q _=>Jl a vs H Q
def nok (nm:Str) (b:Str×Str×Int):Bool:=!decide (nm=b.1) && !decide (nm=b.2.1)
inductive jB (a:Ad) (vs:List V) (H:Hp) (Q:VK):Prop
 | mk (x td ed bl:Addr) (ps ns:List (Str×V)) (zs:List V) (e:Str×V) (bs:List (Str×Str×Int)) (h1:vs=[.ref x,.str e.1]) (h2:Lo a H x td ed bl ps ns zs) (h3:e∈ns) (h4:TupL prB H zs bs) (h5:zs.length≤100) (h6:∀ (bl':Addr) (zs':List V) (H':Hp),H bl'=none->(∀ b o,H b=some o->b≠x->b≠ed->H' b=some o)->Lo a H' x td ed bl' ps (ns.filter fun n=>decide (n.1≠e.1)) zs'->TupL prB H' zs' (bs.filter (nok e.1))->Q .non H'):jB a vs H Q
def J8 (a:Ad):Sp:=fun vs H Q _=>jB a vs H Q
inductive Z0 (a:Ad) (vs:List V) (H:Hp) (Q:VK):Prop
 | mk (x td ed bl:Addr) (ts:Pls) (ns:List (Str×V)) (zs:List V) (nm:Str) (y:Addr) (kd:Kd) (h1:vs=[.ref x,.str nm]) (h2:Lo a H x td ed bl (tv ts) ns zs) (h3:Tq a H td ts) (h4:(nm,V.ref y)∈ns) (h5:EnD a H y nm kd) (h6:(∀ s∈kd.pls,s∈ts.map (·.1))) (h7:Gv H Q (MK ts kd) 1000):Z0 a vs H Q
def Jk (a:Ad):Sp:=fun vs H Q _=>Z0 a vs H Q
section
variable {P:Program}{w:World}{K:Frag}{mg:Str->Option Value}{base:Heap}
theorem qb0 {a:Ad} (T:Txt K mg a):FnOk P w K mg base CX0 3 a.f_G a.fd_G ["thing"] ju:=by
 have G_c:=Q7 (P:=P) (w:=w) (base:=base) T;refine T.d_G.F.ok qbQ (fun vs H Q E h=>?_) (fun cdv A outer s H vs Q E hr h=>?_)
 · obtain⟨i,rfl,h1,h2,kk⟩:=h;rfl
 · obtain⟨i,rfl,h1,h2,kk⟩:=h;have h_c:Room (2) _:=hr.mono (by decide);obtain⟨t_MOST_MINUTES,c_MOST_MINUTES⟩:=T.g_MOST_MINUTES;refine⟨_,(qf (qE (qj G_c h_c rfl T.d_c.m T.d_c.k T.d_c.b .nil qm (qa (pv 0) (qa (qB zu qe (za (v:=.int 2000000001) rfl c_MOST_MINUTES ⟨_,rfl⟩)) (qa (za (v:=.int 2000000001) rfl c_MOST_MINUTES ⟨_,rfl⟩) qb)))))),?_⟩;(try dsimp only [zw,Cx.nox]);exact⟨_,rfl,_,_,rfl,rfl,i,1 - 2000000001,2000000001,rfl,(by omega),(by omega),kk⟩
theorem qfU {a:Ad} (T:Txt K mg a):FnOk P w K mg base CX0 1 a.f_N a.fd_N ["thing","keyed"] qcj:=by
 refine T.d_N.F.ok qfB (fun vs H Q E h=>?_) (fun cdv A outer s H vs Q E hr h=>?_)
 · obtain⟨x,d,v,rfl,dg,kk⟩:=h;rfl
 · obtain⟨x,d,v,rfl,dg,kk⟩:=h;have hu:=qJ hr;refine⟨_,(qf (qE (ZF (qk qY (by rfl) T.n_isinstance qo (qa (pv 0) (qa (zm (v:=.ty "str") rfl T.n_str j4 rfl) qb))) (jQ (Qo (qih hu) (pv 0) (pv 1) (by with_unfolding_all rfl)))))),?_⟩;(try dsimp only [zw,Cx.nox]);refine⟨_,rfl,_,_,_,rfl,(by decide),rfl,true,rfl,qe9 ?_⟩;exact⟨_,rfl,_,rfl,d,_,rfl,dg,kk⟩
theorem qdB {a:Ad} (T:Txt K mg a):FnOk P w K mg base CX0 1 a.f_ab a.fd_ab ["self"] (J7 a):=by
 refine T.d_ab.F.ok qdu (fun vs H Q E h=>?_) (fun cdv A outer s H vs Q E hr h=>?_)
 · obtain⟨x,dx,rfl,hx,kk⟩:=h;rfl
 · obtain⟨x,dx,rfl,hx,kk⟩:=h;have hU:=hr.units
   refine⟨_,(qd (Qe (pv 0) qbY rfl)
     (qd (Qe (pv 0) qbY rfl)
     (qf (Qe (pv 0) (qT qb) rfl)))),?_⟩
   try dsimp only [zw,Cx.nox]
   intro td ftd;have n1:td≠x:=fun e=>by rw[e,hx]at ftd;cases ftd
   refine⟨_,rfl,x,_,dx,_,rfl,(by rw[qh n1.symm];exact hx),T.cl_Log,T.n_Log_tables,(by decide),?_⟩;intro ed fed;have n2:ed≠x:=fun e=>by rw[e,qc]at fed;cases fed
   have n3:ed≠td:=fun e=>by rw[e,qh n1,qc]at fed;cases fed
   rw[qh n2,qh n3]at fed;refine⟨_,rfl,x,_,dx,_,rfl,(by rw[qh n2.symm,qc]),T.cl_Log,T.n_Log_entries,(Nat.le_of_ble_eq_true rfl),?_⟩;refine⟨ql (Nat.le_of_ble_eq_true rfl),fun bl fbl=>?_⟩;have n4:bl≠x:=fun e=>by rw[e,qc]at fbl;cases fbl
   have n5:bl≠ed:=fun e=>by rw[e,qh n2,qc]at fbl;cases fbl
   have n6:bl≠td:=fun e=>by rw[e,qh n1,qh n3.symm,qh n1,qc]at fbl;cases fbl
   rw[qh n4,qh n5,qh n4,qh n6]at fbl;refine⟨_,rfl,x,_,dx,_,rfl,(by rw[qh n4.symm,qc]),T.cl_Log,T.n_Log_bound,(Nat.le_of_ble_eq_true rfl),?_⟩;refine kk td ed bl _ (fun b o e nb=>?_) ftd fed fbl ⟨⟨dx,?_⟩,?_,?_,?_,n3.symm,List.nodup_nil,List.nodup_nil⟩
   · rw[qh nb,qh (qi e fbl),qh nb,qh (qi e fed),qh nb,qh (qi e ftd)];exact e
   · rw[qc];rfl
   · rw[qh n1,qh n6.symm,qh n1,qh n3.symm,qh n1,qc];rfl
   · rw[qh n2,qh n5.symm,qh n2,qc];rfl
   · rw[qh n4,qc]
theorem zT {a:Ad} (T:Txt K mg a):FnOk P w K mg base CX0 2 a.f_j a.fd_j ["self","name"] (zE a):=by
 have G_N:=qfU (P:=P) (w:=w) (base:=base) T;refine T.d_j.F.ok jH (fun vs H Q E h=>?_) (fun cdv A outer s H vs Q E hr h=>?_)
 · obtain⟨x,td,ed,bl,ps,ns,zs,e,rfl,hL,me,kk⟩:=h;rfl
 · obtain⟨x,td,ed,bl,ps,ns,zs,e,rfl,hL,me,kk⟩:=h;have h_N:Room (1) _:=hr.mono (by decide)
   refine⟨_,(qf (qS (zB (zo (qj G_N h_N rfl T.d_N.m T.d_N.k T.d_N.b .nil qm (qa (pv 1) (qa (qN (pv 0) rfl) qb)))))
       (qf qO)
       qA)),?_⟩
   try dsimp only [zw,Cx.nox]
   obtain⟨dx,hx⟩:=hL.hx;exact⟨_,rfl,_,rfl,x,_,dx,_,_,rfl,hx,T.cl_Log,T.n_Log_entries,rfl,e.1,ed,_,rfl,hL.eget me,true,rfl,q8 rfl kk⟩
theorem qcS {a:Ad} (T:Txt K mg a):FnOk P w K mg base CX0 1 a.f_ad a.fd_ad ["self"] (Jm a):=by
 refine T.d_ad.F.ok qcx (fun vs H Q E h=>?_) (fun cdv A outer s H vs Q E hr h=>?_)
 · obtain⟨x,td,ed,bl,ps,ns,zs,rfl,hL,kk⟩:=h;rfl
 · obtain⟨x,td,ed,bl,ps,ns,zs,rfl,hL,kk⟩:=h;refine⟨_,(qf (qE (zC (r:=qh8) (qe4 rfl) (by rfl) T.n_list qR (qa (qN (pv 0) rfl) qb)))),?_⟩;(try dsimp only [zw,Cx.nox]);obtain⟨dx,hx⟩:=hL.hx;refine⟨_,rfl,x,_,dx,_,_,rfl,hx,T.cl_Log,T.n_Log_entries,rfl,ed,_,rfl,.inl hL.he,fun l fl=>?_⟩
   have e:((skv ns).map fun p=>kV p.1)=(ns.map (·.1)).map V.str:=by
     unfold skv;rw[List.map_map,List.map_map];rfl
   rw[e];exact kk l fl
theorem qcT {a:Ad} (T:Txt K mg a):FnOk P w K mg base CX0 3 a.f_g a.fd_g ["self","name"] (Jn a):=by
 have G_j:=zT (P:=P) (w:=w) (base:=base) T;refine T.d_g.F.ok qcy (fun vs H Q E h=>?_) (fun cdv A outer s H vs Q E hr h=>?_)
 · obtain⟨x,td,ed,bl,ps,ns,zs,e,rfl,hL,me,kk⟩:=h;rfl
 · obtain⟨x,td,ed,bl,ps,ns,zs,e,rfl,hL,me,kk⟩:=h;have hu:=qJ hr;have h_j:Room (2) _:=hr.mono (by decide)
   refine⟨_,(qd (qD (qL (pv 0) T.cl_Log T.d_j.mt G_j h_j T.d_j.b .nil qm (qa (pv 1) qb)))
     (qf (qE (qfS hu (qN (pv 0) rfl) (pv 1) (fun _ _=>rfl))))),?_⟩
   try dsimp only [zw,Cx.nox]
   obtain⟨dx,hx⟩:=hL.hx;refine⟨_,rfl,x,dx,_,rfl,hx,rfl,_,rfl,x,td,ed,bl,ps,ns,zs,e,rfl,hL,me,?_⟩;exact⟨_,rfl,x,_,dx,_,_,rfl,hx,T.cl_Log,T.n_Log_entries,rfl,_,rfl,ed,_,rfl,hL.eget me,kk⟩
theorem qcU {a:Ad} (T:Txt K mg a):FnOk P w K mg base CX0 1 a.f_af a.fd_af ["self"] (Jo a):=by
 refine T.d_af.F.ok qcA (fun vs H Q E h=>?_) (fun cdv A outer s H vs Q E hr h=>?_)
 · obtain⟨x,td,ed,bl,ps,ns,zs,rfl,hL,kk⟩:=h;rfl
 · obtain⟨x,td,ed,bl,ps,ns,zs,rfl,hL,kk⟩:=h;refine⟨_,(qf (qE (zC (r:=qg4 K) zl (by rfl) T.n_list qR (qa (qN (pv 0) rfl) qb)))),?_⟩;(try dsimp only [zw,Cx.nox]);obtain⟨dx,hx⟩:=hL.hx;exact⟨_,rfl,x,_,dx,_,_,rfl,hx,T.cl_Log,T.n_Log_bound,rfl,bl,zs,rfl,.inl (SqL.of hL.hb),fun l fl=>kk l fl⟩
theorem qaA {a:Ad} (T:Txt K mg a):FnOk P w K mg base CX0 4 a.f_B a.fd_B ["self","later","earlier","minutes"] (jg a):=by
 have G_j:=zT (P:=P) (w:=w) (base:=base) T;have G_G:=qb0 (P:=P) (w:=w) (base:=base) T;refine T.d_B.F.ok qdw (fun vs H Q E h=>?_) (fun cdv A outer s H vs Q E hr h=>?_)
 · obtain⟨x,td,ed,bl,ps,ns,zs,e,f,m,rfl,hL,me,mf,m0,m1,few,kk⟩:=h;rfl
 · obtain⟨x,td,ed,bl,ps,ns,zs,e,f,m,rfl,hL,me,mf,m0,m1,few,kk⟩:=h;have h_j:Room (2) _:=hr.mono (by decide);have h_G:Room (3) _:=hr.mono (by decide);obtain⟨t_MOST_BONDS,c_MOST_BONDS⟩:=T.g_MOST_BONDS
   refine⟨_,(qd (qD (qL (pv 0) T.cl_Log T.d_j.mt G_j h_j T.d_j.b .nil qm (qa (pv 1) qb)))
     (qd (qD (qL (pv 0) T.cl_Log T.d_j.mt G_j h_j T.d_j.b .nil qm (qa (pv 2) qb)))
     (qd (qS (zB (zo (qj G_G h_G rfl T.d_G.m T.d_G.k T.d_G.b .nil qm (qa (pv 3) qb))))
       (qf qO)
       qA)
     (qd (qS (qu qhf (qk qK (by rfl) T.n_len qG (qa (qN (pv 0) rfl) qb)) (za (v:=.int 100) rfl c_MOST_BONDS ⟨_,rfl⟩) (qC _))
       (qf qO)
       qA)
     (qd (qD (Zk PySem.F.plainAttrs_list PySem.F.slot_list_append PySem.F.type_list_append zc (qN (pv 0) rfl) (qa (qQ (qa (pv 1) (qa (pv 2) (qa (pv 3) qb)))) qb)))
     (qf (qE (qB zu (qk qK (by rfl) T.n_len qG (qa (qN (pv 0) rfl) qb)) qe)))))))),?_⟩
   try dsimp only [zw,Cx.nox]
   obtain⟨dx,hx⟩:=hL.hx;refine⟨_,rfl,x,dx,_,rfl,hx,rfl,_,rfl,x,td,ed,bl,ps,ns,zs,e,rfl,hL,me,?_⟩;refine⟨_,rfl,x,dx,_,rfl,hx,rfl,_,rfl,x,td,ed,bl,ps,ns,zs,f,rfl,hL,mf,?_⟩;refine⟨_,rfl,m,rfl,m0,m1,true,rfl,q8 rfl ?_⟩;refine⟨_,rfl,x,_,dx,_,_,rfl,hx,T.cl_Log,T.n_Log_bound,rfl,_,_,rfl,.inl ⟨_,SqL.of hL.hb,rfl⟩,_,_,rfl,rfl,_,rfl,Qg (fun g=>absurd g (by omega)) (fun _=>?_)⟩;refine⟨_,rfl,x,_,dx,_,_,rfl,hx,T.cl_Log,T.n_Log_bound,rfl,.inl ⟨rfl,_,SqL.of hL.hb⟩,_,rfl,_,rfl,_,rfl,ql (Nat.le_of_ble_eq_true rfl),fun t ft=>?_⟩;generalize hG:upd H t _=G;obtain⟨SG,eG⟩:=qt hG ft;clear hG;have hLG:=hL.sm SG;have hxG:=SG _ _ hx;have hbG:=SG _ _ hL.hb;refine⟨bl,_,_,rfl,rfl,hbG,qw (by omega),?_⟩;have hL2:Lo a (upd G bl (.lst (zs++[.ref t]))) x td ed bl ps ns (zs++[.ref t]):=⟨⟨dx,by rw[qh (zN hxG hbG (by intro z;cases z))];exact hxG⟩,by rw[qh (zN hLG.ht hbG (by intro z;cases z))];exact hLG.ht,by rw[qh (zN hLG.he hbG (by intro z;cases z))];exact hLG.he,qc,hLG.ne,hLG.ndt,hLG.nde⟩
   have B2:But bl H (upd G bl (.lst (zs++[.ref t]))):=fun b o e nb=>by rw[qh nb];exact SG b o e
   have et:(upd G bl (.lst (zs++[.ref t]))) t=some (.tup (prB (e.1,f.1,m))):=by rw[qh (zN eG hbG (by intro z;cases z))];exact eG
   generalize upd G bl (.lst (zs++[.ref t]))=G2 at hL2 B2 et ⊢;obtain⟨dx2,hx2⟩:=hL2.hx;refine⟨_,rfl,x,_,dx2,_,_,rfl,hx2,T.cl_Log,T.n_Log_bound,rfl,_,_,rfl,.inl ⟨_,SqL.of hL2.hb,rfl⟩,_,_,rfl,rfl,?_⟩;exact kk t _ _ ft B2 et hL2
theorem JF {a:Ad} (T:Txt K mg a):FnOk P w K mg base CX0 2 a.f_t a.fd_t ["self","place","table"] (Zw a):=by
 have G_x:=qby (P:=P) (w:=w) (base:=base) T;refine T.d_t.F.ok qcz (fun vs H Q E h=>?_) (fun cdv A outer s H vs Q E hr h=>?_)
 · obtain⟨x,td,ed,bl,ps,ns,zs,pl,v,rfl,hL,ok,kk⟩:=h;rfl
 · obtain⟨x,td,ed,bl,ps,ns,zs,pl,v,rfl,hL,ok,kk⟩:=h;have hu:=qJ hr;have h_x:Room (1) _:=hr.mono (by decide);obtain⟨t_MOST_PLACES,c_MOST_PLACES⟩:=T.g_MOST_PLACES
   refine⟨_,(qd (qS (zB (zo (qj G_x h_x rfl T.d_x.m T.d_x.k T.d_x.b .nil qm (qa (pv 1) qb))))
       (qf qO)
       qA)
     (qd (qS (PW.pt (ZD (qu (qav hu) (pv 1) (qN (pv 0) rfl) (by with_unfolding_all rfl)) (Qn (qu qhf (qk qdb (by rfl) T.n_len qG (qa (qN (pv 0) rfl) qb)) (za (v:=.int 6) rfl c_MOST_PLACES ⟨_,rfl⟩) (qC _)))))
       (qf qO)
       qA)
     (qf (qfP hu (qN (pv 0) rfl) (pv 1) (pv 2) rfl)))),?_⟩
   try dsimp only [zw,Cx.nox]
   refine⟨_,rfl,pl,rfl,ok,fun H1 S1=>⟨true,rfl,q8 rfl ?_⟩⟩;have hL1:=hL.sm S1;obtain⟨dx,hx⟩:=hL1.hx;rcases kk with ⟨no,few,kk⟩|⟨ps',yes,few,ep,ek,kk⟩
   · have dg:qe6 H1 td (.str pl) none:=.inl ⟨_,.inr pl,.inl hL1.ht,rfl,(qd2 no).symm⟩;refine⟨_,rfl,_,rfl,x,_,dx,_,_,rfl,hx,T.cl_Log,T.n_Log_tables,rfl,td,_,rfl,dg,_,rfl,Jc rfl ?_⟩;refine⟨_,rfl,x,_,dx,_,_,rfl,hx,T.cl_Log,T.n_Log_tables,rfl,td,_,rfl,hL1.ht,_,_,rfl,rfl,_,rfl,Qg (fun g=>absurd g ?_) (fun _=>?_)⟩
     · rw[qac];omega
     refine⟨_,rfl,_,rfl,x,_,dx,_,_,rfl,hx,T.cl_Log,T.n_Log_tables,rfl,_,rfl,td,_,rfl,DPut.k (k:=.inr pl) hL1.ht (by rw[qac];exact qeB (by omega)),?_⟩;rw[qfx no];exact kk _ (fun b o e nb=>by rw[qh nb];exact S1 b o e) (hL1.pt _ (qf2 hL1.ndt no))
   · obtain⟨e,me,ee⟩:=qim yes;subst ee;refine⟨_,rfl,_,rfl,x,_,dx,_,_,rfl,hx,T.cl_Log,T.n_Log_tables,rfl,td,_,rfl,hL1.tget me,_,rfl,q8 rfl (q8 rfl ?_)⟩;refine⟨_,rfl,_,rfl,x,_,dx,_,_,rfl,hx,T.cl_Log,T.n_Log_tables,rfl,_,rfl,td,_,rfl,DPut.k (k:=.inr e.1) hL1.ht (by rw[qac];exact qeB (by omega)),?_⟩;rw[ep];exact kk _ (fun b o e nb=>by rw[qh nb];exact S1 b o e) (hL1.pt _ (by rw[ek];exact hL1.ndt))
end
theorem qkc {K:Frag}{mg:Str->Option Value}{a:Ad} (T:Txt K mg a) {te:TE}{σ:L2.St}{H:Hp}{Q:VK}{x:Addr}{nm:Str}{kd:Kd} (hte:∀ R:V->Hp->Prop,R (.ref x) H->te σ H R) (en:EnD a H x nm kd) (k:∀ (l:Addr) (H':Hp),H l=none->Same H H'->H' l=some (.lst (kd.pls.map V.str))->Q (.ref l) H') :
   QJ a.c_Entry "places" qV [] E0 te qe8 σ H Q∨QJ a.c_Within "places" qV [] E0 te qe8 σ H Q∨QJ a.c_At "places" qV [] E0 te qe8 σ H Q∨QJ a.c_Between "places" (qZ K) [] E0 te qe8 σ H Q∨QJ a.c_Read "places" (qZ K) [] E0 te qe8 σ H Q∨QJ a.c_Joint "places" (Ql a) [] E0 te qe8 σ H Q∨QJ a.c_Sifted "places" (z9 a) [] E0 te qe8 σ H Q:=by
 have k0:∀ l,H l=none->Q (.ref l) (upd H l (.lst (kd.pls.map V.str))):=fun l fl=>k l _ fl (Same.new _ fl) qc
 cases en with
 | @any dx hx=>exact Or.inl <| hte _ ⟨x,dx,_,rfl,hx,rfl,_,rfl,fun l fl=>k0 l fl⟩
 | @wi dx lo hi hx=>exact Or.inr <| Or.inl <| hte _ ⟨x,dx,_,rfl,hx,rfl,_,rfl,fun l fl=>k0 l fl⟩
 | @at_ dx m hx=>exact Or.inr <| Or.inr <| Or.inl <| hte _ ⟨x,dx,_,rfl,hx,rfl,_,rfl,fun l fl=>k0 l fl⟩
 | @bt dx pl lo hi hx _ _=>exact Or.inr <| Or.inr <| Or.inr <| Or.inl <| hte _ ⟨x,dx,_,rfl,hx,rfl,x,_,dx,_,pl,_,_,rfl,hx,T.cl_Between,T.n_Between_place,fun l fl=>k0 l fl⟩
 | @rd dx pl m hx _=>exact Or.inr <| Or.inr <| Or.inr <| Or.inr <| Or.inl <| hte _ ⟨x,dx,_,rfl,hx,rfl,x,_,dx,_,pl,_,_,rfl,hx,T.cl_Read,T.n_Read_place,fun l fl=>k0 l fl⟩
 | @jn dx l' b db w dw pl bn wn lo hi l h hx hl hb hw _ _=>exact Or.inr <| Or.inr <| Or.inr <| Or.inr <| Or.inr <| Or.inl <| hte _ ⟨x,dx,_,rfl,hx,rfl,x,dx,l',nm,[(b,[pl]),(w,[])],rfl,hx,hl,Nat.le_of_ble_eq_true rfl,(fun p m=>by
     simp only[List.mem_cons,List.not_mem_nil,or_false]at m;rcases m with rfl|rfl
     · exact⟨.between hb,Nat.le_refl _⟩
     · exact⟨.within hw,Nat.zero_le _⟩),fun d H' fd S e=>k d H' fd S (by rw[e];congr 2)⟩
 | @sf dx p dp f pn l h e r hx hp _ _ _ _ _=>exact Or.inr <| Or.inr <| Or.inr <| Or.inr <| Or.inr <| Or.inr <| hte _ ⟨x,dx,_,rfl,hx,rfl,x,dx,p,dp,f,nm,pn,l,h,rfl,hx,hp,fun l fl=>k0 l fl⟩
theorem qjX {K:Frag}{mg:Str->Option Value}{a:Ad} (T:Txt K mg a) {te:TE}{ta:TA}{σ:L2.St}{H:Hp}{Q:VK}{x td:Addr}{ts:Pls}{nm:Str}{kd:Kd} (hte:∀ R:V->Hp->Prop,R (.ref x) H->te σ H R) (hta:∀ R:List V->Hp->Prop,R [.ref td] H->ta σ H R) (en:EnD a H x nm kd) (hp:∀ s∈kd.pls,s∈ts.map (·.1)) (tq:Tq a H td ts) (k:Gv H Q (MK ts kd) 1000) :
   QJ a.c_Entry "spans" QH [] E0 te ta σ H Q∨QJ a.c_Within "spans" (qU K) [] E0 te ta σ H Q∨QJ a.c_At "spans" (qU K) [] E0 te ta σ H Q∨QJ a.c_Between "spans" (zj a) [] E0 te ta σ H Q∨QJ a.c_Read "spans" (zj a) [] E0 te ta σ H Q∨QJ a.c_Joint "spans" (QF a) [] E0 te ta σ H Q∨QJ a.c_Sifted "spans" (Qk a) [] E0 te ta σ H Q:=by
 cases en with
 | @any dx hx=>exact Or.inl <| hte _ ⟨x,dx,_,rfl,hx,rfl,hta _ ⟨_,_,rfl,fun d H' fd S R=>k d _ H' fd S R ⟨fun w m=>by rw[List.mem_singleton.mp m];decide,List.pairwise_singleton _ _⟩ (by decide) fun n=>mem1⟩⟩
 | @wi dx lo hi hx=>exact Or.inr <| Or.inl <| hte _ ⟨x,dx,_,rfl,hx,rfl,hta _ ⟨x,_,dx,_,_,_,_,rfl,hx,T.cl_Within,T.n_Within_low,T.n_Within_high,fun f r H' ff S' R c l m=>k f r H' ff S' R c (Nat.le_trans l (by decide)) fun n=>(m n).trans mem1⟩⟩
 | @at_ dx m hx=>exact Or.inr <| Or.inr <| Or.inl <| hte _ ⟨x,dx,_,rfl,hx,rfl,hta _ ⟨x,_,dx,_,_,_,_,rfl,hx,T.cl_At,T.n_At_low,T.n_At_high,fun f r H' ff S' R c l m=>k f r H' ff S' R c (Nat.le_trans l (by decide)) fun n=>(m n).trans mem1⟩⟩
 | @bt dx pl lo hi hx h1 h2=>exact Or.inr <| Or.inr <| Or.inr <| Or.inl <| hte _ ⟨x,dx,_,rfl,hx,rfl,hta _ ⟨x,_,dx,td,nm,pl,lo,hi,ts,rfl,.inl rfl,hx,tq,hp pl List.mem_cons_self,h1,h2,fun f r H' ff S' R c l m=>k f r H' ff S' R c (Nat.le_trans l (by decide)) m⟩⟩
 | @rd dx pl m hx h1=>exact Or.inr <| Or.inr <| Or.inr <| Or.inr <| Or.inl <| hte _ ⟨x,dx,_,rfl,hx,rfl,hta _ ⟨x,_,dx,td,nm,pl,m,m,ts,rfl,.inr rfl,hx,tq,hp pl List.mem_cons_self,h1,h1,fun f r H' ff S' R c l m=>k f r H' ff S' R c (Nat.le_trans l (by decide)) m⟩⟩
 | @jn dx l' b db w dw pl bn wn lo hi l h hx hl hb hw h1 h2=>exact Or.inr <| Or.inr <| Or.inr <| Or.inr <| Or.inr <| Or.inl <| hte _ ⟨x,dx,_,rfl,hx,rfl,hta _ ⟨x,dx,l',td,nm,[(b,Sh ts pl lo hi),(w,fun n=>l≤n∧n≤h)],ts,rfl,hx,hl,Nat.le_of_ble_eq_true rfl,(fun p m=>by
     simp only[List.mem_cons,List.not_mem_nil,or_false]at m;rcases m with rfl|rfl
     · exact .between hb (hp pl List.mem_cons_self) h1 h2
     · exact .within hw),tq,fun f r H' ff S' R c l' m=>k f r H' ff S' R c (Nat.le_trans l' (by decide)) fun n=>(m n).trans ⟨fun⟨z1,z2⟩=>⟨z1,z2 _ List.mem_cons_self,z2 _ (List.mem_cons_of_mem _ List.mem_cons_self)⟩,fun⟨z1,z2,z3⟩=>⟨z1,fun p mp=>by
       simp only[List.mem_cons,List.not_mem_nil,or_false]at mp;rcases mp with rfl|rfl
       · exact z2
       · exact z3⟩⟩⟩⟩
 | @sf dx p dp f pn l h e r hx hp' h1 h2 h3 kf h4=>exact Or.inr <| Or.inr <| Or.inr <| Or.inr <| Or.inr <| Or.inr <| hte _ ⟨x,dx,_,rfl,hx,rfl,hta _ ⟨x,dx,p,dp,f,_,nm,pn,l,h,e,r,rfl,hx,hp',h1,h2,h3,kf,h4,k⟩⟩
section
variable {P:Program}{w:World}{K:Frag}{mg:Str->Option Value}{base:Heap}
theorem qcR {a:Ad} (T:Txt K mg a):FnOk P w K mg base CX0 8 a.f_ae a.fd_ae ["self","name"] (Jk a):=by
 have G_2:=qa6 (P:=P) (w:=w) (base:=base) T;have G_e:=zS (P:=P) (w:=w) (base:=base) T;have G_s:=Zi (P:=P) (w:=w) (base:=base) T;have G_7:=qa4 (P:=P) (w:=w) (base:=base) T;have G_aa:=qaz (P:=P) (w:=w) (base:=base) T;have G_g:=qcT (P:=P) (w:=w) (base:=base) T;refine T.d_ae.F.ok qcw (fun vs H Q E h=>?_) (fun cdv A outer s H vs Q E hr h=>?_)
 · obtain⟨x,td,ed,bl,ts,ns,zs,nm,y,kd,rfl,hL,tq,me,en,hp,kk⟩:=h;rfl
 · obtain⟨x,td,ed,bl,ts,ns,zs,nm,y,kd,rfl,hL,tq,me,en,hp,kk⟩:=h;have h_2:Room (1) _:=hr.mono (by decide);have h_e:Room (5) _:=hr.mono (by decide);have h_s:Room (6) _:=hr.mono (by decide);have h_7:Room (7) _:=hr.mono (by decide);have h_aa:Room (6) _:=hr.mono (by decide);have h_g:Room (3) _:=hr.mono (by decide);refine⟨_,(qf (qE (PE.or (qL (qL (pv 0) T.cl_Log T.d_g.mt G_g h_g T.d_g.b .nil qm (qa (pv 1) qb)) T.cl_Entry T.d_2.mt G_2 h_2 T.d_2.b .nil qm (qa (qN (pv 0) rfl) qb)) (PE.or (qL (qL (pv 0) T.cl_Log T.d_g.mt G_g h_g T.d_g.b .nil qm (qa (pv 1) qb)) T.cl_Within T.d_e.mt G_e h_e T.d_e.b .nil qm (qa (qN (pv 0) rfl) qb)) (PE.or (qL (qL (pv 0) T.cl_Log T.d_g.mt G_g h_g T.d_g.b .nil qm (qa (pv 1) qb)) T.cl_At T.i_At_spans G_e h_e T.d_e.b .nil qm (qa (qN (pv 0) rfl) qb)) (PE.or (qL (qL (pv 0) T.cl_Log T.d_g.mt G_g h_g T.d_g.b .nil qm (qa (pv 1) qb)) T.cl_Between T.d_s.mt G_s h_s T.d_s.b .nil qm (qa (qN (pv 0) rfl) qb)) (PE.or (qL (qL (pv 0) T.cl_Log T.d_g.mt G_g h_g T.d_g.b .nil qm (qa (pv 1) qb)) T.cl_Read T.i_Read_spans G_s h_s T.d_s.b .nil qm (qa (qN (pv 0) rfl) qb)) (PE.or (qL (qL (pv 0) T.cl_Log T.d_g.mt G_g h_g T.d_g.b .nil qm (qa (pv 1) qb)) T.cl_Joint T.d_7.mt G_7 h_7 T.d_7.b .nil qm (qa (qN (pv 0) rfl) qb)) (qL (qL (pv 0) T.cl_Log T.d_g.mt G_g h_g T.d_g.b .nil qm (qa (pv 1) qb)) T.cl_Sifted T.d_aa.mt G_aa h_aa T.d_aa.b .nil qm (qa (qN (pv 0) rfl) qb)))))))))),?_⟩;(try dsimp only [zw,Cx.nox]);obtain⟨dx,hx⟩:=hL.hx;refine qjX T (td:=td) (fun R h=>⟨_,rfl,x,dx,_,rfl,hx,rfl,_,rfl,x,td,ed,bl,tv ts,ns,zs,(nm,.ref y),rfl,hL,me,h⟩) (fun R h=>⟨_,rfl,x,_,dx,_,_,rfl,hx,T.cl_Log,T.n_Log_tables,rfl,h⟩) en hp tq kk
theorem qbz {a:Ad} (T:Txt K mg a):FnOk P w K mg base CX0 3 a.f_u a.fd_u ["self","entry"] (j9 a):=by
 have G_h:=Qp (P:=P) (w:=w) (base:=base) T;have G_r:=QY (P:=P) (w:=w) (base:=base) T;have G_6:=qaC (P:=P) (w:=w) (base:=base) T;have G_9:=JO (P:=P) (w:=w) (base:=base) T;refine T.d_u.F.ok sc_Log_put (fun vs H Q E h=>?_) (fun cdv A outer s H vs Q E hr h=>?_)
 · obtain⟨x,td,ed,bl,ps,ns,zs,y,nm,kd,rfl,hL,en,hp,no,few,kk⟩:=h;rfl
 · obtain⟨x,td,ed,bl,ps,ns,zs,y,nm,kd,rfl,hL,en,hp,no,few,kk⟩:=h;have hu:=qJ hr;have h_h:Room (1) _:=hr.mono (by decide);have h_r:Room (1) _:=hr.mono (by decide);have h_6:Room (2) _:=hr.mono (by decide);have h_9:Room (2) _:=hr.mono (by decide);obtain⟨t_MOST_ENTRIES,c_MOST_ENTRIES⟩:=T.g_MOST_ENTRIES
   refine⟨_,(qd (qS (zB (zo (qk (r:=qjB K) j3 (by rfl) T.n_isinstance qo (qa (pv 1) (qa (za (v:=.ref a.c_Entry) rfl T.g_Entry rfl) qb)))))
       (qf qO)
       qA)
     (qd (qS (qu (qih hu) (qN (pv 1) rfl) (qN (pv 0) rfl) (by with_unfolding_all rfl))
       (qf qO)
       qA)
     (qd (zP PassesOwn.never rfl (qX (PE.or (zr (pv 1) T.cl_Entry T.d_h.mt G_h h_h T.d_h.b .nil qm) (PE.or (zr (pv 1) T.cl_Within T.i_Within_places G_h h_h T.d_h.b .nil qm) (PE.or (zr (pv 1) T.cl_At T.i_At_places G_h h_h T.d_h.b .nil qm) (PE.or (zr (pv 1) T.cl_Between T.d_r.mt G_r h_r T.d_r.b .nil qm) (PE.or (zr (pv 1) T.cl_Read T.i_Read_places G_r h_r T.d_r.b .nil qm) (PE.or (zr (pv 1) T.cl_Joint T.d_6.mt G_6 h_6 T.d_6.b .nil qm) (zr (pv 1) T.cl_Sifted T.d_9.mt G_9 h_9 T.d_9.b .nil qm)))))))) (qq (i:=2) (sc_Log_put.nd) rfl (Or.inl rfl))
       (qf (qS (qu (qav hu) (pv 2) (qN (pv 0) rfl) (by with_unfolding_all rfl))
         (qf qO)
         qA)))
     (qd (qS (qu qhf (qk qdb (by rfl) T.n_len qG (qa (qN (pv 0) rfl) qb)) (za (v:=.int 60) rfl c_MOST_ENTRIES ⟨_,rfl⟩) (qC _))
       (qf qO)
       qA)
     (qf (qfP hu (qN (pv 0) rfl) (qN (pv 1) rfl) (pv 1) rfl)))))),?_⟩
   try dsimp only [zw,Cx.nox]
   obtain⟨dx,hx⟩:=hL.hx;obtain⟨C,de,fe,he,ty,hk,cle,nae,lke⟩:=qiw T en;refine⟨_,rfl,_,_,_,_,rfl,ty,hk,true,rfl,q8 rfl ?_⟩;have dg:qe6 H ed (.str nm) none:=.inl ⟨_,.inr nm,.inl hL.he,rfl,(qd2 no).symm⟩;refine⟨_,rfl,y,C,de,fe,_,rfl,he,cle,nae,lke,_,rfl,x,_,dx,_,_,rfl,hx,T.cl_Log,T.n_Log_entries,rfl,ed,_,rfl,dg,_,rfl,q8 rfl ?_⟩;(try unfold qF);(try dsimp only);refine q9 (t:=qiL _ _ _) (fun σ' H'=>∃ s2:Option V,σ'=[some (.ref x),some (.ref y),s2]∧Same H H') (fun N hN=>?_) ?_
   · refine qkc T (fun R h=>⟨_,rfl,h⟩) en fun l H1 fl S1 hl=>?_;refine⟨l,rfl,⟨_,SqL.of hl⟩,zH (D:={ nx:=N,rt:=Q }) (K:=K) (a:=l) (xs:=kd.pls.map V.str) (fun j σ H'=>∃ s2:Option V,σ=[some (.ref x),some (.ref y),s2]∧H'=H1) ⟨_,rfl,rfl⟩ (fun j σ H' _ ⟨_,_,h⟩=>h▸SqL.of hl) ?_ ?_⟩
     · rintro j z σ H' hz ⟨s2,rfl,rfl⟩;obtain⟨s,hs,rfl⟩:=zh hz;obtain⟨e,me,ee⟩:=qim (hp s (List.mem_of_getElem? hs));subst ee;exact⟨_,rfl,_,rfl,x,_,dx,_,_,rfl,S1 _ _ hx,T.cl_Log,T.n_Log_tables,rfl,td,_,rfl,(hL.sm S1).tget me,_,rfl,q8 rfl ⟨_,rfl,rfl⟩⟩
     · rintro σ H' ⟨s2,rfl,rfl⟩;exact hN _ _ ⟨s2,rfl,S1⟩
   rintro _ H1 ⟨s2,rfl,S1⟩;have hL1:=hL.sm S1;have hx1:=S1 _ _ hx;refine⟨_,rfl,x,_,dx,_,_,rfl,hx1,T.cl_Log,T.n_Log_entries,rfl,ed,_,rfl,hL1.he,_,_,rfl,rfl,_,rfl,Qg (fun g=>absurd g ?_) (fun _=>?_)⟩
   · rw[qac];omega
   refine⟨_,rfl,_,rfl,x,_,dx,_,_,rfl,hx1,T.cl_Log,T.n_Log_entries,rfl,_,rfl,y,C,de,fe,_,rfl,S1 _ _ he,cle,nae,lke,ed,_,rfl,DPut.k (k:=.inr nm) hL1.he (by rw[qac];exact qeB (by omega)),?_⟩;rw[qfx no];exact kk _ (fun b o e nb=>by rw[qh nb];exact S1 b o e) (hL1.pe _ (qf2 hL1.nde no))
theorem qdC {a:Ad} (T:Txt K mg a):FnOk P w K mg base CX0 3 a.f_ac a.fd_ac ["self","name"] (J8 a):=by
 have G_j:=zT (P:=P) (w:=w) (base:=base) T;refine T.d_ac.F.ok qdv (fun vs H Q E h=>?_) (fun cdv A outer s H vs Q E hr h=>?_)
 · obtain⟨x,td,ed,bl,ps,ns,zs,e0,bs,rfl,hL,me,tbb,h100,kk⟩:=h;rfl
 · obtain⟨x,td,ed,bl,ps,ns,zs,e0,bs,rfl,hL,me,tbb,h100,kk⟩:=h;have hU:=hr.units;have h_j:Room (2) _:=hr.mono (by decide);obtain⟨t_LATER,c_LATER⟩:=T.g_LATER;obtain⟨t_EARLIER,c_EARLIER⟩:=T.g_EARLIER
   refine⟨_,(qd (qD (qL (pv 0) T.cl_Log T.d_j.mt G_j h_j T.d_j.b .nil qm (qa (pv 1) qb)))
     (qd (qD (qhc (qN (pv 0) rfl) (pv 1) ⟨rfl,rfl,rfl,rfl⟩))
     (qf (Qe (pv 0) (Qb rfl (CompOk.def ["bond","name"] [none,some 1]) (qX (qN (pv 0) rfl)) (fun _ _ _ _ _=>(qq (i:=0) (show List.Nodup (["bond","name"]:List Str) by decide +kernel) rfl (Or.inl rfl))) (fun _ _ _ _ _=>(qas (PW.pt (ZD (qu (uNe hU) (pv 1) (qI (r:=rIx K) qx (pv 0) (za (v:=.int 0) rfl c_LATER ⟨_,rfl⟩) (fun _ _=>rfl)) (qC _)) (Qn (qu (uNe hU) (pv 1) (qI (r:=rIx K) qx (pv 0) (za (v:=.int 1) rfl c_EARLIER ⟨_,rfl⟩) (fun _ _=>rfl)) (qC _))))))) (fun _ _ _ _ _=>(pv 0))) rfl)))),?_⟩
   try dsimp only [zw,Cx.nox]
   obtain⟨dx,hx⟩:=hL.hx;refine⟨_,rfl,x,dx,_,rfl,hx,rfl,_,rfl,x,td,ed,bl,ps,ns,zs,e0,rfl,hL,me,?_⟩;refine⟨_,rfl,x,_,dx,_,_,rfl,hx,T.cl_Log,T.n_Log_entries,rfl,ed,rfl,.inl ⟨_,.inl hL.he⟩,_,rfl,_,.inr e0.1,_,hL.he,rfl,qab hL.nde e0 me,?_⟩;rw[qhF];have ndf:((ns.filter fun n=>decide (n.1≠e0.1)).map (·.1)).Nodup:=List.Pairwise.sublist (List.Sublist.map _ List.filter_sublist) hL.nde;have hG:=hL.pe _ ndf;have tg:TupL prB (upd H ed (.dK (skv (ns.filter fun n=>decide (n.1≠e0.1))))) zs bs:=TupL.putD tbb hL.he _;have BG:But ed H (upd H ed (.dK (skv (ns.filter fun n=>decide (n.1≠e0.1))))):=fun b o e nb=>by rw[qh nb];exact e
   have FG:∀ b,(upd H ed (.dK (skv (ns.filter fun n=>decide (n.1≠e0.1))))) b=none->H b=none:=fun b h=>qko h;generalize upd H ed (.dK (skv (ns.filter fun n=>decide (n.1≠e0.1))))=G at hG tg BG FG ⊢;obtain⟨dx,gx⟩:=hG.hx;refine⟨_,rfl,x,_,dx,_,_,rfl,gx,T.cl_Log,T.n_Log_bound,rfl,bl,rfl,⟨_,SqL.of hG.hb⟩,fun D fD=>?_⟩;refine zD (K:=K) (a:=bl) (xs:=zs) (D:=D) (fun i σ H2=>∃ (c0:Option V) (ws:List V),σ=[c0,some (.str e0.1)]∧Same G H2∧H2 D=some (.lst ws)∧TupL prB H2 ws ((bs.take i).filter (nok e0.1))) ⟨none,[],rfl,Same.new _ fD,qc,.nil⟩ (fun i σ H2 _ ⟨_,_,_,S,_⟩=>SqL.of (S _ _ hG.hb)) ?_ ?_
   · rintro i z σ H2 hz ⟨c0,ws,rfl,S,hD,tw⟩;obtain⟨b,u,hb',rfl,hu'⟩:=tg.of hz;have hu2:=S _ _ hu'
     have lw:ws.length≤100:=by
       have h1:=tw.1;have h2:=List.length_filter_le (nok e0.1) (bs.take i);have h3:=tbb.1;rw[List.length_take]at h2;omega
     have tf:=qdp (p:=nok e0.1) hb';refine⟨_,rfl,_,rfl,.inr (.inl ⟨u,_,_,_,rfl,rfl,SqT.of hu2,rfl,.inl ⟨rfl,_,rfl,?_⟩⟩)⟩;rw[qfr];by_cases c1:e0.1=b.1
     · refine q8 (by simp[c1]) (q8 rfl ?_);refine⟨_,ws,rfl,S,hD,?_⟩;rw[tf,if_neg (by simp[nok,c1]),List.append_nil];exact tw
     refine Jc (by simp[c1]) ?_;refine⟨_,rfl,_,rfl,.inr (.inl ⟨u,_,_,_,rfl,rfl,SqT.of hu2,rfl,.inl ⟨rfl,_,rfl,?_⟩⟩)⟩;rw[qfr];by_cases c2:e0.1=b.2.1
     · refine q8 (by simp[c2]) ?_;refine⟨_,ws,rfl,S,hD,?_⟩;rw[tf,if_neg (by simp[nok,c2]),List.append_nil];exact tw
     refine Jc (by simp[c2]) ?_;refine⟨_,rfl,ws,hD,qeB lw,_,_,rfl,S.put fD _,qc,?_⟩;rw[tf,if_pos (by simp[nok,c1,c2])];exact(tw.snoc hu2).put hD
   rintro σ H2 ⟨c0,ws,rfl,S,hD,tw⟩;rw[tg.1,List.take_length]at tw;refine⟨_,rfl,x,_,dx,_,rfl,S _ _ gx,T.cl_Log,T.n_Log_bound,(Nat.le_of_ble_eq_true rfl),?_⟩;have nxt:td≠x:=zN hG.ht gx (by intro z;cases z);have nxe:ed≠x:=zN hG.he gx (by intro z;cases z);have nxD:D≠x:=zN hD (S _ _ gx) (by intro z;cases z);have ef:qbu ("bound":Str) (.ref D) (fsL td ed bl)=fsL td ed D:=rfl;rw[ef];refine kk D ws _ (FG D fD) (fun b o e n1 n2=>by rw[qh n1];exact S b o (BG b o e n2)) ⟨⟨dx,qc⟩,by rw[qh nxt];exact S _ _ hG.ht,by rw[qh nxe];exact S _ _ hG.he,by rw[qh nxD];exact hD,hG.ne,hG.ndt,ndf⟩ ⟨tw.1,fun j z y e1 e2=>?_⟩;obtain⟨t,et,ht⟩:=tw.2 j z y e1 e2;exact⟨t,et,by rw[qh (zN ht (S _ _ gx) (by intro z;cases z))];exact ht⟩
end
theorem zM {α:Type}{l:List α}{i:Nat}{x:α} (h:l[i]?=some x):l.take (i+1)=l.take i++[x]:=by rw[List.take_add_one,h];rfl
inductive JY (vs:List V) (H:Hp) (Q:VK):Prop
 | mk (b:Addr) (qs:List Addr) (zss:List (List V)) (h1:vs=[.ref b]) (h2:LL H b qs zss) (h3:qs.length≤60) (h4:∀ (d:Addr) (rs:List Addr) (H':Hp),H d=none->(∀ r∈rs,H r=none)->Same H H'->LL H' d rs zss->Q (.ref d) H'):JY vs H Q
def JZ:Sp:=fun vs H Q _=>JY vs H Q
theorem kn:¬ (("kept_spans":Str)="kept_bonds"):=by decide +kernel
def qjr (k kb:Addr):List (Str×V):=qbu "kept_bonds" (.ref kb) (qbu "kept_spans" (.ref k) [])
theorem qeX (k kb:Addr):(qjr k kb).lookup ("kept_spans":Str)=some (.ref k):=by
 unfold qjr;rw[zy,if_neg kn,zy,if_pos rfl]
theorem qeY (k kb:Addr):(qjr k kb).lookup ("kept_bonds":Str)=some (.ref kb):=by
 unfold qjr;rw[zy,if_pos rfl]
theorem qgn (k kb:Addr) {m:Str} (h1:¬ m="kept_bonds") (h2:¬ m="kept_spans"):(qjr k kb).lookup m=none:=by
 unfold qjr;rw[zy,if_neg h1,zy,if_neg h2];rfl
def FrAt (a:Ad) (H:Hp) (x k kb:Addr):Prop:=∃ dx,H x=some (.ins a.c_Frame dx (qjr k kb))
def Fr (a:Ad) (H:Hp) (x:Addr) (zss:List (List V)) (bs:List V):Prop:=∃ (k kb:Addr) (rs:List Addr),FrAt a H x k kb∧LL H k rs zss∧H kb=some (.lst bs)
theorem FrAt.same {a:Ad}{H H':Hp}{x k kb:Addr} (h:FrAt a H x k kb) (s:Same H H'):FrAt a H' x k kb:=by
 obtain⟨dx,e⟩:=h;exact⟨dx,s _ _ e⟩
theorem Fr.same {a:Ad}{H H':Hp}{x:Addr}{zss:List (List V)}{bs:List V} (h:Fr a H x zss bs) (s:Same H H'):Fr a H' x zss bs:=by
 obtain⟨k,kb,rs,f,L,e⟩:=h;exact⟨k,kb,rs,f.same s,L.same s,s _ _ e⟩
inductive Zy (a:Ad) (vs:List V) (H:Hp) (Q:VK):Prop
 | mk (x dx s b:Addr) (qs:List Addr) (zss:List (List V)) (bs:List V) (h1:vs=[.ref x,.ref s,.ref b]) (h2:H x=some (.ins a.c_Frame dx [])) (h3:LL H s qs zss) (h4:qs.length≤60) (h5:H b=some (.lst bs)) (h6:∀ (k kb:Addr) (rs:List Addr) (H':Hp),H k=none->(∀ r∈rs,H r=none)->H kb=none->But x H H'->FrAt a H' x k kb->LL H' k rs zss->H' kb=some (.lst bs)->Q .non H'):Zy a vs H Q
def jF (a:Ad):Sp:=fun vs H Q _=>Zy a vs H Q
inductive Ze (a:Ad) (vs:List V) (H:Hp) (Q:VK):Prop
 | mk (x k kb:Addr) (rs:List Addr) (zss:List (List V)) (h1:vs=[.ref x]) (h2:FrAt a H x k kb) (h3:LL H k rs zss) (h4:rs.length≤60) (h5:∀ (d:Addr) (ts:List Addr) (H':Hp),H d=none->(∀ t∈ts,H t=none)->Same H H'->LL H' d ts zss->Q (.ref d) H'):Ze a vs H Q
def QG (a:Ad):Sp:=fun vs H Q _=>Ze a vs H Q
inductive Zf (a:Ad) (vs:List V) (H:Hp) (Q:VK):Prop
 | mk (x k kb:Addr) (bs:List V) (h1:vs=[.ref x]) (h2:FrAt a H x k kb) (h3:H kb=some (.lst bs)) (h4:∀ d,H d=none->Q (.ref d) (upd H d (.lst bs))):Zf a vs H Q
def Z5 (a:Ad):Sp:=fun vs H Q _=>Zf a vs H Q
inductive qbe (K:Frag) (vs:List V) (H:Hp) (Q:VK):Prop
 | mk (sa:Addr) (ns:List Int) (k:Int) (h1:vs=[.ref sa,.int k]) (h2:SqL K H sa (ns.map V.int)) (h3:0≤k) (h4:∀ (p:Addr) (H':Hp),H p=none->Same H H'->PoolAt H' p->Q (.ref p) H'):qbe K vs H Q
def qdZ (K:Frag):Sp:=fun vs H Q _=>qbe K vs H Q
inductive qbc (vs:List V) (H:Hp) (Q:VK):Prop
 | mk (p:Addr) (m:Int) (h1:vs=[.ref p,.int m]) (h2:PoolAt H p) (h3:0 < m) (h4:m < 1073741824) (h5:∀ (d:Int) (H':Hp),0≤d->d < m->But p H H'->PoolAt H' p->Q (.int d) H'):qbc vs H Q
def Q5:Sp:=fun vs H Q _=>qbc vs H Q
def SW (H:Hp):Nat->V->V->Prop
 | 0,x,y=>SV H 0 x y
 | n+1,x,y=>SV H 0 x y∨∃ (t:Bool) (a b:Addr) (xs ys:List V),x=.ref a∧y=.ref b∧H a=some (ho t xs)∧H b=some (ho t ys)∧xs.length=ys.length∧xs.length≤1000∧∀ (i:Nat) u v,xs[i]?=some u->ys[i]?=some v->SW H n u v
theorem SW.same {H H':Hp} (s:Same H H'):∀ {n:Nat}{x y:V},SW H n x y->SW H' n x y
 | 0,_,_,h=>h
 | _+1,_,_,.inl h=>.inl h
 | _+1,_,_,.inr ⟨t,a,b,xs,ys,e1,e2,h1,h2,h3,h4,h5⟩=>.inr ⟨t,a,b,xs,ys,e1,e2,s _ _ h1,s _ _ h2,h3,h4,fun i u v q1 q2=>(h5 i u v q1 q2).same s⟩
def qiR:Nat->Sp
 | 0=>fun _ _ _ _=>False
 | n+1=>fun vs H Q _=>∃ x y,vs=[x,y]∧SW H n x y∧∀ H',Same H H'->Q (.bl true) H'
def qbL:Sp:=fun vs H Q E=>qiR 4 vs H Q E∨qiR 3 vs H Q E∨qiR 2 vs H Q E∨qiR 1 vs H Q E
theorem qcc {β:Type}{f:β->List V}{H H':Hp}{p:Addr}{zs:List V}{ps:List β} (h:TupL f H zs ps) (hp:PoolAt H p) (b:But p H H'):TupL f H' zs ps:=⟨h.1,fun i z q e1 e2=>by
 obtain⟨t,rfl,e⟩:=h.2 i z q e1 e2;obtain⟨_,_,_,e'⟩:=hp
 exact⟨t,rfl,b _ _ e (zN e e' (by intro z;cases z))⟩⟩
section
variable {P:Program}{w:World}{K:Frag}{mg:Str->Option Value}{base:Heap}
theorem qcP {a:Ad} (T:Txt K mg a):FnOk P w K mg base CX0 1 a.f_v a.fd_v ["spans"] JZ:=by
 refine T.d_v.F.ok qfC (fun vs H Q E h=>?_) (fun cdv A outer s H vs Q E hr h=>?_)
 · obtain⟨b,qs,zss,rfl,L,hl,kk⟩:=h;rfl
 · obtain⟨b,qs,zss,rfl,L,hl,kk⟩:=h;refine⟨_,(qf (qE (Qb rfl (CompOk.def ["one"] [none]) (qX (pv 0)) (fun _ _ _ _ _=>(qq (i:=0) (show List.Nodup (["one"]:List Str) by decide +kernel) rfl (Or.inl rfl))) (fun _ _ _ _ _=>Qa) (fun _ _ _ _ _=>(zC (r:=qg4 K) zl (by rfl) T.n_list qR (qa (pv 0) qb)))))),?_⟩;(try dsimp only [zw,Cx.nox]);refine⟨_,rfl,b,rfl,⟨_,SqL.of L.at_⟩,fun D fD=>?_⟩;have hlq:=hl;have hll:=L.len;refine zD (K:=K) (a:=b) (D:=D) (fun i σ H2=>∃ (s0:Option V) (rs:List Addr),σ=[s0]∧Same H H2∧LL H2 D rs (List.take i zss)∧∀ r∈rs,H r=none) ⟨none,[],rfl,Same.new _ fD,(by rw[List.take_zero];exact .nil qc),fun r m=>by cases m⟩ (fun i σ H2 _ ⟨_,_,_,S,_⟩=>SqL.of (S _ _ L.at_)) ?_ ?_
   · rintro i x σ H2 hx ⟨s0,rs,rfl,S,Lr,fr⟩;obtain⟨q,hqi,rfl⟩:=zh hx;have hiz:i < List.length zss:=by rw[← L.len];exact(List.getElem?_eq_some_iff.mp hqi).1
     obtain⟨zs,hzi⟩:∃ zs,zss[i]?=some zs:=⟨_,List.getElem?_eq_getElem hiz⟩
     have hq:H2 q=some (.lst zs):=S _ _ (L.each i q zs hqi hzi);refine⟨_,rfl,q,zs,rfl,.inl (SqL.of hq),fun l2 fl2=>⟨_,Same.new _ fl2 _ _ Lr.at_,qw (by rw[List.length_map,Lr.len,List.length_take];omega),?_⟩⟩;refine⟨_,rs++[l2],rfl,(S.then _ fl2).put fD _,?_,fun r m=>?_⟩
     · rw[zM hzi];exact(Lr.same (Same.new _ fl2)).snoc qc (qi Lr.at_ fl2).symm
     · rcases List.mem_append.mp m with m|m
       · exact fr r m
       · have e:r=l2:=by simpa using m
         rw[e];exact S.none fl2
   · rintro σ H2 ⟨s0,rs,rfl,S,Lr,fr⟩;rw[List.take_of_length_le (by rw[List.length_map,L.len];exact Nat.le_refl _)]at Lr;exact kk D rs H2 fD fr S Lr
theorem qb4 {a:Ad} (T:Txt K mg a):FnOk P w K mg base CX0 2 a.f_0 a.fd_0 ["self","spans","bonds"] (jF a):=by
 have G_v:=qcP (P:=P) (w:=w) (base:=base) T;refine T.d_0.F.ok qbU (fun vs H Q E h=>?_) (fun cdv A outer s H vs Q E hr h=>?_)
 · obtain⟨x,dx,s,b,qs,zss,bs,rfl,hx,L,hl,hb,kk⟩:=h;rfl
 · obtain⟨x,dx,s,b,qs,zss,bs,rfl,hx,L,hl,hb,kk⟩:=h;have h_v:Room (1) _:=hr.mono (by decide)
   refine⟨_,(qd (Qe (pv 0) (qj G_v h_v rfl T.d_v.m T.d_v.k T.d_v.b .nil qm (qa (pv 1) qb)) rfl)
     (qf (Qe (pv 0) (zC (r:=qg4 K) zl (by rfl) T.n_list qR (qa (pv 2) qb)) rfl))),?_⟩
   try dsimp only [zw,Cx.nox]
   refine⟨_,rfl,s,qs,zss,rfl,L,hl,fun k rs G1 fk fr S1 Lk=>?_⟩;have hx1:=S1 _ _ hx;have hb1:=S1 _ _ hb;refine⟨_,rfl,x,_,dx,[],rfl,hx1,T.cl_Frame,T.n_Frame_kept_spans,(by show 0 < 1000;decide),?_⟩;have nbx:b≠x:=zN hb1 hx1 (by intro z;cases z);refine⟨_,rfl,b,bs,rfl,.inl (SqL.of ((qh nbx).trans hb1)),fun kb fkb=>?_⟩;have nkx:kb≠x:=(qdR fkb).1;have fkb1:G1 kb=none:=(qdR fkb).2;have fkbH:H kb=none:=S1.none fkb1;refine⟨_,rfl,x,_,dx,_,rfl,(qh nkx.symm).trans qc,T.cl_Frame,T.n_Frame_kept_bonds,(by show 1 < 1000;decide),?_⟩;have hx0:cut G1 [x] x=none:=qy (by simp)
   have nl:∀ c ys,G1 c=some (.lst ys)->c∉[x]:=fun c ys e z=>by
     have e2:c=x:=by simpa using z
     rw[e2,hx1]at e;cases e
   refine kk k kb rs _ fk fr fkbH (fun c o e n=>?_) ⟨dx,qc⟩ ((Lk.cut (nl _ _ Lk.at_) fun r m=>?_).same ((((qv G1 [x]).put hx0 _).then _ fkb).put hx0 _)) ((qh nkx).trans qc)
   · rw[qh n,qh (qi e fkbH),qh n];exact S1 _ _ e
   · obtain⟨zs,_,e⟩:=Lk.get m;exact nl _ _ e
theorem jf {a:Ad} (T:Txt K mg a):FnOk P w K mg base CX0 2 a.f_A a.fd_A ["self"] (QG a):=by
 have G_v:=qcP (P:=P) (w:=w) (base:=base) T;refine T.d_A.F.ok qaX (fun vs H Q E h=>?_) (fun cdv A outer s H vs Q E hr h=>?_)
 · obtain⟨x,k,kb,rs,zss,rfl,⟨dx,hx⟩,L,hl,kk⟩:=h;rfl
 · obtain⟨x,k,kb,rs,zss,rfl,⟨dx,hx⟩,L,hl,kk⟩:=h;have h_v:Room (1) _:=hr.mono (by decide);refine⟨_,(qf (qE (qj G_v h_v rfl T.d_v.m T.d_v.k T.d_v.b .nil qm (qa (qN (pv 0) rfl) qb)))),?_⟩;(try dsimp only [zw,Cx.nox]);exact⟨_,rfl,x,_,dx,_,_,rfl,hx,T.cl_Frame,T.n_Frame_kept_spans,qeX _ _,k,rs,zss,rfl,L,hl,kk⟩
theorem qa5 {a:Ad} (T:Txt K mg a):FnOk P w K mg base CX0 1 a.f_1 a.fd_1 ["self"] (Z5 a):=by
 refine T.d_1.F.ok qaY (fun vs H Q E h=>?_) (fun cdv A outer s H vs Q E hr h=>?_)
 · obtain⟨x,k,kb,bs,rfl,⟨dx,hx⟩,hb,kk⟩:=h;rfl
 · obtain⟨x,k,kb,bs,rfl,⟨dx,hx⟩,hb,kk⟩:=h;refine⟨_,(qf (qE (zC (r:=qg4 K) zl (by rfl) T.n_list qR (qa (qN (pv 0) rfl) qb)))),?_⟩;(try dsimp only [zw,Cx.nox]);exact⟨_,rfl,x,_,dx,_,_,rfl,hx,T.cl_Frame,T.n_Frame_kept_bonds,qeY _ _,kb,bs,rfl,.inl (SqL.of hb),kk⟩
theorem qb8 (c k:Int):0≤(c * 7919+k * 104729+12345) % 2147483647∧(c * 7919+k * 104729+12345) % 2147483647 < 2147483647:=⟨Int.emod_nonneg _ (by decide),Int.emod_lt_of_pos _ (by decide)⟩
theorem qhi {a:Ad} (T:Txt K mg a):FnOk P w K mg base CX0 1 a.f_m a.fd_m ["_law_script","_law_k"] (qdZ K):=by
 refine T.d_m.F.ok sc_Lpool (fun vs H Q E h=>?_) (fun cdv A outer s H vs Q E hr h=>?_)
 · obtain⟨sa,ns,k,rfl,hS,k0,kk⟩:=h;rfl
 · obtain⟨sa,ns,k,rfl,hS,k0,kk⟩:=h;have hU:=hr.units
   refine⟨_,(qd (qz (i:=2) sc_Lpool.nd rfl (Or.inl rfl) qe)
     (qd (qS (qu qaw (qk qK (by rfl) T.n_len qG (qa (pv 0) qb)) qe (qC _))
       (qf (qz (i:=2) sc_Lpool.nd rfl (Or.inl rfl) (qk qhP (by rfl) T.n_abs qgD (qa (qI (r:=rIx K) qx (pv 0) (qB QV (pv 1) (qk qK (by rfl) T.n_len qG (qa (pv 0) qb))) (fun _ _=>rfl)) qb))))
       qA)
     (qd (qz (i:=3) sc_Lpool.nd rfl (Or.inl rfl) (qB QV (qB Qx (qB Qx (qB JC (pv 2) qe) (qB JC (pv 1) qe)) qe) qe))
     (qd (qz (i:=3) sc_Lpool.nd rfl (Or.inl rfl) (qB QV (qB JC (pv 3) (pv 3)) qe))
     (qd (qS (PW.pt (qa1 (qu qhf (pv 1) (qk qK (by rfl) T.n_len qG (qa (pv 0) qb)) (qC _)) (jd (qu qdx (pv 2) (qB qcL qe qe) (qC _)))))
       (qf (qz (i:=2) sc_Lpool.nd rfl (Or.inl rfl) qe))
       qA)
     (qf (qE (qT (qa (pv 2) (qa (pv 3) (qa (qB QV (qB Qx (qB jm (pv 3) qe) (qB JC qe (pv 1))) qe) qb))))))))))),?_⟩
   try dsimp only [zw,Cx.nox]
   refine⟨_,rfl,_,_,rfl,.inl ⟨_,hS,rfl⟩,_,_,rfl,rfl,_,rfl,?_⟩;refine Qg (fun h1=>?_) (fun h1=>?_)
   · obtain⟨v,hv,mv⟩:=qgG (xs:=ns.map V.int) (i:=k % ((ns.map V.int).length:Int)) (Int.emod_nonneg _ (by omega)) (Int.emod_lt_of_pos _ (by omega))
     obtain⟨n,rfl⟩:∃ n,v=.int n:=by
       obtain⟨n,_,e⟩:=List.mem_map.mp mv;exact⟨n,e.symm⟩
     refine⟨_,rfl,_,rfl,_,rfl,_,_,rfl,.inl ⟨_,hS,rfl⟩,_,_,rfl,rfl,(by omega),.inl ⟨sa,_,_,_,rfl,rfl,hS,hv,n,rfl,?_⟩⟩;generalize (if n < 0 then -n else n)=c;refine⟨_,rfl,_,_,rfl,rfl,.inr ⟨by decide,by decide⟩,_,rfl,_,_,rfl,rfl,.inr ⟨by decide,by decide⟩,.inl ⟨_,_,rfl,rfl,.inl ⟨_,_,rfl,rfl,_,_,rfl,rfl,(by show (0:Int) < _;decide),?_⟩⟩⟩;refine⟨_,rfl,_,rfl,_,_,rfl,rfl,.inl ⟨by have:=qb8 c k;omega,by have:=qb8 c k;omega⟩,_,_,rfl,rfl,(by show (0:Int) < _;decide),?_⟩;have fin:∀ c f:Int,∀ p:Addr,H p=none->Q (.ref p) (upd H p (.lst [.int c,.int f,.int ((f / 7+31 * k) % 2147483629)])):=fun c f p fp=>kk p _ fp (Same.new _ fp) ⟨_,_,_,qc⟩;refine⟨_,rfl,_,rfl,_,_,rfl,.inl ⟨_,hS,rfl⟩,_,_,rfl,rfl,_,rfl,?_⟩;refine Qg (fun h2=>qe9 ?_) (fun h2=>?_)
     · exact⟨_,rfl,_,rfl,_,rfl,_,_,rfl,rfl,⟨by decide,by decide⟩,_,rfl,_,_,rfl,rfl,.inl ⟨by decide,by decide⟩,.inl ⟨_,_,rfl,rfl,_,_,rfl,rfl,(by show (0:Int) < _;decide),ql (Nat.le_of_ble_eq_true rfl),fun p fp=>fin _ _ p fp⟩⟩
     · refine⟨_,rfl,_,_,rfl,rfl,⟨by decide,by decide,by decide⟩,_,_,rfl,rfl,_,rfl,?_⟩;refine Qg (fun h3=>?_) (fun h3=>?_)
       · exact⟨_,rfl,_,rfl,_,rfl,_,_,rfl,rfl,⟨by decide,by decide⟩,_,rfl,_,_,rfl,rfl,.inl ⟨by decide,by decide⟩,.inl ⟨_,_,rfl,rfl,_,_,rfl,rfl,(by show (0:Int) < _;decide),ql (Nat.le_of_ble_eq_true rfl),fun p fp=>fin _ _ p fp⟩⟩
       · exact⟨_,rfl,_,rfl,_,rfl,_,_,rfl,rfl,⟨by decide,by decide⟩,_,rfl,_,_,rfl,rfl,.inl ⟨by decide,by decide⟩,.inl ⟨_,_,rfl,rfl,_,_,rfl,rfl,(by show (0:Int) < _;decide),ql (Nat.le_of_ble_eq_true rfl),fun p fp=>fin _ _ p fp⟩⟩
   ·
     refine⟨_,rfl,_,_,rfl,rfl,.inr ⟨by decide,by decide⟩,_,rfl,_,_,rfl,rfl,.inr ⟨by decide,by decide⟩,.inl ⟨_,_,rfl,rfl,.inl ⟨_,_,rfl,rfl,_,_,rfl,rfl,(by show (0:Int) < _;decide),?_⟩⟩⟩;refine⟨_,rfl,_,rfl,_,_,rfl,rfl,.inl ⟨by have:=qb8 0 k;omega,by have:=qb8 0 k;omega⟩,_,_,rfl,rfl,(by show (0:Int) < _;decide),?_⟩;have fin:∀ c f:Int,∀ p:Addr,H p=none->Q (.ref p) (upd H p (.lst [.int c,.int f,.int ((f / 7+31 * k) % 2147483629)])):=fun c f p fp=>kk p _ fp (Same.new _ fp) ⟨_,_,_,qc⟩;refine⟨_,rfl,_,rfl,_,_,rfl,.inl ⟨_,hS,rfl⟩,_,_,rfl,rfl,_,rfl,?_⟩;refine Qg (fun h2=>qe9 ?_) (fun h2=>?_)
     · exact⟨_,rfl,_,rfl,_,rfl,_,_,rfl,rfl,⟨by decide,by decide⟩,_,rfl,_,_,rfl,rfl,.inl ⟨by decide,by decide⟩,.inl ⟨_,_,rfl,rfl,_,_,rfl,rfl,(by show (0:Int) < _;decide),ql (Nat.le_of_ble_eq_true rfl),fun p fp=>fin _ _ p fp⟩⟩
     · refine⟨_,rfl,_,_,rfl,rfl,⟨by decide,by decide,by decide⟩,_,_,rfl,rfl,_,rfl,?_⟩;refine Qg (fun h3=>?_) (fun h3=>?_)
       · exact⟨_,rfl,_,rfl,_,rfl,_,_,rfl,rfl,⟨by decide,by decide⟩,_,rfl,_,_,rfl,rfl,.inl ⟨by decide,by decide⟩,.inl ⟨_,_,rfl,rfl,_,_,rfl,rfl,(by show (0:Int) < _;decide),ql (Nat.le_of_ble_eq_true rfl),fun p fp=>fin _ _ p fp⟩⟩
       · exact⟨_,rfl,_,rfl,_,rfl,_,_,rfl,rfl,⟨by decide,by decide⟩,_,rfl,_,_,rfl,rfl,.inl ⟨by decide,by decide⟩,.inl ⟨_,_,rfl,rfl,_,_,rfl,rfl,(by show (0:Int) < _;decide),ql (Nat.le_of_ble_eq_true rfl),fun p fp=>fin _ _ p fp⟩⟩
theorem ZP {a:Ad} (T:Txt K mg a):FnOk P w K mg base CX0 1 a.f_a a.fd_a ["_law_pool_here","_law_m"] Q5:=by
 refine T.d_a.F.ok sc_Ltake (fun vs H Q E h=>?_) (fun cdv A outer s H vs Q E hr h=>?_)
 · obtain⟨p,m,rfl,⟨c,x,y,hp⟩,m0,m1,kk⟩:=h;rfl
 · obtain⟨p,m,rfl,⟨c,x,y,hp⟩,m0,m1,kk⟩:=h;have hU:=hr.units
   refine⟨_,(qd (qS (qu qaw (qI (r:=rIx K) qx (pv 0) qe (fun _ _=>rfl)) qe (qC _))
       (qd (qz (i:=2) sc_Ltake.nd rfl (Or.inl rfl) (qB QV (qI (r:=rIx K) qx (pv 0) qe (fun _ _=>rfl)) (pv 1)))
       (qd (JB (qB jm (qI (r:=rIx K) qx (pv 0) qe (fun _ _=>rfl)) (pv 1)) (qcI (pv 0) qe jG))
       (qf (qE (pv 2)))))
       qA)
     (qd (JB (qB QV (qB Qx (qB JC (qI (r:=rIx K) qx (pv 0) qe (fun _ _=>rfl)) qe) qe) qe) (qcI (pv 0) qe jG))
     (qd (JB (qB QV (qB Qx (qB Qx (qB JC (qI (r:=rIx K) qx (pv 0) qe (fun _ _=>rfl)) qe) (qB jm (qI (r:=rIx K) qx (pv 0) qe (fun _ _=>rfl)) qe)) qe) qe) (qcI (pv 0) qe jG))
     (qf (qE (qB QV (qB Qx (qB jm (qI (r:=rIx K) qx (pv 0) qe (fun _ _=>rfl)) qe) (qB jm (qI (r:=rIx K) qx (pv 0) qe (fun _ _=>rfl)) qe)) (pv 1))))))),?_⟩
   try dsimp only [zw,Cx.nox]
   refine⟨_,rfl,.inl ⟨p,_,_,_,rfl,rfl,SqL.of hp,rfl,_,_,rfl,rfl,_,rfl,?_⟩⟩;refine Qg (fun h1=>?_) (fun h1=>?_)
   · refine⟨_,rfl,.inl ⟨p,_,_,_,rfl,rfl,SqL.of hp,rfl,_,rfl,_,_,rfl,rfl,m0,?_⟩⟩;refine⟨_,rfl,.inl ⟨p,_,_,_,rfl,rfl,SqL.of hp,rfl,_,rfl,_,_,rfl,rfl,⟨m0,m1⟩,_,rfl,p,_,_,_,rfl,rfl,hp,rfl,_,rfl,?_⟩⟩;exact kk _ _ (Int.emod_nonneg _ (by omega)) (Int.emod_lt_of_pos _ m0) ((But.refl p H).put _) ⟨_,_,_,qc⟩
   · refine⟨_,rfl,.inl ⟨p,_,_,_,rfl,rfl,SqL.of hp,rfl,_,_,rfl,rfl,.inr ⟨by decide,by decide⟩,.inl ⟨_,_,rfl,rfl,_,_,rfl,rfl,(by show (0:Int) < _;decide),_,rfl,p,_,_,_,rfl,rfl,hp,rfl,?_⟩⟩⟩;have hp1:=@qc H p (.lst [.int c,.int ((x * 48271+11) % 2147483647),.int y]);refine⟨_,rfl,.inl ⟨p,_,_,_,rfl,rfl,SqL.of hp1,rfl,_,_,rfl,rfl,.inr ⟨by decide,by decide⟩,_,rfl,.inl ⟨p,_,_,_,rfl,rfl,SqL.of hp1,rfl,_,_,rfl,rfl,⟨by decide,by decide⟩,.inl ⟨_,_,rfl,rfl,.inl ⟨_,_,rfl,rfl,_,_,rfl,rfl,(by show (0:Int) < _;decide),_,rfl,p,_,_,_,rfl,rfl,hp1,rfl,?_⟩⟩⟩⟩⟩;have hp2:=@qc (upd H p (.lst [.int c,.int ((x * 48271+11) % 2147483647),.int y])) p (.lst [.int c,.int ((x * 48271+11) % 2147483647),.int ((y * 69621+((x * 48271+11) % 2147483647) / 5+7) % 2147483629)]);refine⟨_,rfl,.inl ⟨p,_,_,_,rfl,rfl,SqL.of hp2,rfl,_,_,rfl,rfl,⟨by decide,by decide⟩,_,rfl,.inl ⟨p,_,_,_,rfl,rfl,SqL.of hp2,rfl,_,_,rfl,rfl,⟨by decide,by decide⟩,.inl ⟨_,_,rfl,rfl,_,rfl,_,_,rfl,rfl,m0,?_⟩⟩⟩⟩;exact kk _ _ (Int.emod_nonneg _ (by omega)) (Int.emod_lt_of_pos _ m0) (((But.refl p H).put _).put _) ⟨_,_,_,qc⟩
theorem qfE {a:Ad} (T:Txt K mg a) (n:Nat) (G_d:FnOk P w K mg base CX0 n a.f_d a.fd_d ["_law_found","_law_due"] (qiR n)):FnOk P w K mg base CX0 (n+1) a.f_d a.fd_d ["_law_found","_law_due"] (qiR (n+1)):=by
 refine T.d_d.F.ok qg3 (fun vs H Q E h=>?_) (fun cdv A outer s H vs Q E hr h=>?_)
 · obtain⟨x,y,rfl,hv,kk⟩:=h;rfl
 · obtain⟨x,y,rfl,hv,kk⟩:=h;have hU:=hr.units;have h_d:Room n _:=hr
   refine⟨_,(qd (qS (zo (qk qhO (by rfl) T.n_isinstance qo (qa (pv 1) (qa (qQ (qa (zm (v:=.ty "list") rfl T.n_list qR rfl) (qa (zm (v:=.ty "tuple") rfl T.n_tuple Qu rfl) qb))) qb))))
       (qd (qS (PW.pt (qa1 (qu (uNe hU) (qk qY (by rfl) T.n_isinstance qo (qa (pv 1) (qa (zm (v:=.ty "list") rfl T.n_list qR rfl) qb))) (qk qY (by rfl) T.n_isinstance qo (qa (pv 0) (qa (zm (v:=.ty "list") rfl T.n_list qR rfl) qb))) (qC _)) (jd (qu (uNe hU) (qk qY (by rfl) T.n_isinstance qo (qa (pv 1) (qa (zm (v:=.ty "tuple") rfl T.n_tuple Qu rfl) qb))) (qk qY (by rfl) T.n_isinstance qo (qa (pv 0) (qa (zm (v:=.ty "tuple") rfl T.n_tuple Qu rfl) qb))) (qC _)))))
         (qf (qE qcJ))
         qA)
       (qf (qE (ZF (Qo (uEq hU) (qk qK (by rfl) T.n_len qG (qa (pv 0) qb)) (qk qK (by rfl) T.n_len qG (qa (pv 1) qb)) (qC _)) (jQ (qk (qdd rfl) (by rfl) T.n_all qdf (qa (Qb rfl (CompOk.def ["_law_one","_law_other"] [none,none]) (qig rfl T.n_zip (qa (pv 0) (qa (pv 1) qb))) (fun _ _ _ _ _=>(show PG _ _ (qhC K 2 _) from (zK rfl (qr (qq (i:=0) (show List.Nodup (["_law_one","_law_other"]:List Str) by decide +kernel) rfl (Or.inl rfl)) (qr (qq (i:=1) (show List.Nodup (["_law_one","_law_other"]:List Str) by decide +kernel) rfl (Or.inl rfl)) zg))))) (fun _ _ _ _ _=>Qa) (fun _ _ _ _ _=>(qj G_d h_d rfl T.d_d.m T.d_d.k T.d_d.b .nil qm (qa (pv 0) (qa (pv 1) qb))))) qb)))))))
       qA)
     (qd (qS (PW.pt (qa1 (qu (uNe hU) (qk qY (by rfl) T.n_isinstance qo (qa (pv 0) (qa (zm (v:=.ty "bool") rfl T.n_bool Jf rfl) qb))) (qk qY (by rfl) T.n_isinstance qo (qa (pv 1) (qa (zm (v:=.ty "bool") rfl T.n_bool Jf rfl) qb))) (qC _)) (jd (qu (uNe hU) (qk qY (by rfl) T.n_isinstance qo (qa (pv 0) (qa (zm (v:=.ty "int") rfl T.n_int ZM rfl) qb))) (qk qY (by rfl) T.n_isinstance qo (qa (pv 1) (qa (zm (v:=.ty "int") rfl T.n_int ZM rfl) qb))) (qC _)))))
       (qf (qE qcJ))
       qA)
     (qf (qE (ZF (Qo (uEq hU) (qk qY (by rfl) T.n_isinstance qo (qa (pv 0) (qa (zm (v:=.ty "str") rfl T.n_str j4 rfl) qb))) (qk qY (by rfl) T.n_isinstance qo (qa (pv 1) (qa (zm (v:=.ty "str") rfl T.n_str j4 rfl) qb))) (qC _)) (jQ (Qo (uEq hU) (pv 0) (pv 1) (qC _)))))))),?_⟩
   try dsimp only [zw,Cx.nox]
   have hv2:SV H 0 x y∨∃ m,n=m+1∧∃ (t:Bool) (a b:Addr) (xs ys:List V),x=.ref a∧y=.ref b∧H a=some (ho t xs)∧H b=some (ho t ys)∧xs.length=ys.length∧xs.length≤1000∧∀ (i:Nat) u v,xs[i]?=some u->ys[i]?=some v->SW H m u v:=by
     cases n with
     | zero=>exact .inl hv
     | succ m=>exact Or.imp id (fun h=>⟨m,rfl,h⟩) hv
   clear hv;rcases hv2 with hv|⟨m,rfl,t,b,c,xs,ys,rfl,rfl,hb,hc,hlen,hle,hk⟩
   ·
     have tyx:∃ t,tyN H x=some t∧tyN H y=some t∧qc5 t ["list","tuple"]=false∧qk9 x y=true∧x=y:=by
       rcases hv with ⟨i,rfl,rfl⟩|⟨rfl,rfl⟩
       · exact⟨_,rfl,rfl,rfl,rfl,rfl⟩
       · exact⟨_,rfl,rfl,rfl,rfl,rfl⟩
     obtain⟨t,hx,hy,hn,hs,he⟩:=tyx;refine⟨_,rfl,ql (Nat.le_of_ble_eq_true rfl),fun tp ftp=>⟨_,tp,["list","tuple"],_,rfl,qc,by decide,L2.tyN_same (Same.new _ ftp) hy,_,rfl,q8 hn ?_⟩⟩;have hx':=L2.tyN_same (Same.new (.tup [.ty "list",.ty "tuple"]) ftp) hx;have hy':=L2.tyN_same (Same.new (.tup [.ty "list",.ty "tuple"]) ftp) hy;refine⟨_,rfl,_,_,_,rfl,(by decide),hx',_,rfl,_,_,_,rfl,(by decide),hy',.inl ⟨rfl,_,rfl,qeT (fun g=>absurd rfl g) (fun _=>?_)⟩⟩;refine⟨_,rfl,_,_,_,rfl,(by decide),hx',_,rfl,_,_,_,rfl,(by decide),hy',.inl ⟨rfl,_,rfl,qeT (fun g=>absurd rfl g) (fun _=>?_)⟩⟩;refine⟨_,rfl,_,_,_,rfl,(by decide),hx',_,rfl,_,_,_,rfl,(by decide),hy',.inl ⟨rfl,_,rfl,Qg (fun _=>?_) (fun g=>absurd rfl g)⟩⟩;refine⟨_,rfl,_,rfl,.inl ⟨hs,?_⟩⟩;rw[decide_eq_true he];exact kk _ (Same.new _ ftp)
   ·
     refine⟨_,rfl,ql (Nat.le_of_ble_eq_true rfl),fun tp ftp=>⟨_,tp,["list","tuple"],_,rfl,qc,by decide,L2.tyN_same (Same.new _ ftp) (tyK hc),_,rfl,Jc (by cases t<;>rfl) ?_⟩⟩;have S1:=Same.new (.tup [.ty "list",.ty "tuple"]) ftp;have hb1:=S1 _ _ hb;have hc1:=S1 _ _ hc;refine⟨_,rfl,_,_,_,rfl,(by decide),tyK hc1,_,rfl,_,_,_,rfl,(by decide),tyK hb1,.inl ⟨rfl,_,rfl,qeT (fun g=>absurd rfl g) (fun _=>?_)⟩⟩;refine⟨_,rfl,_,_,_,rfl,(by decide),tyK hc1,_,rfl,_,_,_,rfl,(by decide),tyK hb1,.inl ⟨rfl,_,rfl,qeT (fun g=>absurd rfl g) (fun _=>?_)⟩⟩;refine⟨_,rfl,_,_,rfl,qlQ hb1,_,rfl,_,_,rfl,qlQ hc1,.inl ⟨rfl,_,rfl,Qg (fun _=>?_) (fun g=>absurd (by rw[hlen]) g)⟩⟩;generalize upd H tp (.tup [.ty "list",.ty "tuple"])=H1 at S1 hb1 hc1 ⊢;refine⟨_,rfl,_,rfl,t,b,c,rfl,⟨_,SqK.of hb1⟩,⟨_,SqK.of hc1⟩,fun D fD=>?_⟩;refine qez (K:=K) (t:=t) (a:=b) (b:=c) (xs:=xs) (ys:=ys) (D:=D) (fun i σ H2=>∃ (s0 s1:Option V) (bs:List Bool),σ=[s0,s1]∧Same H1 H2∧H2 D=some (.lst (bs.map V.bl))∧bs.all id=true∧bs.length=i) hlen ⟨none,none,[],rfl,Same.new _ fD,qc,rfl,rfl⟩ (fun i σ H2 _ ⟨_,_,_,_,S,_⟩=>⟨SqK.of (S _ _ hb1),SqK.of (S _ _ hc1)⟩) ?_ ?_
     · rintro i u v σ H2 p hu' hv' ⟨s0,s1,bs,rfl,S,hD,ha,hl⟩ hn;have S3:Same H1 (upd H2 p (.tup [u,v])):=S.then _ hn
       have suv:=SW.same S3 (SW.same S1 (hk i u v hu' hv'));refine⟨p,[u,v],rfl,SqT.of qc,rfl,_,_,rfl,_,_,rfl,rfl,?_⟩;refine⟨_,rfl,_,rfl,u,v,rfl,suv,fun H4 S4=>?_⟩;have hD4:=S4 _ _ (Same.new (.tup [u,v]) hn _ _ hD);refine⟨_,hD4,?_,_,_,bs++[true],rfl,(S3.trans S4).put fD _,by rw[qc,List.map_append];rfl,by rw[List.all_append,ha];rfl,by rw[List.length_append,hl];rfl⟩;rw[List.length_map,hl];exact qw (by have:=(List.getElem?_eq_some_iff.mp hu').1;omega)
     · rintro σ H2 ⟨s0,s1,bs,rfl,S,hD,ha,hl⟩;refine⟨D,bs,rfl,SqL.of hD,?_⟩;rw[ha];exact kk _ (S1.trans S)
theorem jI {a:Ad} (T:Txt K mg a):∀ n,FnOk P w K mg base CX0 n a.f_d a.fd_d ["_law_found","_law_due"] (qiR n)
 | 0=>⟨fun _ _ _ _ h=>h.elim,fun _ _ _ _ _ _ _ _ _ _ _ _ _ h=>h.elim⟩
 | n+1=>qfE T n (jI T n)
theorem qem {a:Ad} (T:Txt K mg a):FnOk P w K mg base CX0 4 a.f_d a.fd_d ["_law_found","_law_due"] qbL:=by
 have F4:=jI (P:=P) (w:=w) (base:=base) T 4;have F3:=(jI (P:=P) (w:=w) (base:=base) T 3).mono (show 3≤4 by decide);have F2:=(jI (P:=P) (w:=w) (base:=base) T 2).mono (show 2≤4 by decide);have F1:=(jI (P:=P) (w:=w) (base:=base) T 1).mono (show 1≤4 by decide);exact⟨fun vs H Q E h=>h.elim (F4.len vs H Q E) fun h=>h.elim (F3.len vs H Q E) fun h=>h.elim (F2.len vs H Q E) (F1.len vs H Q E),fun A outer s H args us vs Q E r e b v h=>h.elim (F4.run A outer s H args us vs Q E r e b v) fun h=>h.elim (F3.run A outer s H args us vs Q E r e b v) fun h=>h.elim (F2.run A outer s H args us vs Q E r e b v) (F1.run A outer s H args us vs Q E r e b v)⟩
end
abbrev B3:=Nat×Nat×Int
abbrev tr (b:B3):List V:=[.int b.1,.int b.2.1,.int b.2.2]
abbrev Es:=List (Str×Addr×Kd)
abbrev ev (es:Es):List (Str×V):=es.map fun e=>(e.1,V.ref e.2.1)
theorem jp (es:Es):(ev es).map (·.1)=es.map (·.1):=by rw[List.map_map];rfl
def nmB (ks:List Str) (b:B3):Str×Str×Int:=(ks.getD b.1 "",ks.getD b.2.1 "",b.2.2)
structure FrC (a:Ad) (H:Hp) (x:Addr) (rs:List (List (Int×Int))) (B:List B3):Prop where
 ex:∃ (zss:List (List V)) (bs:List V),Fr a H x zss bs∧zss.length=rs.length∧(∀ (i:Nat) zs r,zss[i]?=some zs->rs[i]?=some r->TupL pr H zs r)∧TupL tr H bs B
 n:rs.length≤60
 m:∀ r∈rs,r.length≤1000
 b:B.length≤101
theorem FrC.same {a:Ad}{H H':Hp}{x:Addr}{rs:List (List (Int×Int))}{B:List B3} (h:FrC a H x rs B) (s:Same H H'):FrC a H' x rs B :=
 ⟨let ⟨zss,bs,h1,h2,h3,h4⟩:=h.ex;⟨zss,bs,h1.same s,h2,fun i zs r e1 e2=>(h3 i zs r e1 e2).same s,h4.same s⟩,h.n,h.m,h.b⟩
def EsOk (a:Ad) (H:Hp) (ts:Pls) (es:Es):Prop:=∀ e∈es,EnD a H e.2.1 e.1 e.2.2∧∀ s∈e.2.2.pls,s∈ts.map (·.1)
theorem EsOk.same {a:Ad}{H H':Hp}{ts:Pls}{es:Es} (h:EsOk a H ts es) (s:Same H H'):EsOk a H' ts es:=fun e m=>⟨(h e m).1.same s,(h e m).2⟩
def Spd (ts:Pls) (es:Es) (rs:List (List (Int×Int))):Prop:=rs.length=es.length∧∀ (i:Nat) r e,rs[i]?=some r->es[i]?=some e->zi r∧∀ n,Mem r n↔MK ts e.2.2 n
inductive jw (a:Ad) (vs:List V) (H:Hp) (Q:VK):Prop
 | mk (x td ed bl:Addr) (ts:Pls) (es:Es) (zs:List V) (B:List B3) (h1:vs=[.ref x]) (h2:Lo a H x td ed bl (tv ts) (ev es) zs) (h3:Tq a H td ts) (h4:EsOk a H ts es) (h5:es.length≤60) (h6:TupL prB H zs (B.map (nmB (es.map (·.1))))) (h7:(∀ b∈B,b.1 < es.length∧b.2.1 < es.length)) (h8:B.length≤101) (h9:∀ (f:Addr) (rs:List (List (Int×Int))) (G H':Hp),H f=none->Same H H'->Same G H'->(∀ b o,H b=some o->(∀ xs,o≠.tup xs)->G b=none)->FrC a G f rs B->Spd ts es rs->Q (.ref f) H'):jw a vs H Q
def JX (a:Ad):Sp:=fun vs H Q _=>jw a vs H Q
def nw (H H':Hp):Hp:=fun b=>match H b with
 | none=>H' b
 | some (.tup _)=>H' b
 | some _=>none
theorem qcV {H H':Hp}{b:Addr} (h:H b=none):nw H H' b=H' b:=by unfold nw;rw[h]
theorem qjg (H H':Hp):Same (nw H H') H':=fun b o e=>by
 unfold nw at e;split at e
 · exact e
 · exact e
 · cases e
theorem qkr {H H':Hp}{b:Addr}{o:HO} (h:H b=some o) (n:∀ xs,o≠.tup xs):nw H H' b=none:=by
 unfold nw;rw[h];split
 · next e=>cases e
 · next e=>cases e;exact absurd rfl (n _)
 · rfl
theorem qkp {H H':Hp} (s:Same H H') {b:Addr}{xs:List V} (h:H' b=some (.tup xs)):nw H H' b=some (.tup xs):=by
 cases e:H b with
 | none=>rw[qcV e];exact h
 | some o =>
   have:=s _ _ e
   rw[h]at this;cases this;unfold nw;rw[e];exact h
theorem qkq {β:Type}{f:β->List V}{H H':Hp} (s:Same H H') {zs:List V}{xs:List β} (h:TupL f H' zs xs):TupL f (nw H H') zs xs:=⟨h.1,fun j z y e1 e2=>by
 obtain⟨t,et,ht⟩:=h.2 j z y e1 e2
 exact⟨t,et,qkp s ht⟩⟩
theorem qlg {H H':Hp}{k:Addr}{qs:List Addr}{zss:List (List V)} (h:LL H' k qs zss) (n:H k=none) (m:∀ q∈qs,H q=none):LL (nw H H') k qs zss:=⟨by rw[qcV n];exact h.at_,h.len,fun i q zs e1 e2=>by rw[qcV (m q (List.mem_of_getElem? e1))];exact h.each i q zs e1 e2,h.out⟩
theorem qgo (x y:Str):eqV (.str x) (.str y)=decide (x=y):=by
 by_cases e:x=y
 · subst e;simp[eqV]
 · rw[decide_eq_false e];simpa[eqV] using e
theorem qji {l:List Str} (h:l.Nodup) {i j:Nat}{x y:Str} (hi:l[i]?=some x) (hj:l[j]?=some y) (n:i≠j):x≠y:=fun e=>by
 obtain⟨h1,e1⟩:=List.getElem?_eq_some_iff.mp hi;obtain⟨h2,e2⟩:=List.getElem?_eq_some_iff.mp hj;exact n ((List.getElem_inj h).mp (e1.trans (e.trans e2.symm)))
theorem qkA {H:Hp}{Q:VK}{n:Addr}{ks:List Str}{j:Nat} (hn:H n=some (.lst (ks.map V.str))) (nd:ks.Nodup) (lt:j < ks.length) (q:Q (.int (j:Int)) H):qbW (.ref n) [.str (ks.getD j "")] H Q:=by
 have ej:ks[j]?=some (ks.getD j ""):=by rw[List.getD_eq_getElem?_getD,List.getElem?_eq_getElem lt];rfl
 refine⟨n,_,_,j,rfl,rfl,hn,rfl,qc8 _,⟨_,by rw[List.getElem?_map,ej];rfl,by rw[qgo];exact decide_eq_true rfl⟩,fun i w il hw=>?_,q⟩;obtain⟨k,hk,rfl⟩:=zh hw;rw[qgo];exact decide_eq_false (qji nd hk ej (by omega))
section
variable {P:Program}{w:World}{K:Frag}{mg:Str->Option Value}{base:Heap}
theorem qdz {a:Ad} (T:Txt K mg a):FnOk P w K mg base CX0 9 a.f_i a.fd_i ["log"] (JX a):=by
 have G_ad:=qcS (P:=P) (w:=w) (base:=base) T;have G_0:=qb4 (P:=P) (w:=w) (base:=base) T;have G_af:=qcU (P:=P) (w:=w) (base:=base) T;have G_ae:=qcR (P:=P) (w:=w) (base:=base) T;refine T.d_i.F.ok sc_frame_of (fun vs H Q E h=>?_) (fun cdv A outer s H vs Q E hr h=>?_)
 · obtain⟨x,td,ed,bl,ts,es,zs,B,rfl,hL,tq,eo,l60,tb,bok,b100,kk⟩:=h;rfl
 · obtain⟨x,td,ed,bl,ts,es,zs,B,rfl,hL,tq,eo,l60,tb,bok,b100,kk⟩:=h;have h_ad:Room (1) _:=hr.mono (by decide);have h_0:Room (2+1) _:=hr.mono (by decide);have h_af:Room (1) _:=hr.mono (by decide);have h_ae:Room (8) _:=hr.mono (by decide)
   refine⟨_,(qd (qz (i:=1) sc_frame_of.nd rfl (Or.inr rfl) (zr (pv 0) T.cl_Log T.d_ad.mt G_ad h_ad T.d_ad.b .nil qm))
     (qd (qau (i:=2) sc_frame_of.nd rfl (Or.inl rfl) rfl (CompOk.def ["later","earlier","minutes","names"] [none,none,none,some 1]) (qX (zr (pv 0) T.cl_Log T.d_af.mt G_af h_af T.d_af.b .nil qm)) (fun _ _ _ _ _=>(show PG _ _ (qhC K 3 _) from (zK rfl (qr (qq (i:=0) (show List.Nodup (["later","earlier","minutes","names"]:List Str) by decide +kernel) rfl (Or.inl rfl)) (qr (qq (i:=1) (show List.Nodup (["later","earlier","minutes","names"]:List Str) by decide +kernel) rfl (Or.inl rfl)) (qr (qq (i:=2) (show List.Nodup (["later","earlier","minutes","names"]:List Str) by decide +kernel) rfl (Or.inl rfl)) zg)))))) (fun _ _ _ _ _=>Qa) (fun _ _ _ _ _=>(qQ (qa (show PE _ _ (tBM K "list" qbW _ _) from Zk PySem.F.plainAttrs_list PySem.F.slot_list_index PySem.F.type_list_index qcW (pv 3) (qa (pv 0) qb)) (qa (show PE _ _ (tBM K "list" qbW _ _) from Zk PySem.F.plainAttrs_list PySem.F.slot_list_index PySem.F.type_list_index qcW (pv 3) (qa (pv 1) qb)) (qa (pv 2) qb))))))
     (qf (qE (zL T.M_Frame G_0 h_0 rfl T.g_Frame T.d_0.b .nil qm (qa (Qb rfl (CompOk.def ["name","log"] [none,some 0]) (qX (pv 1)) (fun _ _ _ _ _=>(qq (i:=0) (show List.Nodup (["name","log"]:List Str) by decide +kernel) rfl (Or.inl rfl))) (fun _ _ _ _ _=>Qa) (fun _ _ _ _ _=>(qL (pv 1) T.cl_Log T.d_ae.mt G_ae h_ae T.d_ae.b .nil qm (qa (pv 0) qb)))) (qa (pv 2) qb))))))),?_⟩
   try dsimp only [zw,Cx.nox]
   obtain⟨dx,hx⟩:=hL.hx;have nd:(es.map (·.1)).Nodup:=by rw[← jp];exact hL.nde
   have lk:(es.map (·.1)).length=es.length:=List.length_map _;refine⟨_,rfl,x,dx,_,rfl,hx,rfl,x,td,ed,bl,tv ts,ev es,zs,rfl,hL,fun n fn=>?_⟩;rw[jp];generalize hG:upd H n _=A1;obtain⟨s1,e1⟩:=qt hG fn;clear hG;(try unfold qF);(try dsimp only);refine⟨_,rfl,x,dx,_,rfl,s1 _ _ hx,rfl,x,td,ed,bl,tv ts,ev es,zs,rfl,hL.sm s1,fun b fb=>?_⟩;generalize hG:upd A1 b _=A2;obtain⟨s2,e2⟩:=qt hG fb;clear hG;have S2:=s1.trans s2;have tb2:=tb.same S2;refine⟨b,rfl,⟨_,SqL.of e2⟩,fun D fD=>?_⟩;refine zD (K:=K) (a:=b) (xs:=zs) (D:=D) (fun i σ H'=>∃ (c0 c1 c2:Option V) (ws:List V),σ=[c0,c1,c2,some (.ref n)]∧Same A2 H'∧H' D=some (.lst ws)∧TupL tr H' ws (B.take i)) ⟨none,none,none,[],rfl,Same.new _ fD,qc,.nil⟩ (fun i σ H' _ ⟨_,_,_,_,_,S,_⟩=>SqL.of (S _ _ e2)) ?_ ?_
   · rintro i z σ H' hz ⟨c0,c1,c2,ws,rfl,S,hD,tw⟩;obtain⟨b3,t,hb,rfl,ht⟩:=tb2.of hz;rw[List.getElem?_map]at hb;obtain⟨bb,hbb,rfl⟩:=Option.map_eq_some_iff.mp hb;obtain⟨o1,o2⟩:=bok bb (List.mem_of_getElem? hbb);have il:=(List.getElem?_eq_some_iff.mp hbb).1;have hn:=(s2.trans S) _ _ e1;have lw:ws.length≤101:=by have:=tw.1;rw[List.length_take]at this;omega
     refine⟨t,_,rfl,SqT.of (S _ _ ht),rfl,_,_,rfl,_,_,rfl,_,_,rfl,rfl,?_⟩;refine⟨_,rfl,.inl ⟨rfl,_,SqL.of hn⟩,_,rfl,qkA hn nd (by omega) ⟨_,rfl,.inl ⟨rfl,_,SqL.of hn⟩,_,rfl,qkA hn nd (by omega) ⟨_,rfl,ql (Nat.le_of_ble_eq_true rfl),fun tt ftt=>?_⟩⟩⟩;have St:=Same.new (.tup (tr bb)) ftt;refine⟨ws,St _ _ hD,qw (by omega),_,_,_,ws++[.ref tt],rfl,(S.trans St).put fD _,qc,?_⟩;rw[zM hbb];exact((tw.same St).snoc (p:=bb) qc).put (St _ _ hD)
   rintro σ A3 ⟨c0,c1,c2,ws,rfl,s3,hD,tw⟩;have lB:zs.length=B.length:=by rw[tb.1,List.length_map]
   rw[lB,List.take_length]at tw;have S3:=S2.trans s3;have hn3:=(s2.trans s3) _ _ e1;have dD3:H D=none:=S2.none fD;(try unfold qF);(try dsimp only);refine⟨_,rfl,n,rfl,⟨_,SqL.of hn3⟩,fun D2 fD2=>?_⟩;refine zD (K:=K) (a:=n) (xs:=(es.map (·.1)).map V.str) (D:=D2) (fun i σ H'=>∃ (c0:Option V) (qs:List Addr) (zss:List (List V)) (rs:List (List (Int×Int))),σ=[c0,some (.ref x)]∧Same A3 H'∧LL H' D2 qs zss∧qs.length=i∧rs.length=i∧zss.length=i∧(∀ (j:Nat) zs r,zss[j]?=some zs->rs[j]?=some r->TupL pr H' zs r)∧∀ (j:Nat) r e,rs[j]?=some r->es[j]?=some e->(zi r∧∀ n,Mem r n↔MK ts e.2.2 n)∧r.length≤1000) ⟨none,[],[],[],rfl,Same.new _ fD2,.nil qc,rfl,rfl,rfl,(fun j zs r e=>nomatch e),(fun j r e h=>nomatch h)⟩ (fun i σ H' _ ⟨_,_,_,_,_,S,_⟩=>SqL.of (S _ _ hn3)) ?_ ?_
   · rintro i z σ H' hz ⟨c0,qs,zss,rs,rfl,S,hLL,lq,lr,lz,tz,ok⟩;obtain⟨nm,hnm,rfl⟩:=zh hz;rw[List.getElem?_map]at hnm;obtain⟨e,he,rfl⟩:=Option.map_eq_some_iff.mp hnm;have me:=List.mem_of_getElem? he;have il:=(List.getElem?_eq_some_iff.mp he).1;have SS:=S3.trans S;obtain⟨en,hp⟩:=eo e me;refine⟨_,rfl,x,dx,_,rfl,SS _ _ hx,rfl,_,rfl,x,td,ed,bl,ts,ev es,zs,e.1,e.2.1,e.2.2,rfl,hL.sm SS,tq.sm SS,List.mem_map.mpr ⟨e,me,rfl⟩,en.same SS,hp,fun d r H2 fd S2' ⟨zd,hd,td'⟩ can lr' mem=>?_⟩;have dne:d≠D2:=fun z=>by rw[z,hLL.at_]at fd;cases fd
     refine⟨_,S2' _ _ hLL.at_,qw (by rw[List.length_map];omega),_,qs++[d],zss++[zd],rs++[r],rfl,(S.trans S2').put fD2 _,(hLL.same S2').snoc hd dne,by rw[List.length_append,lq];rfl,by rw[List.length_append,lr];rfl,by rw[List.length_append,lz];rfl,fun j zs' r' h1 h2=>?_,fun j r' e' h1 h2=>?_⟩
     · by_cases lt:j < zss.length
       · rw[List.getElem?_append_left lt]at h1;rw[List.getElem?_append_left (by omega)]at h2;exact((tz j zs' r' h1 h2).same S2').put (S2' _ _ hLL.at_)
       · have ej:j=zss.length:=by
           have:=(List.getElem?_eq_some_iff.mp h1).1
           rw[List.length_append]at this;simp only[List.length_cons,List.length_nil]at this;omega
         subst ej;rw[List.getElem?_append_right (Nat.le_refl _),Nat.sub_self]at h1;rw[List.getElem?_append_right (by omega),show zss.length - rs.length=0 by omega]at h2;cases h1;cases h2;exact td'.put (S2' _ _ hLL.at_)
     · by_cases lt:j < rs.length
       · rw[List.getElem?_append_left lt]at h1;exact ok j r' e' h1 h2
       · have ej:j=rs.length:=by
           have:=(List.getElem?_eq_some_iff.mp h1).1
           rw[List.length_append]at this;simp only[List.length_cons,List.length_nil]at this;omega
         subst ej;rw[List.getElem?_append_right (Nat.le_refl _),Nat.sub_self]at h1;cases h1;rw[lr,he]at h2;cases h2;exact⟨⟨can,mem⟩,lr'⟩
   rintro σ A4 ⟨c0,qs,zss,rs,rfl,s4,hLL,lq,lr,lz,tz,ok⟩;rw[List.length_map,List.length_map]at lq lr lz;refine⟨_,rfl,fun f df ff fdf nef=>?_⟩;have su:=up2 (o:=.own f) (o':=.ins a.c_Frame df []) ff fdf;refine⟨f,df,D2,D,qs,zss,ws,rfl,qc,hLL.same su,by omega,su _ _ (s4 _ _ hD),fun k kb rs' H' fk frs fkb BF FA LLk hkb=>⟨rfl,?_⟩⟩;have SF:=qW ff fdf BF;have SZ:=(S3.trans s4).trans SF;have ff0:=(S3.trans s4).none ff;have old:∀ b,(upd (upd A4 df (.own f)) f (.ins a.c_Frame df [])) b=none->H b=none:=fun b e=>(S3.trans s4).none (Same.none su e)
   have FA':FrAt a (nw H H') f k kb:=by
     obtain⟨dz,hz⟩:=FA;exact⟨dz,by rw[qcV ff0];exact hz⟩
   refine kk f rs (nw H H') H' ff0 SZ (qjg _ _) (fun b o h n=>qkr h n) ⟨⟨zss,ws,⟨k,kb,rs',FA',qlg LLk (old _ fk) (fun q m=>old _ (frs q m)),by rw[qcV (old _ fkb)];exact hkb⟩,by omega,fun i zs r h1 h2=>qkq SZ ((tz i zs r h1 h2).same SF),qkq SZ ((tw.same s4).same SF)⟩,by omega,fun r m=>?_,b100⟩ ⟨lr,fun i r e h1 h2=>(ok i r e h1 h2).1⟩;obtain⟨j,hj⟩:=List.getElem?_of_mem m;have jl:=(List.getElem?_eq_some_iff.mp hj).1;exact(ok j r _ hj (List.getElem?_eq_getElem (by omega))).2
end
inductive J6 (vs:List V) (H:Hp) (Q:VK):Prop
 | mk (p:Addr) (w:Bool) (h1:vs=[.ref p,.bl w]) (h2:PoolAt H p) (h3:∀ (d:Int) (H':Hp),-2880≤d->d≤2880->But p H H'->PoolAt H' p->Q (.int d) H'):J6 vs H Q
def qcm:Sp:=fun vs H Q _=>J6 vs H Q
inductive qbd (vs:List V) (H:Hp) (Q:VK):Prop
 | mk (p:Addr) (b:Int) (h1:vs=[.ref p,.int b]) (h2:PoolAt H p) (h3:0≤b) (h4:b≤999999000) (h5:∀ (q:Addr) (rows:List (Int×Int)) (H':Hp),H q=none->But p H H'->PoolAt H' p->Rs H' q rows->Good rows->Q (.ref q) H'):qbd vs H Q
def qdY:Sp:=fun vs H Q _=>qbd vs H Q
inductive J5 (vs:List V) (H:Hp) (Q:VK):Prop
 | mk (q:Addr) (rows:List (Int×Int)) (m:Int) (h1:vs=[.ref q,.int m]) (h2:Rs H q rows) (h3:Good rows) (h4:∀ v,(v=0∨(m - 2880≤v∧v≤m+2880))->Q (.int v) H):J5 vs H Q
def qcl:Sp:=fun vs H Q _=>J5 vs H Q
def bwn (rows:List (Int×Int)) (lo hi:Int):List (Int×Int):=(shw rows lo hi).filter okw
inductive jD (vs:List V) (H:Hp) (Q:VK):Prop
 | mk (q:Addr) (rows:List (Int×Int)) (lo hi:Int) (h1:vs=[.ref q,.int lo,.int hi]) (h2:Rs H q rows) (h3:Good rows) (h4:∀ (d:Addr) (H':Hp),H d=none->Same H H'->Rs H' d (bwn rows lo hi)->Q (.ref d) H'):jD vs H Q
def jh:Sp:=fun vs H Q _=>jD vs H Q
def qiz (lo hi:Int) (w:Int×Int):Bool:=decide (w.1≤hi) && decide (lo≤w.2)
def qhJ (lo hi:Int) (w:Int×Int):Int×Int:=(if lo > w.1 then lo else w.1,if hi < w.2 then hi else w.2)
def qe1 (W:List (Int×Int)) (lo hi:Int):List (Int×Int):=(W.filter (qiz lo hi)).map (qhJ lo hi)
inductive qcq (vs:List V) (H:Hp) (Q:VK):Prop
 | mk (q:Addr) (W:List (Int×Int)) (lo hi:Int) (h1:vs=[.ref q,.int lo,.int hi]) (h2:Rs H q W) (h3:W.length≤100) (h4:∀ (d:Addr) (H':Hp),H d=none->Same H H'->Rs H' d (qe1 W lo hi)->Q (.ref d) H'):qcq vs H Q
def qfv:Sp:=fun vs H Q _=>qcq vs H Q
theorem qdJ {rows:List (Int×Int)}{i:Nat} (h:i < rows.length):(qgq rows)[i]?=some (if i+1 < rows.length then (rows.getD (i+1) (0,0)).1 - 1 else 1000000000):=by
 unfold qgq;by_cases c:i+1 < rows.length
 · rw[if_pos c,List.getElem?_append_left (by rw[List.length_map,List.length_drop];omega),List.getElem?_map,List.getElem?_drop,Nat.add_comm 1 i,List.getElem?_eq_getElem c,List.getD_eq_getElem?_getD,List.getElem?_eq_getElem c];rfl
 · have e:i=((rows.drop 1).map fun r=>r.1 - 1).length:=by rw[List.length_map,List.length_drop];omega
   rw[if_neg c,List.getElem?_append_right (by omega),← e,Nat.sub_self];rfl
theorem qfi {β:Type}{f:β->List V}{H:Hp}{zs:List V}{xs ys:List β} (h:TupL f H zs xs) (e:xs=ys):TupL f H zs ys:=e▸h
theorem JT {α:Type} (p:α->Bool) (l:List α) (x:α):(l++[x]).filter p=l.filter p++(if p x=true then [x] else []):=by
 rw[List.filter_append];congr 1;rw[List.filter_cons];split<;>rfl
section
variable {P:Program}{w:World}{K:Frag}{mg:Str->Option Value}{base:Heap}
theorem qfW {a:Ad} (T:Txt K mg a):FnOk P w K mg base CX0 2 a.f_E a.fd_E ["_law_pool_here","_law_wide"] qcm:=by
 have G_a:=ZP (P:=P) (w:=w) (base:=base) T;refine T.d_E.F.ok qfD (fun vs H Q E h=>?_) (fun cdv A outer s H vs Q E hr h=>?_)
 · obtain⟨p,w,rfl,hp,kk⟩:=h;rfl
 · obtain⟨p,w,rfl,hp,kk⟩:=h;have h_a:Room (1) _:=hr.mono (by decide)
   refine⟨_,(qd (qS (qej (pv 1) (fun _=>rfl))
       (qf (qE (qB zu (qj G_a h_a rfl T.d_a.m T.d_a.k T.d_a.b .nil qm (qa (pv 0) (qa qe qb))) qe)))
       qA)
     (qf (qE (qB zu (qj G_a h_a rfl T.d_a.m T.d_a.k T.d_a.b .nil qm (qa (pv 0) (qa qe qb))) qe)))),?_⟩
   try dsimp only [zw,Cx.nox]
   refine⟨_,rfl,w,rfl,qkX (fun _=>?_) (fun _=>?_)⟩
   · refine⟨_,rfl,p,_,rfl,hp,by decide,by decide,fun d G1 d0 d1 bG1 pG1=>⟨_,_,rfl,rfl,kk _ G1 (by omega) (by have:d < 5761:=d1;omega) bG1 pG1⟩⟩
   · refine⟨_,rfl,p,_,rfl,hp,by decide,by decide,fun d G1 d0 d1 bG1 pG1=>⟨_,_,rfl,rfl,kk _ G1 (by omega) (by have:d < 61:=d1;omega) bG1 pG1⟩⟩
theorem qhh {a:Ad} (T:Txt K mg a):FnOk P w K mg base CX0 3 a.f_R a.fd_R ["_law_pool_here","_law_base"] qdY:=by
 have G_a:=ZP (P:=P) (w:=w) (base:=base) T;have G_E:=qfW (P:=P) (w:=w) (base:=base) T;refine T.d_R.F.ok sc_Lrows (fun vs H Q E h=>?_) (fun cdv A outer s H vs Q E hr h=>?_)
 · obtain⟨p,b,rfl,hp,b0,b9,kk⟩:=h;rfl
 · obtain⟨p,b,rfl,hp,b0,b9,kk⟩:=h;have hU:=hr.units;have h_a:Room (1) _:=hr.mono (by decide);have h_E:Room (2) _:=hr.mono (by decide)
   refine⟨_,(@qd _ _ _ _ _ (by exact(qz (i:=2) sc_Lrows.nd rfl (Or.inl rfl) (Qo (uEq hU) (qj G_a h_a rfl T.d_a.m T.d_a.k T.d_a.b .nil qm (qa (pv 0) (qa qe qb))) qe (qC _))))
     (by exact(@qd _ _ _ _ _ (by exact(@qz _ _ 3 _ _ _ _ (by exact sc_Lrows.nd) (by rfl) (by exact(Or.inl rfl)) (by exact(@qT _ _ _ _ (by exact(@qa _ _ _ _ _ (by exact(@qQ _ _ _ _ _ (by exact(@qa _ _ _ _ _ (by exact qe) (by exact(@qa _ _ _ _ _ (by exact(qj G_E h_E rfl T.d_E.m T.d_E.k T.d_E.b .nil qm (qa (pv 0) (qa (pv 2) qb)))) (by exact(@qb _)) (by rfl))) (by rfl))))) (by exact(@qb _)) (by rfl))))) (by rfl) (by exact .inl rfl)))
     (by exact(@qd _ _ _ _ _ (by exact(qz (i:=4) sc_Lrows.nd rfl (Or.inl rfl) (qB Qx (qB Qx (pv 1) qe) (qj G_a h_a rfl T.d_a.m T.d_a.k T.d_a.b .nil qm (qa (pv 0) (qa qe qb))))))
     (by exact(@qd _ _ _ _ _ (by exact(@zP _ _ _ _ _ _ _ _ (by exact PassesOwn.never) (by rfl) (by exact(ZE rfl T.n_range (qa (@qI _ _ _ _ _ _ (rIx K) (by exact qx) (by exact(@qT _ _ _ _ (by exact(@qa _ _ _ _ _ (by exact qe) (by exact(@qa _ _ _ _ _ (by exact qe) (by exact(@qa _ _ _ _ _ (by exact qe) (by exact(@qa _ _ _ _ _ (by exact qe) (by exact(@qa _ _ _ _ _ (by exact qe) (by exact(@qa _ _ _ _ _ (by exact qe) (by exact(@qa _ _ _ _ _ (by exact qe) (by exact(@qa _ _ _ _ _ (by exact qe) (by exact(@qb _)) (by rfl))) (by rfl))) (by rfl))) (by rfl))) (by rfl))) (by rfl))) (by rfl))) (by rfl))))) (by exact(qj G_a h_a rfl T.d_a.m T.d_a.k T.d_a.b .nil qm (qa (pv 0) (qa qe qb)))) (by exact fun _ _=>rfl)) qb))) (by exact(qq (i:=5) (sc_Lrows.nd) rfl (Or.inl rfl)))
       (by exact(@qd _ _ _ _ _ (by exact(qD (Zk PySem.F.plainAttrs_list PySem.F.slot_list_append PySem.F.type_list_append zc (pv 3) (qa (qQ (qa (pv 4) (qa (qj G_E h_E rfl T.d_E.m T.d_E.k T.d_E.b .nil qm (qa (pv 0) (qa (pv 2) qb))) qb))) qb))))
       (by exact(qf (qz (i:=4) sc_Lrows.nd rfl (Or.inl rfl) (qB Qx (qB Qx (pv 4) qe) (qj G_a h_a rfl T.d_a.m T.d_a.k T.d_a.b .nil qm (qa (pv 0) (qa qe qb))))))))) (by intro _;rfl)))
     (by exact(qf (qE (pv 3))))))))))),?_⟩
   try dsimp only [zw,Cx.nox]
   have p0:PoolAt H p:=hp;have t0:But p H H:=But.refl p H;refine⟨_,rfl,p,_,rfl,p0,by decide,by decide,fun wd G1 wd0 wd1 u1 p1=>?_⟩;have t1:=t0.trans u1;refine .inl ⟨rfl,?_⟩;generalize decide (V.int wd=V.int 0)=wb;(try unfold qF);(try dsimp only);refine⟨_,rfl,_,rfl,p,wb,rfl,p1,fun d G2 d0 d1 u2 p2=>?_⟩;have t2:=t1.trans u2;refine⟨ql (Nat.le_of_ble_eq_true rfl),fun t0 ft0=>?_⟩;have n_t0:t0≠p:=p2.ne ft0;generalize hG:upd G2 t0 _=G3;obtain⟨u3,e_t0⟩:=qt hG ft0;clear hG;have e_t0:G3 t0=some (.tup (pr (0,d))):=e_t0;have p3:=p2.same u3;have t3:=t2.same u3;refine⟨ql (Nat.le_of_ble_eq_true rfl),fun q fq=>?_⟩;have n_q:q≠p:=p3.ne fq;generalize hG:upd G3 q _=G4;obtain⟨u4,e_q⟩:=qt hG fq;clear hG;have p4:=p3.same u4;have t4:=t3.same u4;(try unfold qF);(try dsimp only);refine⟨_,rfl,.inl ⟨_,_,rfl,rfl,_,rfl,p,_,rfl,p4,by decide,by decide,fun m4 G5 m40 m41 u5 p5=>?_⟩⟩;have t5:=t4.trans u5;refine .inl ⟨_,_,rfl,rfl,?_⟩;(try unfold qF);(try dsimp only);have m41:m4 < 40:=m41;refine⟨ql (Nat.le_of_ble_eq_true rfl),fun l8 fl8=>?_⟩;have n_l8:l8≠p:=p5.ne fl8;generalize hG:upd G5 l8 _=G6;obtain⟨u6,e_l8⟩:=qt hG fl8;clear hG;have p6:=p5.same u6;have t6:=t5.same u6;refine⟨_,rfl,p,_,rfl,p6,by decide,by decide,fun i8 G7 i80 i81 u7 p7=>?_⟩;have t7:=t6.trans u7;refine qeh 0 20 (u7 _ _ e_l8 n_l8) i80 i81 rfl (fun n n0 n1=>?_);have R0:Rs G7 q [(0,d)]:=⟨_,(u7 _ _ (u6 _ _ (u5 _ _ e_q n_q)) n_q),TupL.snoc (f:=pr) (p:=(0,d)) TupL.nil (u7 _ _ (u6 _ _ (u5 _ _ (u4 _ _ e_t0) n_t0)) n_t0)⟩
   have fqH:H q=none:=t3.none fq n_q;refine⟨n,rfl,by omega,by omega,ZH (lo:=0) (D:={ nx:=qfn (qe7 3) { nx:=fun _ H'=>Q .non H',rt:=Q },rt:=Q }) (fun i σ H'=>∃ (s5:Option V) (m:Int) (rows:List (Int×Int)),σ=[some (.ref p),some (.int b),some (.bl wb),some (.ref q),some (.int m),s5]∧But p H H'∧PoolAt H' p∧Rs H' q rows∧rows.length=i+1∧(∃ d,rows.head?=some (0,d))∧Asc rows∧(∀ r∈rows,0≤r.1∧r.1 < m∧-2880≤r.2∧r.2≤2880)∧b < m∧m≤b+41+30 * (i:Int)) ⟨_,_,[(0,d)],rfl,t7,p7,R0,rfl,⟨d,rfl⟩,List.pairwise_singleton _ _,fun r m=>?_,by omega,by omega⟩ ?_ ?_⟩
   · rw[List.mem_singleton.mp m];exact⟨Int.le_refl _,(by show (0:Int) < _;omega),d0,d1⟩
   · rintro i σ H1 hi ⟨s5,m,rows,rfl,B,pB,⟨zs,hq,tz⟩,lr,hh,asc,ok,m0,m1⟩;have hi2:i < n.toNat:=hi;have lz:zs.length=i+1:=by rw[tz.1];exact lr
     refine⟨_,rfl,.inl ⟨rfl,_,SqL.of hq⟩,_,rfl,_,rfl,_,rfl,p,wb,rfl,pB,fun d2 A1 d20 d21 b1 p1=>?_⟩;have hq1:=b1 _ _ hq n_q;have tz1:=qcc tz pB b1;refine⟨ql (Nat.le_of_ble_eq_true rfl),fun t ft=>?_⟩;have n_t:t≠p:=p1.ne ft;generalize hG:upd A1 t _=A2;obtain⟨s2,e2⟩:=qt hG ft;clear hG;have e2:A2 t=some (.tup (pr (m,d2))):=e2;refine⟨q,_,_,rfl,rfl,s2 _ _ hq1,qw (by omega),?_⟩;have tz3:TupL pr (upd A2 q (.lst (zs++[.ref t]))) (zs++[.ref t]) (rows++[(m,d2)]):=((tz1.same s2).snoc e2).put (s2 _ _ hq1);have b3:But p H (upd A2 q (.lst (zs++[.ref t]))):=(((B.trans b1).same s2)).putN fqH _;have p3:PoolAt (upd A2 q (.lst (zs++[.ref t]))) p:=(p1.same s2).upd n_q _;have hq3:(upd A2 q (.lst (zs++[.ref t]))) q=some (.lst (zs++[.ref t])):=qc;generalize upd A2 q (.lst (zs++[.ref t]))=A3 at tz3 b3 p3 hq3;(try unfold qF);(try dsimp only);refine⟨_,rfl,.inl ⟨_,_,rfl,rfl,_,rfl,p,_,rfl,p3,by decide,by decide,fun s A4 s0 s1 bA4 pA4=>.inl ⟨_,_,rfl,rfl,?_⟩⟩⟩;have s1':s < 30:=s1;refine⟨_,_,rows++[(m,d2)],rfl,b3.trans bA4,pA4,⟨_,bA4 _ _ hq3 n_q,qcc tz3 p3 bA4⟩,by rw[List.length_append,lr];rfl,?_,?_,fun r mr=>?_,by omega,by omega⟩
     · obtain⟨d',h⟩:=hh;exact⟨d',by rw[List.head?_append,h];rfl⟩
     · refine List.pairwise_append.mpr ⟨asc,List.pairwise_singleton _ _,fun x mx y my=>?_⟩;rw[List.mem_singleton.mp my];exact(ok x mx).2.1
     · rcases List.mem_append.mp mr with mr|mr
       · have:=ok r mr
         exact⟨this.1,by omega,this.2.2.1,this.2.2.2⟩
       · rw[List.mem_singleton.mp mr];exact⟨by show (0:Int)≤m;omega,by show m < _;omega,d20,d21⟩
   · rintro σ H1 ⟨s5,m,rows,rfl,B,pB,R,lr,hh,asc,ok,m0,m1⟩;exact⟨_,rfl,kk q rows H1 fqH B pB R ⟨by omega,hh,asc,fun r mr=>⟨(ok r mr).1,by have:=(ok r mr).2.1;omega,(ok r mr).2.2.1,(ok r mr).2.2.2⟩⟩⟩
theorem qfV {a:Ad} (T:Txt K mg a):FnOk P w K mg base CX0 1 a.f_S a.fd_S ["_law_rows_here","_law_moment"] qcl:=by
 refine T.d_S.F.ok sc_Lshown (fun vs H Q E h=>?_) (fun cdv A outer s H vs Q E hr h=>?_)
 · obtain⟨q,rows,m,rfl,⟨zs,hq,tz⟩,good,kk⟩:=h;rfl
 · obtain⟨q,rows,m,rfl,⟨zs,hq,tz⟩,good,kk⟩:=h;have hU:=hr.units
   refine⟨_,(qd (qz (i:=2) sc_Lshown.nd rfl (Or.inl rfl) qe)
     (qd (zP PassesOwn.never rfl (qX (pv 0)) (zK rfl (qr (qq (i:=3) (sc_Lshown.nd) rfl (Or.inl rfl)) (qr (qq (i:=4) (sc_Lshown.nd) rfl (Or.inl rfl)) zg)))
       (qf (qS (qu JM (pv 3) (pv 1) (qC _))
         (qf (qz (i:=2) sc_Lshown.nd rfl (Or.inl rfl) (qB Qx (pv 1) (pv 4))))
         qA)))
     (qf (qE (pv 2))))),?_⟩
   try dsimp only [zw,Cx.nox]
   refine⟨_,rfl,q,rfl,⟨_,SqL.of hq⟩,zH (K:=K) (a:=q) (xs:=zs) (D:={ nx:=qfn (qe7 2) { nx:=fun _ H'=>Q .non H',rt:=Q },rt:=Q }) (fun j σ H'=>∃ (v:Int) (s3 s4:Option V),σ=[some (.ref q),some (.int m),some (.int v),s3,s4]∧H'=H∧(v=0∨(m - 2880≤v∧v≤m+2880))) ⟨0,_,_,rfl,rfl,.inl rfl⟩ (fun j σ H' _ ⟨_,_,_,_,h,_⟩=>h▸SqL.of hq) ?_ ?_⟩
   · rintro j z σ H' hz ⟨v,s3,s4,rfl,rfl,hv⟩;obtain⟨r,t,hr,rfl,ht⟩:=tz.of hz;have ok:=good.ok r (List.mem_of_getElem? hr);refine⟨t,_,rfl,SqT.of ht,rfl,_,_,rfl,_,_,rfl,rfl,?_⟩;refine⟨_,rfl,_,rfl,_,_,rfl,rfl,_,rfl,Qg (fun _=>?_) (fun _=>?_)⟩
     · exact⟨_,rfl,_,rfl,.inl ⟨_,_,rfl,rfl,_,_,_,rfl,rfl,.inr ⟨by omega,by omega⟩⟩⟩
     · exact⟨_,_,_,rfl,rfl,hv⟩
   · rintro σ H' ⟨v,s3,s4,rfl,rfl,hv⟩;exact⟨_,rfl,kk v hv⟩
theorem qaB {a:Ad} (T:Txt K mg a):FnOk P w K mg base CX0 1 a.f_p a.fd_p ["_law_rows_here","_law_low","_law_high"] jh:=by
 refine T.d_p.F.ok sc_Lbetween (fun vs H Q E h=>?_) (fun cdv A outer s H vs Q E hr h=>?_)
 · obtain⟨q,rows,lo,hi,rfl,⟨zs,hq,tz⟩,good,kk⟩:=h;rfl
 · obtain⟨q,rows,lo,hi,rfl,⟨zs,hq,tz⟩,good,kk⟩:=h;have hU:=hr.units
   refine⟨_,(qd (qz (i:=3) sc_Lbetween.nd rfl (Or.inl rfl) (qT qb))
     (qd (zP PassesOwn.never rfl (ZE rfl T.n_range (qa (qk qK (by rfl) T.n_len qG (qa (pv 0) qb)) qb)) (qq (i:=4) (sc_Lbetween.nd) rfl (Or.inl rfl))
       (qd (qz (i:=5) sc_Lbetween.nd rfl (Or.inl rfl) (qB qcL qe qe))
       (qd (qS (qu qdx (qB Qx (pv 4) qe) (qk qK (by rfl) T.n_len qG (qa (pv 0) qb)) (qC _))
         (qf (qz (i:=5) sc_Lbetween.nd rfl (Or.inl rfl) (qB zu (qI (r:=rIx K) qx (qI (r:=rIx K) qx (pv 0) (qB Qx (pv 4) qe) (fun _ _=>rfl)) qe (fun _ _=>rfl)) qe)))
         qA)
       (qd (qz (i:=6) sc_Lbetween.nd rfl (Or.inl rfl) (qk (Qt rfl) (by rfl) T.n_max Qv (qa (qI (r:=rIx K) qx (qI (r:=rIx K) qx (pv 0) (pv 4) (fun _ _=>rfl)) qe (fun _ _=>rfl)) (qa (qB zu (pv 1) (qI (r:=rIx K) qx (qI (r:=rIx K) qx (pv 0) (pv 4) (fun _ _=>rfl)) qe (fun _ _=>rfl))) qb))))
       (qd (qz (i:=7) sc_Lbetween.nd rfl (Or.inl rfl) (qk (ZK rfl) (by rfl) T.n_min ZL (qa (pv 5) (qa (qB zu (pv 2) (qI (r:=rIx K) qx (qI (r:=rIx K) qx (pv 0) (pv 4) (fun _ _=>rfl)) qe (fun _ _=>rfl))) qb))))
       (qf (qS (qu JM (pv 6) (pv 7) (qC _))
         (qf (qD (Zk PySem.F.plainAttrs_list PySem.F.slot_list_append PySem.F.type_list_append zc (pv 3) (qa (qQ (qa (pv 6) (qa (pv 7) qb))) qb))))
         qA)))))))
     (qf (qE (pv 3))))),?_⟩
   try dsimp only [zw,Cx.nox]
   have few:=good.few;have lz:=tz.1;refine⟨ql (Nat.le_of_ble_eq_true rfl),fun d fd=>?_⟩;generalize hG:upd H d _=A1;obtain⟨s1,e1⟩:=qt hG fd;clear hG;(try unfold qF);(try dsimp only);refine⟨_,rfl,_,_,rfl,.inl ⟨_,SqL.of (s1 _ _ hq),rfl⟩,_,rfl,by omega,by omega,ZH (lo:=0) (D:={ nx:=qfn (qe7 3) { nx:=fun _ H'=>Q .non H',rt:=Q },rt:=Q }) (fun i σ H'=>∃ (s4 s5 s6 s7:Option V) (ws:List V),σ=[some (.ref q),some (.int lo),some (.int hi),some (.ref d),s4,s5,s6,s7]∧Same H H'∧H' d=some (.lst ws)∧TupL pr H' ws ((((pcs rows).take i).map (mp lo hi)).filter okw)) ⟨_,_,_,_,[],rfl,s1,e1,.nil⟩ ?_ ?_⟩
   · rintro i σ H1 hi' ⟨s4,s5,s6,s7,ws,rfl,S,hd,tw⟩
     have il:i < rows.length:=by
       have:i < zs.length:=by simpa using hi'
       omega
     have hq1:=S _ _ hq;have tz1:=tz.same S;obtain⟨t,ht0,ht⟩:=tz1.at_ (List.getElem?_eq_getElem il);have hix:atI zs (0+(i:Int))=some (.ref t):=by rw[Int.zero_add];exact zA ht0
     have lw:ws.length≤21:=by
       have h1:=tw.1;have h2:=List.length_filter_le okw (((pcs rows).take i).map (mp lo hi));rw[List.length_map,List.length_take]at h2;omega
     refine⟨_,_,rfl,rfl,⟨by decide,by decide,by decide⟩,?_⟩;(try unfold qF);(try dsimp only);refine q9 (t:=qgY _ _ _) (fun σ' H'=>H'=H1∧σ'=[some (.ref q),some (.int lo),some (.int hi),some (.ref d),some (.int (0+(i:Int))),some (.int (if i+1 < rows.length then (rows.getD (i+1) (0,0)).1 - 1 else 1000000000)),s6,s7]) (fun N hN=>?_) ?_
     · refine⟨_,rfl,.inl ⟨_,_,rfl,rfl,_,rfl,_,_,rfl,.inl ⟨_,SqL.of hq1,rfl⟩,_,_,rfl,rfl,_,rfl,Qg (fun g=>?_) (fun g=>?_)⟩⟩
       · have c:i+1 < rows.length:=by omega
         obtain⟨t2,ht20,ht2⟩:=tz1.at_ (List.getElem?_eq_getElem c);have hix2:atI zs (0+(i:Int)+1)=some (.ref t2):=by rw[Int.zero_add];exact zA (j:=i+1) ht20
         refine⟨_,rfl,_,rfl,.inl ⟨_,_,rfl,rfl,.inl ⟨q,_,_,_,rfl,rfl,SqL.of hq1,hix2,.inr (.inl ⟨t2,_,_,_,rfl,rfl,SqT.of ht2,rfl,_,_,rfl,rfl,hN _ _ ⟨rfl,?_⟩⟩)⟩⟩⟩;rw[if_pos c,List.getD_eq_getElem?_getD,List.getElem?_eq_getElem c];rfl
       · have c:¬ i+1 < rows.length:=by omega
         exact hN _ _ ⟨rfl,by rw[if_neg c];rfl⟩
     rintro _ H1 ⟨rfl,rfl⟩;have hp:=qcK rows i _ _ (List.getElem?_eq_getElem il) (qdJ il);generalize (if i+1 < rows.length then (rows.getD (i+1) (0,0)).1 - 1 else 1000000000)=en at hp;generalize rows[i]=r at hp ht;(try unfold qF);(try dsimp only);have IX1:=hix;refine⟨_,rfl,_,rfl,.inl ⟨q,_,_,_,rfl,rfl,SqL.of hq1,hix,.inr (.inl ⟨t,_,_,_,rfl,rfl,SqT.of ht,rfl,_,rfl,_,rfl,_,rfl,.inl ⟨q,_,_,_,rfl,rfl,SqL.of hq1,hix,.inr (.inl ⟨t,_,_,_,rfl,rfl,SqT.of ht,rfl,_,_,rfl,rfl,_,_,rfl,?_⟩)⟩⟩)⟩⟩;(try unfold qF);(try dsimp only);refine⟨_,rfl,_,rfl,_,rfl,_,rfl,.inl ⟨q,_,_,_,rfl,rfl,SqL.of hq1,hix,.inr (.inl ⟨t,_,_,_,rfl,rfl,SqT.of ht,rfl,_,_,rfl,rfl,_,_,rfl,?_⟩)⟩⟩;(try unfold qF);(try dsimp only)
     have es:(((pcs rows).take (i+1)).map (mp lo hi)).filter okw=(((pcs rows).take i).map (mp lo hi)).filter okw++(if okw (mp lo hi (r.1,en,r.2))=true then [mp lo hi (r.1,en,r.2)] else []):=by
       rw[zM hp,List.map_append];exact JT _ _ _
     refine⟨_,rfl,_,rfl,_,_,rfl,rfl,_,rfl,Qg (fun g=>?_) (fun g=>?_)⟩
     · refine⟨_,rfl,.inl ⟨rfl,_,SqL.of hd⟩,_,rfl,_,rfl,ql (Nat.le_of_ble_eq_true rfl),fun tt ftt=>?_⟩;generalize hG:upd H1 tt _=A2;obtain⟨s2,e2⟩:=qt hG ftt;clear hG;have e2:A2 tt=some (.tup (pr (mp lo hi (r.1,en,r.2)))):=e2;refine⟨d,_,_,rfl,rfl,s2 _ _ hd,qw (by omega),?_⟩;refine⟨_,_,_,_,ws++[.ref tt],rfl,(S.trans s2).put fd _,qc,?_⟩;rw[es,if_pos (show okw (mp lo hi (r.1,en,r.2))=true from decide_eq_true g)];exact((tw.same s2).snoc e2).put (s2 _ _ hd)
     · refine⟨_,_,_,_,ws,rfl,S,hd,?_⟩;rw[es,if_neg (by rw[show okw (mp lo hi (r.1,en,r.2))=false from decide_eq_false g];decide),List.append_nil];exact tw
   · rintro σ H1 ⟨s4,s5,s6,s7,ws,rfl,S,hd,tw⟩;refine⟨_,rfl,kk d H1 fd S ⟨ws,hd,qfi tw ?_⟩⟩
     have:((zs.length:Int).toNat)=(pcs rows).length:=by rw[jk];omega
     rw[this,List.take_length];rfl
theorem qjc {a:Ad} (T:Txt K mg a):FnOk P w K mg base CX0 1 a.f_T a.fd_T ["_law_found","_law_low","_law_high"] qfv:=by
 refine T.d_T.F.ok sc_Lcut (fun vs H Q E h=>?_) (fun cdv A outer s H vs Q E hr h=>?_)
 · obtain⟨q,W,lo,hi,rfl,⟨zs,hq,tz⟩,few,kk⟩:=h;rfl
 · obtain⟨q,W,lo,hi,rfl,⟨zs,hq,tz⟩,few,kk⟩:=h;have hU:=hr.units
   refine⟨_,(qd (qz (i:=3) sc_Lcut.nd rfl (Or.inl rfl) (qT qb))
     (qd (zP PassesOwn.never rfl (qX (pv 0)) (zK rfl (qr (qq (i:=4) (sc_Lcut.nd) rfl (Or.inl rfl)) (qr (qq (i:=5) (sc_Lcut.nd) rfl (Or.inl rfl)) zg)))
       (qf (qS (PW.pt (ZD (qu JM (pv 4) (pv 2) (qC _)) (Qn (qu JM (pv 1) (pv 5) (qC _)))))
         (qf (qD (Zk PySem.F.plainAttrs_list PySem.F.slot_list_append PySem.F.type_list_append zc (pv 3) (qa (qQ (qa (qk (Qt rfl) (by rfl) T.n_max Qv (qa (pv 4) (qa (pv 1) qb))) (qa (qk (ZK rfl) (by rfl) T.n_min ZL (qa (pv 5) (qa (pv 2) qb))) qb))) qb))))
         qA)))
     (qf (qE (pv 3))))),?_⟩
   try dsimp only [zw,Cx.nox]
   have lz:=tz.1;refine⟨ql (Nat.le_of_ble_eq_true rfl),fun d fd=>?_⟩;generalize hG:upd H d _=A1;obtain⟨s1,e1⟩:=qt hG fd;clear hG;(try unfold qF);(try dsimp only);refine⟨_,rfl,q,rfl,⟨_,SqL.of (s1 _ _ hq)⟩,zH (K:=K) (a:=q) (xs:=zs) (D:={ nx:=qfn (qe7 3) { nx:=fun _ H'=>Q .non H',rt:=Q },rt:=Q }) (fun i σ H'=>∃ (s4 s5:Option V) (ws:List V),σ=[some (.ref q),some (.int lo),some (.int hi),some (.ref d),s4,s5]∧Same H H'∧H' d=some (.lst ws)∧TupL pr H' ws (qe1 (W.take i) lo hi)) ⟨_,_,[],rfl,s1,e1,.nil⟩ (fun j σ H' _ ⟨_,_,_,_,S,_⟩=>SqL.of (S _ _ hq)) ?_ ?_⟩
   · rintro i z σ H1 hz ⟨s4,s5,ws,rfl,S,hd,tw⟩;obtain⟨w,t,hw,rfl,ht⟩:=tz.of hz
     have lw:ws.length≤100:=by
       have h1:=tw.1;unfold qe1 at h1;have h2:=List.length_filter_le (qiz lo hi) (W.take i);rw[List.length_map]at h1;rw[List.length_take]at h2;omega
     have es:qe1 (W.take (i+1)) lo hi=qe1 (W.take i) lo hi++(if qiz lo hi w=true then [qhJ lo hi w] else []):=by
       unfold qe1;rw[zM hw,JT,List.map_append];congr 1;split<;>rfl
     refine⟨t,_,rfl,SqT.of (S _ _ ht),rfl,_,_,rfl,_,_,rfl,rfl,?_⟩;refine⟨_,rfl,_,rfl,_,_,rfl,rfl,_,rfl,Qg (fun g1=>?_) (fun g1=>?_)⟩
     · refine⟨_,rfl,_,rfl,_,_,rfl,rfl,_,rfl,Qg (fun g2=>?_) (fun g2=>?_)⟩
       · refine⟨_,rfl,.inl ⟨rfl,_,SqL.of hd⟩,_,rfl,_,rfl,_,_,rfl,_,rfl,_,rfl,_,_,rfl,ql (Nat.le_of_ble_eq_true rfl),fun tt ftt=>?_⟩;generalize hG:upd H1 tt _=A2;obtain⟨s2,e2⟩:=qt hG ftt;clear hG;have e2:A2 tt=some (.tup (pr (qhJ lo hi w))):=e2;refine⟨d,_,_,rfl,rfl,s2 _ _ hd,qw (by omega),?_⟩;refine⟨_,_,ws++[.ref tt],rfl,(S.trans s2).put fd _,qc,?_⟩;rw[es,if_pos (by unfold qiz;rw[decide_eq_true g1,decide_eq_true g2];rfl)];exact((tw.same s2).snoc e2).put (s2 _ _ hd)
       · refine⟨_,_,ws,rfl,S,hd,?_⟩;rw[es,if_neg (by unfold qiz;rw[decide_eq_false g2,Bool.and_false];decide),List.append_nil];exact tw
     · refine q8 rfl ⟨_,_,ws,rfl,S,hd,?_⟩;rw[es,if_neg (by unfold qiz;rw[decide_eq_false g1,Bool.false_and];decide),List.append_nil];exact tw
   · rintro σ H1 ⟨s4,s5,ws,rfl,S,hd,tw⟩;rw[lz,List.take_length]at tw;exact⟨_,rfl,kk d H1 fd S ⟨ws,hd,tw⟩⟩
end
theorem PoolAt.nk {H:Hp}{p b:Addr}{o:HO} (h:PoolAt H p) (e:H b=some o) (n:∀ xs,o≠.lst xs):b≠p:=fun z=>by
 obtain⟨_,_,_,q⟩:=h;rw[z,q]at e;injection e with e;exact n _ e.symm
def TbD (a:Ad) (H:Hp):Prop:=qkZ H a.t_Lentry qin qlj
theorem TbD.tb {a:Ad}{H:Hp} (h:TbD a H):∃ ps,H a.t_Lentry=some (.tbl ps):=let ⟨ps,h,_⟩:=h;⟨ps,h⟩
theorem TbD.same {a:Ad}{H H':Hp} (h:TbD a H) (s:Same H H'):TbD a H':=by
 obtain⟨ps,h1,h2,h3⟩:=h;refine⟨ps,s _ _ h1,h2,?_⟩;rcases h3 with h3|⟨c,h3,h4⟩
 · exact .inl h3
 · exact .inr ⟨c,h3,s _ _ h4⟩
theorem TbD.but {a:Ad}{H H':Hp}{p:Addr} (h:TbD a H) (b:But p H H') (pen:PoolAt H p):TbD a H':=by
 obtain⟨ps,h1,h2,h3⟩:=h;refine⟨ps,b _ _ h1 (PoolAt.nk pen h1 fun _ z=>nomatch z),h2,?_⟩;rcases h3 with h3|⟨c,h3,h4⟩
 · exact .inl h3
 · exact .inr ⟨c,h3,b _ _ h4 (PoolAt.nk pen h4 fun _ z=>nomatch z)⟩
def But2 (p t:Addr) (H H':Hp):Prop:=∀ b o,H b=some o->b≠p->b≠t->H' b=some o
theorem But2.trans {p t:Addr}{H H1 H2:Hp} (a:But2 p t H H1) (b:But2 p t H1 H2):But2 p t H H2:=fun c o h n m=>b c o (a c o h n m) n m
theorem But.two {p t:Addr}{H H':Hp} (b:But p H H'):But2 p t H H':=fun c o h n _=>b c o h n
theorem But.two' {p t:Addr}{H H':Hp} (b:But t H H'):But2 p t H H':=fun c o h _ n=>b c o h n
theorem But2.same {p t:Addr}{H H1 H2:Hp} (a:But2 p t H H1) (s:Same H1 H2):But2 p t H H2:=fun c o h n m=>s c o (a c o h n m)
theorem qeR {t u:TSK}{D:qgL}{σ:L2.St}{H:Hp} (Post:L2.St->Hp->Prop) (h1:∀ N:L2.St->Hp->Prop,(∀ σ' H',Post σ' H'->N σ' H')->t { D with nx:=N } σ H) (h2:∀ σ' H',Post σ' H'->u D σ' H'):qlo t u D σ H:=h1 (u D) h2
structure Sd (W:List (Int×Int)):Prop where
 ok:∀ w∈W,w.1≤w.2
 pw:W.Pairwise fun a b=>a.2 < b.1
theorem qd3 {x y:Int} (h:x≤y):Sd [(x,y)]:=⟨fun w m=>by rw[List.mem_singleton.mp m];exact h,List.pairwise_singleton _ _⟩
theorem mem_okw {W:List (Int×Int)}{n:Int}:Mem (W.filter okw) n↔Mem W n:=by
 constructor
 · rintro⟨w,m,h⟩;exact⟨w,(List.mem_filter.mp m).1,h⟩
 · rintro⟨w,m,h1,h2⟩;exact⟨w,List.mem_filter.mpr ⟨m,decide_eq_true (Int.le_trans h1 h2)⟩,h1,h2⟩
theorem qkL {rows:List (Int×Int)} (h:Asc rows) {i j:Nat} (hi:i < rows.length) (hj:j < rows.length) (l:i < j):(rows[i]).1 < (rows[j]).1:=(List.pairwise_iff_getElem.mp h) i j hi hj l
theorem qki {rows:List (Int×Int)} (good:Good rows):(pcs rows).Pairwise fun a b=>a.2.1 < b.1:=by
 rw[List.pairwise_iff_getElem];intro i j hi hj l;rw[jk]at hi hj;have e1:=qcK rows i _ _ (List.getElem?_eq_getElem hi) (qdJ hi);have e2:=qcK rows j _ _ (List.getElem?_eq_getElem hj) (qdJ hj);rw[(List.getElem?_eq_some_iff.mp e1).2,(List.getElem?_eq_some_iff.mp e2).2];have c:i+1 < rows.length:=by omega
 show (if i+1 < rows.length then (rows.getD (i+1) (0,0)).1 - 1 else 1000000000) < (rows[j]).1;rw[if_pos c,List.getD_eq_getElem?_getD,List.getElem?_eq_getElem c];show (rows[i+1]).1 - 1 < _;by_cases z:i+1=j
 · subst z;omega
 · have:=qkL good.asc c hj (by omega)
   omega
theorem qd4 {rows:List (Int×Int)} (good:Good rows) (lo hi:Int):Sd (bwn rows lo hi):=by
 refine⟨fun w m=>of_decide_eq_true (List.mem_filter.mp m).2,List.Pairwise.sublist List.filter_sublist ?_⟩;unfold shw;refine List.Pairwise.map _ (fun x y h=>?_) (qki good);unfold mp;dsimp only;split<;>split<;>omega
theorem qaS {rows:List (Int×Int)} (good:Good rows) (lo hi:Int):(bwn rows lo hi).length≤21:=by
 have h1:=List.length_filter_le okw (shw rows lo hi);unfold shw at h1;rw[List.length_map,jk]at h1
 have:=good.few
 exact Nat.le_trans h1 this
theorem mem_cutw {W:List (Int×Int)}{lo hi n:Int}:Mem (qe1 W lo hi) n↔Mem W n∧lo≤n∧n≤hi:=by
 unfold qe1;constructor
 · rintro⟨w,m,h1,h2⟩;obtain⟨u,mu,rfl⟩:=List.mem_map.mp m;obtain⟨mu,_⟩:=List.mem_filter.mp mu;unfold qhJ at h1 h2;dsimp only at h1 h2;refine⟨⟨u,mu,?_,?_⟩,?_,?_⟩<;>split at h1<;>split at h2<;>omega
 · rintro⟨⟨u,mu,h1,h2⟩,h3,h4⟩;refine⟨qhJ lo hi u,List.mem_map.mpr ⟨u,List.mem_filter.mpr ⟨mu,?_⟩,rfl⟩,?_,?_⟩
   · unfold qiz;rw[decide_eq_true (by omega),decide_eq_true (by omega)];rfl
   · unfold qhJ;dsimp only;split<;>omega
   · unfold qhJ;dsimp only;split<;>omega
theorem qiZ {W:List (Int×Int)} (h:Sd W) {lo hi:Int} (le:lo≤hi):Sd (qe1 W lo hi):=by
 unfold qe1;refine⟨fun w m=>?_,?_⟩
 · obtain⟨u,mu,rfl⟩:=List.mem_map.mp m;obtain⟨mu,hc⟩:=List.mem_filter.mp mu;have ok:=h.ok u mu;unfold qiz at hc;rw[Bool.and_eq_true,decide_eq_true_eq,decide_eq_true_eq]at hc;unfold qhJ;dsimp only;split<;>split<;>omega
 · refine List.Pairwise.map _ (fun x y h=>?_) (List.Pairwise.sublist List.filter_sublist h.pw);unfold qhJ;dsimp only;split<;>split<;>omega
theorem qhI (W:List (Int×Int)) (lo hi:Int):(qe1 W lo hi).length≤W.length:=by
 unfold qe1;rw[List.length_map];exact List.length_filter_le _ _
structure LT (H:Hp) (tl:Addr) (ts:Pls):Prop where
 ex:∃ zs,H tl=some (.lst zs)∧TupL (fun t:Str×Addr×List (Int×Int)=>([.str t.1,.ref t.2.1]:List V)) H zs ts
 rk:∀ t∈ts,Rs H t.2.1 t.2.2∧Good t.2.2
 nd:(ts.map (·.1)).Nodup
 nm:∀ t∈ts,QZ (.str t.1)=true
 n0:0 < ts.length
 n3:ts.length≤3
theorem LT.same {H H':Hp}{tl:Addr}{ts:Pls} (h:LT H tl ts) (s:Same H H'):LT H' tl ts:=⟨let ⟨zs,h1,h2⟩:=h.ex;⟨zs,s _ _ h1,h2.same s⟩,fun t m=>⟨(h.rk t m).1.same s,(h.rk t m).2⟩,h.nd,h.nm,h.n0,h.n3⟩
inductive Dn (a:Ad) (H:Hp) (ts:Pls) (tt:Addr) (nm:Str):Addr->Kd->List (Int×Int)->Int->Prop
 | mk {y fo:Addr}{kd:Kd}{W:List (Int×Int)}{he:Int}:H tt=some (.tup [.ref y,.ref fo,.int he])->EnD a H y nm kd->Rs H fo W->Sd W->W.length≤100->(∀ n,Mem W n↔MK ts kd n)->(∀ s∈kd.pls,s∈ts.map (·.1))->Dn a H ts tt nm y kd W he
theorem Dn.same {a:Ad}{H H':Hp}{ts:Pls}{tt:Addr}{nm:Str}{y:Addr}{kd:Kd}{W:List (Int×Int)}{he:Int} (h:Dn a H ts tt nm y kd W he) (s:Same H H'):Dn a H' ts tt nm y kd W he:=by
 cases h with
 | mk h1 h2 h3 h4 h5 h6 h7=>exact .mk (s _ _ h1) (h2.same s) (h3.same s) h4 h5 h6 h7
inductive J9 (a:Ad) (vs:List V) (H:Hp) (Q:VK):Prop
 | mk (p tl:Addr) (nm:Str) (b:Int) (ts:Pls) (E:Hp) (h1:vs=[.ref p,.str nm,.ref tl,.int b]) (h2:PoolAt H p) (h3:Same E H) (h4:E p=none) (h5:E a.t_Lentry=none) (h6:LT E tl ts) (h7:QZ (.str nm)=true) (h8:0≤b) (h9:b≤999990999) (h10:TbD a H) (h11:∀ (tt y fo:Addr) (kd:Kd) (W:List (Int×Int)) (he:Int) (H':Hp),But2 p a.t_Lentry H H'->PoolAt H' p->TbD a H'->H tt=none->H fo=none->H' tt=some (.tup [.ref y,.ref fo,.int he])->Dn a H' ts tt nm y kd W he->b≤he->he≤b+160->Q (.ref tt) H'):J9 a vs H Q
def qco (a:Ad):Sp:=fun vs H Q _=>J9 a vs H Q
theorem qj1 {us:List Int} (h:us.Pairwise (· < ·)):Sd (us.map dup):=⟨fun w m=>by
 obtain⟨n,_,rfl⟩:=List.mem_map.mp m
 exact Int.le_refl _,List.Pairwise.map _ (fun _ _ h=>h) h⟩
section
variable {P:Program}{w:World}{K:Frag}{mg:Str->Option Value}{base:Heap}
theorem qfX {a:Ad} (T:Txt K mg a) (hB:qgR mg base):FnOk P w K mg base CX0 9 a.f_F a.fd_F ["_law_pool_here","_law_name_here","_law_tables","_law_base"] (qco a):=by
 have G_a:=ZP (P:=P) (w:=w) (base:=base) T;have G_S:=qfV (P:=P) (w:=w) (base:=base) T;have G_p:=qaB (P:=P) (w:=w) (base:=base) T;have G_q:=je (P:=P) (w:=w) (base:=base) T;have G_8:=qa3 (P:=P) (w:=w) (base:=base) T;have G_b:=zG (P:=P) (w:=w) (base:=base) T;have G_3:=qeN (P:=P) (w:=w) (base:=base) T;have G_4:=qcQ (P:=P) (w:=w) (base:=base) T;have G_l:=Qq (P:=P) (w:=w) (base:=base) T;have G_5:=qb3 (P:=P) (w:=w) (base:=base) T;have G_T:=qjc (P:=P) (w:=w) (base:=base) T;refine T.d_F.F.okK T.cd_Lentry sc_Lentry (fun vs H Q E h=>?_) (fun cdv A outer s H vs Q E hcd hr h=>?_)
 · obtain⟨p,tl,nm,b,ts,E,rfl,hp,sE,Ep,Et,lt,okn,b0,b9,tb,kk⟩:=h;rfl
 · obtain⟨p,tl,nm,b,ts,E,rfl,hp,sE,Ep,Et,lt,okn,b0,b9,tb,kk⟩:=h;have hU:=hr.units;have h_a:Room (1) _:=hr.mono (by decide);have h_S:Room (1) _:=hr.mono (by decide);have h_p:Room (1) _:=hr.mono (by decide);have h_q:Room (5+1) _:=hr.mono (by decide);have h_8:Room (7+1) _:=hr.mono (by decide);have h_b:Room (3+1) _:=hr.mono (by decide);have h_3:Room (7+1) _:=hr.mono (by decide);have h_4:Room (7+1) _:=hr.mono (by decide);have h_l:Room (5+1) _:=hr.mono (by decide);have h_5:Room (5+1) _:=hr.mono (by decide);have h_T:Room (1) _:=hr.mono (by decide)
   refine⟨_,(@qP _ _ _ _ _ (by exact(@zV _ _ _ (by exact(qz (i:=4) sc_Lentry.nd rfl (Or.inl rfl) (qB Qx (pv 3) (qj G_a h_a rfl T.d_a.m T.d_a.k T.d_a.b .nil qm (qa (pv 0) (qa qe qb))))))))
     (by exact(@qP _ _ _ _ _ (by exact(@zV _ _ _ (by exact(qz (i:=5) sc_Lentry.nd rfl (Or.inl rfl) (qj G_a h_a rfl T.d_a.m T.d_a.k T.d_a.b .nil qm (qa (pv 0) (qa qe qb)))))))
     (by exact(@qP _ _ _ _ _ (by exact(@zV _ _ _ (by exact(JB (qI (r:=rIx K) qx (pv 2) (qj G_a h_a rfl T.d_a.m T.d_a.k T.d_a.b .nil qm (qa (pv 0) (qa (qk qK (by rfl) T.n_len qG (qa (pv 2) qb)) qb))) (fun _ _=>rfl)) (zK rfl (qr (qq (i:=6) (sc_Lentry.nd) rfl (Or.inl rfl)) (qr (qq (i:=7) (sc_Lentry.nd) rfl (Or.inl rfl)) zg)))))))
     (by exact(@qP _ _ _ _ _ (by exact(@zV _ _ _ (by exact(qz (i:=8) sc_Lentry.nd rfl (Or.inl rfl) (qk (Qt rfl) (by rfl) T.n_max Qv (qa qe (qa (qB zu (pv 4) (qj G_a h_a rfl T.d_a.m T.d_a.k T.d_a.b .nil qm (qa (pv 0) (qa qe qb)))) qb)))))))
     (by exact(@qP _ _ _ _ _ (by exact(@zV _ _ _ (by exact(qz (i:=9) sc_Lentry.nd rfl (Or.inl rfl) (qB Qx (pv 4) (qj G_a h_a rfl T.d_a.m T.d_a.k T.d_a.b .nil qm (qa (pv 0) (qa qe qb))))))))
     (by exact(@qP _ _ _ _ _ (by exact(@zV _ _ _ (by exact(qz (i:=10) sc_Lentry.nd rfl (Or.inl rfl) (qj G_S h_S rfl T.d_S.m T.d_S.k T.d_S.b .nil qm (qa (pv 7) (qa (pv 4) qb)))))))
     (by exact(@qP _ _ _ _ _ (by exact(@qat _ _ _ _ _ _ _ _ (by exact(qu (uEq hU) (pv 5) qe (qC _)))
       (by exact(@QC _ _ _ (by exact(@ji _ _ _ _ (by exact(@qQ _ _ _ _ _ (by exact(@qa _ _ _ _ _ (by exact(zL T.M_Entry G_b h_b rfl T.g_Entry T.d_b.b .nil qm (qa (pv 1) qb))) (by exact(@qa _ _ _ _ _ (by exact(@qT _ _ _ _ (by exact(@qa _ _ _ _ _ (by exact(@qQ _ _ _ _ _ (by exact(@qa _ _ _ _ _ (by exact qe) (by exact(@qa _ _ _ _ _ (by exact(qB qcL qe qe)) (by exact(@qb _)) (by rfl))) (by rfl))))) (by exact(@qb _)) (by rfl))))) (by exact(@qa _ _ _ _ _ (by exact(pv 4)) (by exact(@qb _)) (by rfl))) (by rfl))) (by rfl)))))))))
       (by exact Q6)))
     (by exact(@qP _ _ _ _ _ (by exact(@qat _ _ _ _ _ _ _ _ (by exact(qu (uEq hU) (pv 5) qe (qC _)))
       (by exact(@QC _ _ _ (by exact(@ji _ _ _ _ (by exact(@qQ _ _ _ _ _ (by exact(@qa _ _ _ _ _ (by exact(zL T.M_At G_3 h_3 rfl T.g_At T.d_3.b .nil qm (qa (pv 1) (qa (pv 4) qb)))) (by exact(@qa _ _ _ _ _ (by exact(@qT _ _ _ _ (by exact(@qa _ _ _ _ _ (by exact(@qQ _ _ _ _ _ (by exact(@qa _ _ _ _ _ (by exact(pv 4)) (by exact(@qa _ _ _ _ _ (by exact(pv 4)) (by exact(@qb _)) (by rfl))) (by rfl))))) (by exact(@qb _)) (by rfl))))) (by exact(@qa _ _ _ _ _ (by exact(pv 4)) (by exact(@qb _)) (by rfl))) (by rfl))) (by rfl)))))))))
       (by exact Q6)))
     (by exact(@qP _ _ _ _ _ (by exact(@qat _ _ _ _ _ _ _ _ (by exact(qu (uEq hU) (pv 5) qe (qC _)))
       (by exact(@QC _ _ _ (by exact(@ji _ _ _ _ (by exact(@qQ _ _ _ _ _ (by exact(@qa _ _ _ _ _ (by exact(zL T.M_Within G_q h_q rfl T.g_Within T.d_q.b .nil qm (qa (pv 1) (qa (pv 8) (qa (pv 9) qb))))) (by exact(@qa _ _ _ _ _ (by exact(@qT _ _ _ _ (by exact(@qa _ _ _ _ _ (by exact(@qQ _ _ _ _ _ (by exact(@qa _ _ _ _ _ (by exact(pv 8)) (by exact(@qa _ _ _ _ _ (by exact(pv 9)) (by exact(@qb _)) (by rfl))) (by rfl))))) (by exact(@qb _)) (by rfl))))) (by exact(@qa _ _ _ _ _ (by exact(pv 4)) (by exact(@qb _)) (by rfl))) (by rfl))) (by rfl)))))))))
       (by exact Q6)))
     (by exact(@qP _ _ _ _ _ (by exact(@qat _ _ _ _ _ _ _ _ (by exact(qu qdx (pv 5) qe (qC _)))
       (by exact(@qP _ _ _ _ _ (by exact(@qat _ _ _ _ _ _ _ _ (by exact(qu (uEq hU) (qj G_a h_a rfl T.d_a.m T.d_a.k T.d_a.b .nil qm (qa (pv 0) (qa qe qb))) qe (qC _)))
         (by exact(@QC _ _ _ (by exact(@zV _ _ _ (by exact(@qz _ _ 10 _ _ _ _ (by exact sc_Lentry.nd) (by rfl) (by exact(Or.inl rfl)) (by exact(@qB _ _ _ _ _ _ _ _ (by exact Qx) (by exact(pv 10)) (by exact(@qI _ _ _ _ _ _ (rIx K) (by exact qx) (by exact(@qT _ _ _ _ (by exact(@qa _ _ _ _ _ (by exact qe) (by exact(@qa _ _ _ _ _ (by exact(jj Qi qe)) (by exact(@qb _)) (by rfl))) (by rfl))))) (by exact(qj G_a h_a rfl T.d_a.m T.d_a.k T.d_a.b .nil qm (qa (pv 0) (qa qe qb)))) (by exact fun _ _=>rfl))))) (by rfl) (by exact .inl rfl)))))))
         (by exact Q6)))
       (by exact(@QC _ _ _ (by exact(@ji _ _ _ _ (by exact(@qQ _ _ _ _ _ (by exact(@qa _ _ _ _ _ (by exact(zL T.M_Read G_4 h_4 rfl T.g_Read T.d_4.b .nil qm (qa (pv 1) (qa (pv 6) (qa (pv 10) qb))))) (by exact(@qa _ _ _ _ _ (by exact(qj G_p h_p rfl T.d_p.m T.d_p.k T.d_p.b .nil qm (qa (pv 7) (qa (pv 10) (qa (pv 10) qb))))) (by exact(@qa _ _ _ _ _ (by exact(pv 4)) (by exact(@qb _)) (by rfl))) (by rfl))) (by rfl)))))))))))
       (by exact Q6)))
     (by exact(@qP _ _ _ _ _ (by exact(@zV _ _ _ (by exact(qz (i:=11) sc_Lentry.nd rfl (Or.inl rfl) (qj G_p h_p rfl T.d_p.m T.d_p.k T.d_p.b .nil qm (qa (pv 7) (qa (qB zu (pv 10) qe) (qa (qB Qx (pv 10) qe) qb))))))))
     (by exact(@qP _ _ _ _ _ (by exact(@qat _ _ _ _ _ _ _ _ (by exact(qu (uEq hU) (pv 5) qe (qC _)))
       (by exact(@QC _ _ _ (by exact(@ji _ _ _ _ (by exact(@qQ _ _ _ _ _ (by exact(@qa _ _ _ _ _ (by exact(zL T.M_Between G_l h_l rfl T.g_Between T.d_l.b .nil qm (qa (pv 1) (qa (pv 6) (qa (qB zu (pv 10) qe) (qa (qB Qx (pv 10) qe) qb)))))) (by exact(@qa _ _ _ _ _ (by exact(pv 11)) (by exact(@qa _ _ _ _ _ (by exact(pv 4)) (by exact(@qb _)) (by rfl))) (by rfl))) (by rfl)))))))))
       (by exact Q6)))
     (by exact(@qP _ _ _ _ _ (by exact(@qat _ _ _ _ _ _ _ _ (by exact(qu (uEq hU) (pv 5) qe (qC _)))
       (by exact(@qP _ _ _ _ _ (by exact(@zV _ _ _ (by exact(@qz _ _ 12 _ _ _ _ (by exact sc_Lentry.nd) (by rfl) (by exact(Or.inl rfl)) (by exact(@qT _ _ _ _ (by exact(@qa _ _ _ _ _ (by exact(zL T.M_Between G_l h_l rfl T.g_Between T.d_l.b .nil qm (qa (pv 1) (qa (pv 6) (qa (qB zu (pv 10) qe) (qa (qB Qx (pv 10) qe) qb)))))) (by exact(@qa _ _ _ _ _ (by exact(zL T.M_Within G_q h_q rfl T.g_Within T.d_q.b .nil qm (qa Qf (qa (pv 8) (qa (pv 9) qb))))) (by exact(@qb _)) (by rfl))) (by rfl))))) (by rfl) (by exact .inl rfl)))))
       (by exact(@QC _ _ _ (by exact(@ji _ _ _ _ (by exact(@qQ _ _ _ _ _ (by exact(@qa _ _ _ _ _ (by exact(zL T.M_Joint G_5 h_5 rfl T.g_Joint T.d_5.b .nil qm (qa (pv 1) (qa (pv 12) qb)))) (by exact(@qa _ _ _ _ _ (by exact(qj G_T h_T rfl T.d_T.m T.d_T.k T.d_T.b .nil qm (qa (pv 11) (qa (pv 8) (qa (pv 9) qb))))) (by exact(@qa _ _ _ _ _ (by exact(pv 4)) (by exact(@qb _)) (by rfl))) (by rfl))) (by rfl)))))))))))
       (by exact Q6)))
     (by exact(@qP _ _ _ _ _ (by exact(@zV _ _ _ (by exact(qz (i:=13) sc_Lentry.nd rfl (Or.inr rfl) (qB Qx qe (qj G_a h_a rfl T.d_a.m T.d_a.k T.d_a.b .nil qm (qa (pv 0) (qa qe qb))))))))
     (by exact(@qP _ _ _ _ _ (by exact(@zV _ _ _ (by exact(qz (i:=14) sc_Lentry.nd rfl (Or.inr rfl) (qB QV (pv 4) (pv 13))))))
     (by exact(@qP _ _ _ _ _ (by exact(@zV _ _ _ (by exact(@qau _ 11 _ _ _ _ _ _ _ _ _ _ _ _ _ _ _ _ (by exact sc_Lentry.nd) (by exact rfl) (by exact(Or.inl rfl)) (by exact rfl) (by exact(CompOk.defX ["_law_k","_law_rest","_law_by"] [none,some 14,some 13])) (by exact(qcH rfl T.n_range (qa (pv 8) (qa (qB Qx (pv 9) qe) qb)))) (by exact(fun _ _ _ _ _=>(qq (i:=0) (show List.Nodup (["_law_k","_law_rest","_law_by"]:List Str) by decide +kernel) rfl (Or.inl rfl)))) (by exact(fun _ _ _ _ _=>(qas (qu (uEq hU) (qB QV (pv 0) (pv 2)) (pv 1) (qC _))))) (by exact(fun _ _ _ _ _=>(qQ (qa (pv 0) (qa (pv 0) qb))))) (by rfl) (by exact .inl rfl) (by intro _;rfl)))))
     (by exact(@qP _ _ _ _ _ (by exact(@zV _ _ _ (by exact(qz (i:=15) sc_Lentry.nd rfl (Or.inl rfl) (zL T.M_Within G_q h_q rfl T.g_Within T.d_q.b .nil qm (qa Qf (qa (pv 8) (qa (pv 9) qb))))))))
     (by exact(@QC _ _ _ (by exact(@ji _ _ _ _ (by exact(@qQ _ _ _ _ _ (by exact(@qa _ _ _ _ _ (by exact(zL T.M_Sifted G_8 h_8 rfl T.g_Sifted T.d_8.b .nil qm (qa (pv 1) (qa (pv 15) (qa (qkh (T:=a.t_Lentry) rfl (qev (sc:=qg zY) (by decide)) hcd T.hd_Lentry hB) qb))))) (by exact(@qa _ _ _ _ _ (by exact(pv 11)) (by exact(@qa _ _ _ _ _ (by exact(pv 4)) (by exact(@qb _)) (by rfl))) (by rfl))) (by rfl)))))))))))))))))))))))))))))))))))))))))),?_⟩
   have p0:PoolAt H p:=hp;have t0:But p H H:=But.refl p H;refine⟨_,rfl,_,rfl,p,_,rfl,p0,by decide,by decide,fun h G1 h0 h1 u1 p1=>?_⟩;have t1:=t0.trans u1;refine .inl ⟨_,_,rfl,rfl,?_⟩;have h1:h < 160:=h1;obtain⟨he,ehe⟩:∃ x,x=b+h:=⟨_,rfl⟩
   rw[← ehe];(try unfold qF);(try dsimp only);refine⟨_,rfl,p,_,rfl,p1,by decide,by decide,fun kd G2 kd0 kd1 u2 p2=>?_⟩;have t2:=t1.trans u2;(try unfold qF);(try dsimp only);obtain⟨zs,hz,tz⟩:=lt.ex;have lz:=tz.1;have n0:=lt.n0;have n3:=lt.n3;refine⟨_,rfl,_,rfl,_,rfl,_,_,rfl,.inl ⟨_,SqL.of ((sE.but t2 Ep) _ _ hz),rfl⟩,p,_,rfl,p2,by omega,by omega,fun d G3 d0 d1 u3 p3=>?_⟩;have t3:=t2.trans u3;obtain⟨dn,rfl⟩:=Int.eq_ofNat_of_zero_le d0;have dl:dn < ts.length:=by omega
   obtain⟨tt0,ht0,ht⟩:=tz.at_ (List.getElem?_eq_getElem dl);have mt:ts[dn]∈ts:=List.getElem_mem dl;generalize ts[dn]=t at ht mt;refine .inl ⟨tl,_,_,_,rfl,rfl,SqL.of ((sE.but t3 Ep) _ _ hz),zA ht0,?_⟩;refine⟨tt0,_,rfl,SqT.of ((sE.but t3 Ep) _ _ ht),rfl,_,_,rfl,_,_,rfl,rfl,?_⟩;obtain⟨rR,good⟩:=lt.rk t mt;have okp:=lt.nm t mt;(try unfold qF);(try dsimp only);refine⟨_,rfl,_,rfl,p,_,rfl,p3,by decide,by decide,fun x1 G4 x10 x11 u4 p4=>?_⟩;have t4:=t3.trans u4;refine⟨_,_,rfl,rfl,_,_,rfl,?_⟩;have x11:x1 < 50:=x11;obtain⟨lw,elw⟩:∃ x,x=(if he - x1 > 0 then he - x1 else 0):=⟨_,rfl⟩
   have lw0:0≤lw∧lw≤he∧he - 50 < lw:=by rw[elw];split<;>omega
   rw[← elw];(try unfold qF);(try dsimp only);refine⟨_,rfl,_,rfl,p,_,rfl,p4,by decide,by decide,fun x2 G5 x20 x21 u5 p5=>?_⟩;have t5:=t4.trans u5;refine .inl ⟨_,_,rfl,rfl,?_⟩;have x21:x2 < 50:=x21;obtain⟨hg,ehg⟩:∃ x,x=he+x2:=⟨_,rfl⟩
   rw[← ehg];(try unfold qF);(try dsimp only);refine⟨_,rfl,_,rfl,t.2.1,t.2.2,he,rfl,rR.same (sE.but t5 Ep),good,fun sn hsn=>?_⟩;have sn0:-2880≤sn∧sn≤1000010000:=by omega
   try unfold qF
   try dsimp only
   have tb0:=tb;have fin:∀ (tt y fo:Addr) (W:List (Int×Int)) (kd':Kd) (G G5:Hp),But p H G->PoolAt G p->TbD a G->Same G G5->H tt=none->H fo=none->G tt=some (.tup [.ref y,.ref fo,.int he])->EnD a G y nm kd'->Rs G fo W->Sd W->W.length≤100->(∀ n,Mem W n↔MK ts kd' n)->(∀ s∈kd'.pls,s∈ts.map (·.1))->Q (.ref tt) G5:=fun tt y fo W kd' G G5 bG pG tG sG fT fF eT en rs sd ln mem pls=>kk tt y fo kd' W he G5 ((But.two bG).same sG) (pG.same sG) (tG.same sG) fT fF (sG _ _ eT) (Dn.same (.mk eT en rs sd ln mem pls) sG) (by omega) (by omega);show qlo _ _ _ [some (.ref p),some (.str nm),some (.ref tl),some (.int b),some (.int he),some (.int kd),some (.str t.1),some (.ref t.2.1),some (.int lw),some (.int hg),some (.int sn),none,none,none,none,none] G5;refine⟨_,rfl,.inl ⟨rfl,_,rfl,Qg (fun g=>?_) (fun g=>?_)⟩⟩
   · refine⟨_,rfl,fun y dy fy fdy ney=>⟨y,a.c_Entry,dy,nm,rfl,qc,okn,T.cl_Entry,T.n_Entry_name,fun G6 By e_y=>⟨rfl,?_⟩⟩⟩;have n_y:y≠p:=p5.ne fy;have u6:Same G5 G6:=qW fy fdy By;have p6:=p5.same u6;have t6:=t5.same u6;refine⟨_,_,rfl,rfl,⟨by decide,by decide,by decide⟩,ql (Nat.le_of_ble_eq_true rfl),fun w1 fw1=>?_⟩;have n_w1:w1≠p:=p6.ne fw1;generalize hG:upd G6 w1 _=G7;obtain⟨u7,e_w1⟩:=qt hG fw1;clear hG;have e_w1:G7 w1=some (.tup (pr (0,1000000000))):=e_w1;have p7:=p6.same u7;have t7:=t6.same u7;refine⟨ql (Nat.le_of_ble_eq_true rfl),fun l1 fl1=>?_⟩;have n_l1:l1≠p:=p7.ne fl1;generalize hG:upd G7 l1 _=G8;obtain⟨u8,e_l1⟩:=qt hG fl1;clear hG;have e_l1:G8 l1=some (.lst [.ref w1]):=e_l1;have p8:=p7.same u8;have t8:=t7.same u8;refine⟨_,rfl,?_⟩;refine⟨ql (Nat.le_of_ble_eq_true rfl),fun tt ftt=>?_⟩;have n_tt:tt≠p:=p8.ne ftt;generalize hG:upd G8 tt _=G9;obtain⟨u9,e_tt⟩:=qt hG ftt;clear hG;have p9:=p8.same u9;have t9:=t8.same u9;intro G5 ci;exact fin tt y l1 [(0,1000000000)] .any _ G5 t9 p9 (((((((((tb0.but u1 p0).but u2 p1).but u3 p2).but u4 p3).but u5 p4).same u6).same u7).same u8).same u9) ci.s ((t8).none ftt n_tt) (t7.none fl1 (p7.ne fl1)) e_tt (.any (u9 _ _ (u8 _ _ (u7 _ _ e_y)))) (qbx (w:=(0,1000000000)) (u9 _ _ (u8 _ _ e_w1)) (u9 _ _ e_l1)) (qd3 (by decide)) (by decide) (fun n=>mem1) (fun s m=>nomatch m)
   try unfold qF
   try dsimp only
   refine⟨_,rfl,.inl ⟨rfl,_,rfl,Qg (fun g=>?_) (fun g=>?_)⟩⟩
   · refine⟨_,rfl,_,rfl,fun y dy fy fdy ney=>⟨y,dy,nm,he,rfl,qc,okn,⟨by omega,by omega⟩,fun G6 By e_y=>⟨rfl,?_⟩⟩⟩;have n_y:y≠p:=p5.ne fy;have u6:Same G5 G6:=qW fy fdy By;have p6:=p5.same u6;have t6:=t5.same u6;refine⟨_,rfl,_,rfl,ql (Nat.le_of_ble_eq_true rfl),fun w1 fw1=>?_⟩;have n_w1:w1≠p:=p6.ne fw1;generalize hG:upd G6 w1 _=G7;obtain⟨u7,e_w1⟩:=qt hG fw1;clear hG;have e_w1:G7 w1=some (.tup (pr (he,he))):=e_w1;have p7:=p6.same u7;have t7:=t6.same u7;refine⟨ql (Nat.le_of_ble_eq_true rfl),fun l1 fl1=>?_⟩;have n_l1:l1≠p:=p7.ne fl1;generalize hG:upd G7 l1 _=G8;obtain⟨u8,e_l1⟩:=qt hG fl1;clear hG;have e_l1:G8 l1=some (.lst [.ref w1]):=e_l1;have p8:=p7.same u8;have t8:=t7.same u8;refine⟨_,rfl,?_⟩;refine⟨ql (Nat.le_of_ble_eq_true rfl),fun tt ftt=>?_⟩;have n_tt:tt≠p:=p8.ne ftt;generalize hG:upd G8 tt _=G9;obtain⟨u9,e_tt⟩:=qt hG ftt;clear hG;have p9:=p8.same u9;have t9:=t8.same u9;intro G5 ci;exact fin tt y l1 [(he,he)] (.at_ he) _ G5 t9 p9 (((((((((tb0.but u1 p0).but u2 p1).but u3 p2).but u4 p3).but u5 p4).same u6).same u7).same u8).same u9) ci.s ((t8).none ftt n_tt) (t7.none fl1 (p7.ne fl1)) e_tt (.at_ (u9 _ _ (u8 _ _ (u7 _ _ e_y)))) (qbx (w:=(he,he)) (u9 _ _ (u8 _ _ e_w1)) (u9 _ _ e_l1)) (qd3 (Int.le_refl _)) (Nat.le_of_ble_eq_true rfl) (fun n=>mem1) (fun s m=>nomatch m)
   try unfold qF
   try dsimp only
   refine⟨_,rfl,.inl ⟨rfl,_,rfl,Qg (fun g=>?_) (fun g=>?_)⟩⟩
   · refine⟨_,rfl,_,rfl,_,rfl,fun y dy fy fdy ney=>⟨y,a.c_Within,dy,nm,lw,hg,rfl,qc,okn,⟨by omega,by omega⟩,⟨by omega,by omega⟩,T.cl_Within,T.n_Within_name,T.n_Within_low,T.n_Within_high,fun G6 By e_y=>⟨rfl,?_⟩⟩⟩;have n_y:y≠p:=p5.ne fy;have u6:Same G5 G6:=qW fy fdy By;have p6:=p5.same u6;have t6:=t5.same u6;refine⟨_,rfl,_,rfl,ql (Nat.le_of_ble_eq_true rfl),fun w1 fw1=>?_⟩;have n_w1:w1≠p:=p6.ne fw1;generalize hG:upd G6 w1 _=G7;obtain⟨u7,e_w1⟩:=qt hG fw1;clear hG;have e_w1:G7 w1=some (.tup (pr (lw,hg))):=e_w1;have p7:=p6.same u7;have t7:=t6.same u7;refine⟨ql (Nat.le_of_ble_eq_true rfl),fun l1 fl1=>?_⟩;have n_l1:l1≠p:=p7.ne fl1;generalize hG:upd G7 l1 _=G8;obtain⟨u8,e_l1⟩:=qt hG fl1;clear hG;have e_l1:G8 l1=some (.lst [.ref w1]):=e_l1;have p8:=p7.same u8;have t8:=t7.same u8;refine⟨_,rfl,?_⟩;refine⟨ql (Nat.le_of_ble_eq_true rfl),fun tt ftt=>?_⟩;have n_tt:tt≠p:=p8.ne ftt;generalize hG:upd G8 tt _=G9;obtain⟨u9,e_tt⟩:=qt hG ftt;clear hG;have p9:=p8.same u9;have t9:=t8.same u9;intro G5 ci;exact fin tt y l1 [(lw,hg)] (.wi lw hg) _ G5 t9 p9 (((((((((tb0.but u1 p0).but u2 p1).but u3 p2).but u4 p3).but u5 p4).same u6).same u7).same u8).same u9) ci.s ((t8).none ftt n_tt) (t7.none fl1 (p7.ne fl1)) e_tt (.wi (u9 _ _ (u8 _ _ (u7 _ _ e_y)))) (qbx (w:=(lw,hg)) (u9 _ _ (u8 _ _ e_w1)) (u9 _ _ e_l1)) (qd3 (by omega)) (Nat.le_of_ble_eq_true rfl) (fun n=>mem1) (fun s m=>nomatch m)
   try unfold qF
   try dsimp only
   refine⟨_,rfl,_,_,rfl,rfl,_,rfl,Qg (fun g=>?_) (fun g=>?_)⟩
   · refine qeR (fun σ' H'=>∃ s':Int,σ'=[some (.ref p),some (.str nm),some (.ref tl),some (.int b),some (.int he),some (.int kd),some (.str t.1),some (.ref t.2.1),some (.int lw),some (.int hg),some (.int s'),none,none,none,none,none]∧(-10000≤s'∧s'≤1000020000)∧But p G5 H'∧PoolAt H' p) (fun N hN=>?_) ?_
     · refine⟨_,rfl,p,_,rfl,p5,by decide,by decide,fun z G6 z0 z1 u6 p6=>?_⟩;have t6:=t5.trans u6;refine .inl ⟨rfl,_,rfl,Qg (fun _=>?_) (fun _=>?_)⟩
       · refine⟨_,rfl,_,rfl,?_⟩;refine⟨ql (Nat.le_of_ble_eq_true rfl),fun l2 fl2=>?_⟩;have n_l2:l2≠p:=p6.ne fl2;generalize hG:upd G6 l2 _=G7;obtain⟨u7,e_l2⟩:=qt hG fl2;clear hG;have p7:=p6.same u7;have t7:=t6.same u7;refine⟨_,rfl,p,_,rfl,p7,by decide,by decide,fun z2 G8 z20 z21 u8 p8=>?_⟩;have t8:=t7.trans u8;refine qeh (-7) 1 (u8 _ _ e_l2 n_l2) z20 z21 rfl (fun v v0 v1=>?_);refine .inl ⟨_,_,rfl,rfl,?_⟩;exact hN _ _ ⟨_,rfl,⟨by omega,by omega⟩,(((But.refl p _).trans u6).same u7).trans u8,p8⟩
       · exact hN _ _ ⟨_,rfl,⟨by omega,by omega⟩,u6,p6⟩
     rintro _ G6 ⟨s',rfl,s0',u6,p6⟩;have t6:=t5.trans u6;(try unfold qF);(try dsimp only);refine⟨_,rfl,_,rfl,_,rfl,fun y dy fy fdy ney=>⟨y,dy,nm,t.1,s',rfl,qc,okn,okp,⟨by omega,by omega⟩,fun G7 By e_y=>⟨rfl,?_⟩⟩⟩;have n_y:y≠p:=p6.ne fy;have u7:Same G6 G7:=qW fy fdy By;have p7:=p6.same u7;have t7:=t6.same u7;refine⟨_,rfl,_,rfl,_,rfl,t.2.1,t.2.2,s',s',rfl,rR.same (sE.but t7 Ep),good,fun fo G8 ffo u8 Rfo=>⟨_,rfl,?_⟩⟩;have p8:=p7.same u8;have t8:=t7.same u8;refine⟨ql (Nat.le_of_ble_eq_true rfl),fun tt ftt=>?_⟩;have n_tt:tt≠p:=p8.ne ftt;generalize hG:upd G8 tt _=G9;obtain⟨u9,e_tt⟩:=qt hG ftt;clear hG;have p9:=p8.same u9;have t9:=t8.same u9;intro G5 ci;exact fin tt y fo (bwn t.2.2 s' s') (.rd t.1 s') _ G5 t9 p9 (((((((((tb0.but u1 p0).but u2 p1).but u3 p2).but u4 p3).but u5 p4).but u6 p5).same u7).same u8).same u9) ci.s ((t8).none ftt n_tt) (t7.none ffo (p7.ne ffo)) e_tt (.rd (u9 _ _ (u8 _ _ e_y)) ⟨by omega,by omega⟩) (Rfo.same u9) (qd4 good _ _) (Nat.le_trans (qaS good _ _) (by decide)) (fun n=>mem_okw.trans (qdq lt.nd mt)) (fun s m=>by rw[List.mem_singleton.mp m];exact List.mem_map.mpr ⟨t,mt,rfl⟩)
   try unfold qF
   try dsimp only
   refine⟨_,rfl,_,rfl,_,_,rfl,rfl,_,rfl,.inl ⟨_,_,rfl,rfl,t.2.1,t.2.2,sn - 9,sn+9,rfl,rR.same (sE.but t5 Ep),good,fun fo G6 ffo u6 Rfo=>?_⟩⟩;have p6:=p5.same u6;have t6:=t5.same u6;(try unfold qF);(try dsimp only);refine⟨_,rfl,.inl ⟨rfl,_,rfl,Qg (fun g=>?_) (fun g=>?_)⟩⟩
   · refine⟨_,rfl,_,rfl,_,rfl,_,_,rfl,rfl,_,rfl,.inl ⟨_,_,rfl,rfl,fun y dy fy fdy ney=>⟨y,a.c_Between,dy,nm,t.1,sn - 9,sn+9,rfl,qc,okn,okp,⟨by omega,by omega⟩,⟨by omega,by omega⟩,T.cl_Between,T.n_Between_name,T.n_Between_place,T.n_Between_low,T.n_Between_high,fun G7 By e_y=>⟨rfl,?_⟩⟩⟩⟩;have n_y:y≠p:=p6.ne fy;have u7:Same G6 G7:=qW fy fdy By;have p7:=p6.same u7;have t7:=t6.same u7;refine⟨_,rfl,_,rfl,?_⟩;refine⟨ql (Nat.le_of_ble_eq_true rfl),fun tt ftt=>?_⟩;have n_tt:tt≠p:=p7.ne ftt;generalize hG:upd G7 tt _=G8;obtain⟨u8,e_tt⟩:=qt hG ftt;clear hG;have p8:=p7.same u8;have t8:=t7.same u8;intro G5 ci;exact fin tt y fo (bwn t.2.2 (sn - 9) (sn+9)) (.bt t.1 (sn - 9) (sn+9)) _ G5 t8 p8 ((((((((tb0.but u1 p0).but u2 p1).but u3 p2).but u4 p3).but u5 p4).same u6).same u7).same u8) ci.s ((t7).none ftt n_tt) (t5.none ffo (p5.ne ffo)) e_tt (.bt (u8 _ _ e_y) ⟨by omega,by omega⟩ ⟨by omega,by omega⟩) ((Rfo.same u7).same u8) (qd4 good _ _) (Nat.le_trans (qaS good _ _) (by decide)) (fun n=>mem_okw.trans (qdq lt.nd mt)) (fun s m=>by rw[List.mem_singleton.mp m];exact List.mem_map.mpr ⟨t,mt,rfl⟩)
   try unfold qF
   try dsimp only
   refine⟨_,rfl,.inl ⟨rfl,_,rfl,Qg (fun g=>?_) (fun g=>?_)⟩⟩
   · refine⟨_,rfl,_,rfl,_,rfl,_,_,rfl,rfl,_,rfl,.inl ⟨_,_,rfl,rfl,fun b_ db_ fb_ fdb_ neb_=>⟨b_,a.c_Between,db_,nm,t.1,sn - 9,sn+9,rfl,qc,okn,okp,⟨by omega,by omega⟩,⟨by omega,by omega⟩,T.cl_Between,T.n_Between_name,T.n_Between_place,T.n_Between_low,T.n_Between_high,fun G7 Bb_ e_b_=>⟨rfl,?_⟩⟩⟩⟩;have n_b_:b_≠p:=p6.ne fb_;have u7:Same G6 G7:=qW fb_ fdb_ Bb_;have p7:=p6.same u7;have t7:=t6.same u7;refine⟨_,rfl,_,rfl,fun w_ dw_ fw_ fdw_ new_=>⟨w_,a.c_Within,dw_,"part",lw,hg,rfl,qc,(by decide +kernel),⟨by omega,by omega⟩,⟨by omega,by omega⟩,T.cl_Within,T.n_Within_name,T.n_Within_low,T.n_Within_high,fun G8 Bw_ e_w_=>⟨rfl,?_⟩⟩⟩;have n_w_:w_≠p:=p7.ne fw_;have u8:Same G7 G8:=qW fw_ fdw_ Bw_;have p8:=p7.same u8;have t8:=t7.same u8;refine⟨ql (Nat.le_of_ble_eq_true rfl),fun pt fpt=>?_⟩;have n_pt:pt≠p:=p8.ne fpt;generalize hG:upd G8 pt _=G9;obtain⟨u9,e_pt⟩:=qt hG fpt;clear hG;have e_pt:G9 pt=some (.lst [.ref b_,.ref w_]):=e_pt;have p9:=p8.same u9;have t9:=t8.same u9;(try unfold qF);(try dsimp only)
     refine⟨_,rfl,_,rfl,fun y dy fy fdy ney=>⟨y,dy,pt,nm,[(b_,[t.1]),(w_,[])],rfl,qc,okn,up2 fy fdy _ _ e_pt,(Nat.le_of_ble_eq_true rfl),(Nat.le_of_ble_eq_true rfl),(fun q mq=>by
       simp only[List.mem_cons,List.not_mem_nil,or_false]at mq;rcases mq with rfl|rfl
       · exact .between (up2 fy fdy _ _ (u9 _ _ (u8 _ _ e_b_)))
       · exact .within (up2 fy fdy _ _ (u9 _ _ e_w_))),fun l' G10 fl' By e_y e_l'=>⟨rfl,?_⟩⟩⟩
     have n_y:y≠p:=p9.ne fy
     have n_l':l'≠p:=fun z=>by
       rw[z]at fl';obtain⟨_,_,_,h⟩:=p9;rw[up2 fy fdy _ _ h]at fl';cases fl'
     have e_l':G10 l'=some (.lst [.ref b_,.ref w_]):=e_l';have u10:Same G9 G10:=qW fy fdy By;have p10:=p9.same u10;have t10:=t9.same u10;refine⟨_,rfl,_,rfl,_,rfl,fo,bwn t.2.2 (sn - 9) (sn+9),lw,hg,rfl,((((Rfo.same u7).same u8).same u9).same u10),Nat.le_trans (qaS good _ _) (by decide),fun fc G11 ffc u11 Rfc=>⟨_,rfl,?_⟩⟩;have p11:=p10.same u11;have t11:=t10.same u11;refine⟨ql (Nat.le_of_ble_eq_true rfl),fun tt ftt=>?_⟩;have n_tt:tt≠p:=p11.ne ftt;generalize hG:upd G11 tt _=G12;obtain⟨u12,e_tt⟩:=qt hG ftt;clear hG;have p12:=p11.same u12;have t12:=t11.same u12;intro G5 ci;exact fin tt y fc (qe1 (bwn t.2.2 (sn - 9) (sn+9)) lw hg) (.jn t.1 (sn - 9) (sn+9) lw hg) _ G5 t12 p12 ((((((((((((tb0.but u1 p0).but u2 p1).but u3 p2).but u4 p3).but u5 p4).same u6).same u7).same u8).same u9).same u10).same u11).same u12) ci.s ((t11).none ftt n_tt) (t10.none ffc (p10.ne ffc)) e_tt (.jn (u12 _ _ (u11 _ _ e_y)) (u12 _ _ (u11 _ _ e_l')) (u12 _ _ (u11 _ _ (u10 _ _ (u9 _ _ (u8 _ _ e_b_))))) (u12 _ _ (u11 _ _ (u10 _ _ (u9 _ _ e_w_)))) ⟨by omega,by omega⟩ ⟨by omega,by omega⟩) (Rfc.same u12) (qiZ (qd4 good _ _) (by omega)) (Nat.le_trans (qhI _ _ _) (Nat.le_trans (qaS good _ _) (by decide))) (fun n=>mem_cutw.trans ⟨fun⟨z1,z2,z3⟩=>⟨⟨by omega,by omega⟩,(qdq lt.nd mt).mp (mem_okw.mp z1),z2,z3⟩,fun⟨_,z1,z2,z3⟩=>⟨mem_okw.mpr ((qdq lt.nd mt).mpr z1),z2,z3⟩⟩) (fun s m=>by rw[List.mem_singleton.mp m];exact List.mem_map.mpr ⟨t,mt,rfl⟩)
   try unfold qF
   try dsimp only
   refine⟨_,rfl,p,_,rfl,p6,by decide,by decide,fun x5 G7 x50 x51 u7 p7=>?_⟩;have t7:=t6.trans u7;refine .inl ⟨_,_,rfl,rfl,?_⟩;have x51:x5 < 4:=x51;obtain⟨bz,ebz⟩:∃ x,x=1+x5:=⟨_,rfl⟩
   rw[← ebz];have bz0:0 < bz:=by omega
   try unfold qF
   try dsimp only
   refine⟨_,rfl,_,rfl,_,_,rfl,rfl,bz0,?_⟩;obtain⟨re,ere⟩:∃ x,x=he % bz:=⟨_,rfl⟩
   rw[← ere];(try unfold qF);(try dsimp only);refine⟨_,rfl,_,rfl,.inl ⟨_,_,rfl,rfl,_,_,rfl,⟨by omega,by omega,by omega,by omega⟩,fun D fD=>?_⟩⟩;have n_D:D≠p:=p7.ne fD;refine qbD (lo:=lw) (n:=(hg+1 - lw).toNat) (D:=D) (fun i σ H'=>∃ (c0:Option V) (ys:List V),σ=[c0,some (.int re),some (.int bz)]∧Same G7 H'∧H' D=some (.lst ys)∧TupL pr H' ys ((((List.range i).map fun k:Nat=>lw+(k:Int)).filter (kq bz re)).map dup)) ⟨none,[],rfl,Same.new _ fD,qc,.nil⟩ ?_ ?_
   · rintro i σ H3 hi ⟨c0,ys,rfl,S3,hD,ty⟩;have hi2:i < (hg+1 - lw).toNat:=hi
     have es:((List.range (i+1)).map fun k:Nat=>lw+(k:Int)).filter (kq bz re)=((List.range i).map fun k:Nat=>lw+(k:Int)).filter (kq bz re)++(if kq bz re (lw+(i:Int))=true then [lw+(i:Int)] else []):=by
       rw[List.range_succ,List.map_append];exact JT _ _ _
     refine⟨_,rfl,_,rfl,_,_,rfl,rfl,bz0,_,rfl,.inl ⟨rfl,_,rfl,?_⟩⟩;rw[qdI];refine qkX (fun g=>?_) (fun g=>?_)
     · refine⟨_,rfl,_,rfl,ql (Nat.le_of_ble_eq_true rfl),fun v fv=>⟨ys,(Same.new _ fv) _ _ hD,qw ?_,_,_,rfl,(S3.trans (Same.new _ fv)).put fD _,qc,?_⟩⟩
       · have h1:=ty.1;rw[List.length_map]at h1;have h2:=List.length_filter_le (kq bz re) ((List.range i).map fun k:Nat=>lw+(k:Int));rw[List.length_map,List.length_range]at h2;omega
       · rw[es,if_pos g,List.map_append];exact((ty.same (Same.new _ fv)).snoc (p:=dup (lw+(i:Int))) qc).put ((Same.new _ fv) _ _ hD)
     · refine⟨_,ys,rfl,S3,hD,?_⟩;rw[es,if_neg (by rw[show kq bz re (lw+(i:Int))=false from g];decide),List.append_nil];exact ty
   rintro σ G8 ⟨c0,ys,rfl,u8,hD,ty⟩;have p8:=p7.same u8;have t8:=t7.same u8;have e_D:=hD;have RD:Rs G8 D (((mo (lw,hg)).filter (kq bz re)).map dup):=⟨ys,hD,ty⟩
   try unfold qF
   try dsimp only
   refine⟨_,rfl,_,rfl,fun q_ dq_ fq_ fdq_ neq_=>⟨q_,a.c_Within,dq_,"q",lw,hg,rfl,qc,(by decide +kernel),⟨by omega,by omega⟩,⟨by omega,by omega⟩,T.cl_Within,T.n_Within_name,T.n_Within_low,T.n_Within_high,fun G9 Bq_ e_q_=>⟨rfl,?_⟩⟩⟩;have n_q_:q_≠p:=p8.ne fq_;have u9:Same G8 G9:=qW fq_ fdq_ Bq_;have p9:=p8.same u9;have t9:=t8.same u9;(try unfold qF);(try dsimp only);have tbn:TbD a G9:=(((((((((tb0.but u1 p0).but u2 p1).but u3 p2).but u4 p3).but u5 p4).same u6).but u7 p6).same u8).same u9)
   obtain⟨tbs,htb⟩:=tbn.tb;refine⟨_,rfl,_,rfl,tbn,fun fu cu ou H2 ffu nfu BT tb2 hfu hcu lob=>?_⟩;have tb2:TbD a H2:=tb2;have ntp:a.t_Lentry≠p:=PoolAt.nk p9 htb fun _ z=>nomatch z
   have pL:PoolAt H2 p:=by
     obtain⟨x,y,z,h⟩:=p9;exact⟨x,y,z,BT _ _ h (Ne.symm ntp)⟩
   have e_q2:=BT _ _ e_q_ (zN e_q_ htb (fun z=>nomatch z))
   have RD2:Rs H2 D (((mo (lw,hg)).filter (kq bz re)).map dup):=by
     obtain⟨zz,h1,h2⟩:=(RD.same u9)
     exact⟨zz,BT _ _ h1 (zN h1 htb (fun z=>nomatch z)),h2.1,fun j z y e1 e2=>by
       obtain⟨t',et,ht'⟩:=h2.2 j z y e1 e2
       exact⟨t',et,BT _ _ ht' (zN ht' htb (fun z=>nomatch z))⟩⟩
   refine fun y dy fy fdy ney=>⟨y,dy,q_,dq_,fu,nm,"q",lw,hg,rfl,qc,okn,up2 fy fdy _ _ e_q2,by omega,fun H3 By e_y=>⟨rfl,?_⟩⟩
   have S3:=qW fy fdy By;refine⟨_,rfl,_,rfl,ql (Nat.le_of_ble_eq_true rfl),fun tt ftt=>?_⟩;generalize hG:upd H3 tt _=H4;obtain⟨s4,e4⟩:=qt hG ftt;clear hG;intro G5 ci;have S4:=S3.trans s4;have clo:Kf G5 fu bz re:=qln lob ci rfl rfl rfl rfl rfl (S4 _ _ hfu) (S4 _ _ hcu);have S5:=S4.trans ci.s;have B5:But2 p a.t_Lentry H G5:=(((But.two t9).trans (But.two' BT)).same S5)
   have ftH:H tt=none:=by
     cases e':H tt with
     | none=>rfl
     | some o =>
       have n1:tt≠p:=(pL.same S3).ne ftt
       have n2:tt≠a.t_Lentry:=fun z=>by
         obtain⟨_,h⟩:=(tb2.same S3).tb;rw[z,h]at ftt;cases ftt
       rw[S3 _ _ (BT _ _ (t9 _ _ e' n1) n2)]at ftt;cases ftt
   have lmo:(mo (lw,hg)).length≤100:=by
     unfold mo;rw[List.length_map,List.length_range];show (hg+1 - lw).toNat≤100;omega
   refine kk tt y D (.sf lw hg bz re) (((mo (lw,hg)).filter (kq bz re)).map dup) he G5 B5 (pL.same S5) (tb2.same S5) ftH (t7.none fD (p7.ne fD)) (ci.s _ _ e4) (.mk (ci.s _ _ e4) (.sf ((s4.trans ci.s) _ _ e_y) (S5 _ _ e_q2) (by omega) (by omega) (by omega) clo bz0) (RD2.same S5) (qj1 ((qiF (lw,hg)).sublist List.filter_sublist)) (by rw[List.length_map];exact Nat.le_trans (List.length_filter_le _ _) lmo) (fun n=>?_) (fun s m=>nomatch m)) (by omega) (by omega);rw[qf4,List.mem_filter,mem_mo];exact⟨fun⟨z1,z2⟩=>⟨z1,of_decide_eq_true z2⟩,fun⟨z1,z2⟩=>⟨z1,decide_eq_true z2⟩⟩
end
abbrev abc:Str:="abcdefghijklmnopqrstuvwxyz"
def Ltr (c:Nat):Prop:=97≤c∧c < 123
theorem qkM {i:Int} (h0:0≤i) (h1:i < 26):atI abc.cps.toList i=some (97+i.toNat):=by
 have:∀ n:Fin 26,atI abc.cps.toList ((n.1:Nat):Int)=some (97+n.1):=by decide +kernel
 have:=this ⟨i.toNat,by omega⟩
 rwa [Int.toNat_of_nonneg h0]at this
theorem qiV {c:Nat} (h:Ltr c):sgn c=true:=by
 have:∀ n:Fin 26,sgn (97+n.1)=true:=by decide +kernel
 have:=this ⟨c - 97,by have:=h.1;have:=h.2;omega⟩
 rwa [show 97+(c - 97)=c by have:=h.1;omega]at this
theorem qjx (x y:Str):(x++y).cps.toList=x.cps.toList++y.cps.toList:=Array.toList_append
theorem qdF (x:Str):x.length=x.cps.toList.length:=Array.length_toList.symm
theorem qhn {x:Str}{cs:List Nat} (e:x.cps.toList=cs) (h1:1≤cs.length) (h8:cs.length≤8) (hl:∀ c∈cs,Ltr c):QZ (.str x)=true:=by
 have:x.length=cs.length:=by rw[qdF,e]
 simp only[QZ,Bool.and_eq_true,decide_eq_true_eq];rw[this,e];exact⟨⟨h1,h8⟩,List.all_eq_true.mpr fun c m=>qiV (hl c m)⟩
def qld:R2:=fun x y H Q=>∃ z n,x=.str z∧y=.int n∧n=0∧Q (.str Str.empty) H
theorem qi9 {X:Cx}:OpR X (binaryOp .Mult) qld:=by
 intro pins s σ H x y v u Q I rx ry h;obtain⟨z,n,rfl,rfl,rfl,q⟩:=h;obtain⟨t,rfl⟩:=rx;obtain⟨t',rfl⟩:=ry;exact PySem.P.mul_str_none (by decide) (by decide) ⟨.str _,H,I.tok _,⟨_,rfl⟩,q⟩
def NmC (st k:Int) (nm:Str):Prop:=∃ tl:List Nat,nm.cps.toList=(97+((st+7 * k) % 26).toNat)::tl∧tl.length≤2∧∀ c∈tl,Ltr c
theorem NmC.nm {st k:Int}{nm:Str} (h:NmC st k nm):QZ (.str nm)=true:=by
 obtain⟨tl,e,l,ok⟩:=h;refine qhn e (by rw[List.length_cons];omega) (by rw[List.length_cons];omega) fun c m=>?_;rcases List.mem_cons.mp m with rfl|m
 · exact⟨by omega,by omega⟩
 · exact ok c m
theorem NmC.ne {st:Int}{k j:Nat}{nm nm':Str} (h:NmC st k nm) (h':NmC st j nm') (hk:k < 26) (hj:j < 26) (n:k≠j):nm≠nm':=fun e=>by
 obtain⟨tl,e1,_,_⟩:=h;obtain⟨tl',e2,_,_⟩:=h';rw[e,e2]at e1;injection e1 with e1 _;omega
theorem NmC.len {st k:Int}{nm:Str} (h:NmC st k nm):nm.length≤3:=by
 obtain⟨tl,e,l,_⟩:=h;rw[qdF,e,List.length_cons];omega
inductive qbf (vs:List V) (H:Hp) (Q:VK):Prop
 | mk (st k:Int) (h1:vs=[.int st,.int k]) (h2:0≤st) (h3:st < 78) (h4:0≤k) (h5:k < 26) (h6:∀ (nm:Str) (H':Hp),Same H H'->NmC st k nm->Q (.str nm) H'):qbf vs H Q
def qd0:Sp:=fun vs H Q _=>qbf vs H Q
inductive qbh (vs:List V) (H:Hp) (Q:VK):Prop
 | mk (p q:Addr) (hs:List Int) (md:Int) (h1:vs=[.ref p,.ref q,.int md]) (h2:PoolAt H p) (h3:H q=some (.lst (hs.map V.int))) (h4:q≠p) (h5:0 < hs.length) (h6:hs.length≤60) (h7:(∀ h∈hs,0≤h∧h≤1000000000)) (h8:∀ (t:Addr) (b:B3) (H':Hp),But p H H'->PoolAt H' p->H t=none->H' t=some (.tup (tr b))->b.1 < hs.length->b.2.1 < hs.length->-2000000000≤b.2.2->b.2.2≤2000000001->Q (.ref t) H'):qbh vs H Q
def qd1:Sp:=fun vs H Q _=>qbh vs H Q
section
variable {P:Program}{w:World}{K:Frag}{mg:Str->Option Value}{base:Heap}
theorem qhj {a:Ad} (T:Txt K mg a):FnOk P w K mg base CX0 1 a.f_U a.fd_U ["_law_start","_law_k"] qd0:=by
 refine T.d_U.F.ok sc_Lname (fun vs H Q E h=>?_) (fun cdv A outer s H vs Q E hr h=>?_)
 · obtain⟨st,k,rfl,s0,s1,k0,k1,kk⟩:=h;rfl
 · obtain⟨st,k,rfl,s0,s1,k0,k1,kk⟩:=h;have hU:=hr.units
   refine⟨_,(@qd _ _ _ _ _ (by exact(qz (i:=2) sc_Lname.nd rfl (Or.inl rfl) Qf))
     (by exact(@qf _ _ _ (by exact(@qE _ _ _ _ (by exact(@qB _ _ _ _ _ _ _ _ (by exact Qx) (by exact(qB Qx (qI (r:=rIx K) qx (pv 2) (qB QV (qB Qx (pv 0) (qB JC qe (pv 1))) qe) (fun _ _=>rfl)) (qB qi9 Qf (qB jm (pv 1) qe)))) (by exact(@qI _ _ _ _ _ _ (rIx K) (by exact qx) (by exact(@qT _ _ _ _ (by exact(@qa _ _ _ _ _ (by exact Qf) (by exact(@qa _ _ _ _ _ (by exact Qf) (by exact(@qa _ _ _ _ _ (by exact Qf) (by exact(@qb _)) (by rfl))) (by rfl))) (by rfl))))) (by exact(qB QV (qB Qx (qB jm (pv 0) qe) (qB JC (pv 1) (pv 1))) qe)) (by exact fun _ _=>rfl)))))))))),?_⟩
   try dsimp only [zw,Cx.nox]
   have c0:0≤(st+7 * k) % 26:=Int.emod_nonneg _ (by decide);have c1:(st+7 * k) % 26 < 26:=Int.emod_lt_of_pos _ (by decide);refine⟨_,rfl,_,rfl,_,rfl,_,_,rfl,rfl,.inl ⟨by decide,by decide⟩,.inl ⟨_,_,rfl,rfl,_,_,rfl,rfl,(by show (0:Int) < _;decide),.inr (.inr ⟨_,_,_,rfl,rfl,ql (by decide +kernel),qkM c0 c1,?_⟩)⟩⟩;refine⟨_,rfl,_,_,rfl,rfl,⟨by decide,by decide⟩,_,_,rfl,rfl,by omega,?_⟩;refine .inr (.inr ⟨_,_,rfl,rfl,ql (by show 1+0≤1000;decide),?_⟩);refine⟨ql (Nat.le_of_ble_eq_true rfl),fun l fl=>?_⟩;generalize hG:upd H l _=A1;obtain⟨u1,e1⟩:=qt hG fl;clear hG;have d0:0≤(st / 26+k * k) % 3:=Int.emod_nonneg _ (by decide);have d1:(st / 26+k * k) % 3 < 3:=Int.emod_lt_of_pos _ (by decide);obtain⟨v,hv,mv⟩:=qkK (xs:=([.str "",.str "a",.str "in"]:List V)) d0 d1
   obtain⟨tx,cs,rfl,ecs,l2,ok⟩:∃ (tx:Str) (cs:List Nat),v=.str tx∧tx.cps.toList=cs∧cs.length≤2∧∀ c∈cs,Ltr c:=by
     simp only[List.mem_cons,List.not_mem_nil,or_false]at mv;rcases mv with rfl|rfl|rfl
     · exact⟨_,[],rfl,by decide +kernel,by decide,fun c m=>nomatch m⟩
     · exact⟨_,[97],rfl,by decide +kernel,by decide,fun c m=>by rw[List.mem_singleton.mp m];exact⟨by decide,by decide⟩⟩
     · refine⟨_,[105,110],rfl,by decide +kernel,by decide,fun c m=>?_⟩;simp only[List.mem_cons,List.not_mem_nil,or_false]at m;rcases m with rfl|rfl<;>exact⟨by decide,by decide⟩
   refine⟨_,rfl,_,_,rfl,rfl,⟨by decide,by decide⟩,_,rfl,_,rfl,_,_,rfl,rfl,.inl ⟨by omega,by omega⟩,.inl ⟨_,_,rfl,rfl,_,_,rfl,rfl,(by show (0:Int) < _;decide),.inl ⟨l,_,_,_,rfl,rfl,SqL.of e1,hv,?_⟩⟩⟩;have lx:tx.length≤2:=by rw[qdF,ecs];exact l2
   refine .inr (.inr ⟨_,_,rfl,rfl,ql (by show 1+tx.length≤1000;omega),kk _ A1 u1 ⟨cs,?_,l2,ok⟩⟩);rw[qjx,ecs];rfl
theorem qhk {a:Ad} (T:Txt K mg a):FnOk P w K mg base CX0 2 a.f_V a.fd_V ["_law_pool_here","_law_heres","_law_mode"] qd1:=by
 have G_a:=ZP (P:=P) (w:=w) (base:=base) T;refine T.d_V.F.ok sc_Lbond (fun vs H Q E h=>?_) (fun cdv A outer s H vs Q E hr h=>?_)
 · obtain⟨p,q,hs,md,rfl,hp,hq,nq,z0,z1,hb,kk⟩:=h;rfl
 · obtain⟨p,q,hs,md,rfl,hp,hq,nq,z0,z1,hb,kk⟩:=h;have hU:=hr.units;have h_a:Room (1) _:=hr.mono (by decide)
   refine⟨_,(@qd _ _ _ _ _ (by exact(qz (i:=3) sc_Lbond.nd rfl (Or.inl rfl) (qj G_a h_a rfl T.d_a.m T.d_a.k T.d_a.b .nil qm (qa (pv 0) (qa (qk qK (by rfl) T.n_len qG (qa (pv 1) qb)) qb)))))
     (by exact(@qd _ _ _ _ _ (by exact(qz (i:=4) sc_Lbond.nd rfl (Or.inl rfl) (qj G_a h_a rfl T.d_a.m T.d_a.k T.d_a.b .nil qm (qa (pv 0) (qa (qk qK (by rfl) T.n_len qG (qa (pv 1) qb)) qb)))))
     (by exact(@qd _ _ _ _ _ (by exact(qz (i:=5) sc_Lbond.nd rfl (Or.inl rfl) (qB zu (qB zu (qI (r:=rIx K) qx (pv 1) (pv 3) (fun _ _=>rfl)) (qI (r:=rIx K) qx (pv 1) (pv 4) (fun _ _=>rfl))) (qj G_a h_a rfl T.d_a.m T.d_a.k T.d_a.b .nil qm (qa (pv 0) (qa qe qb))))))
     (by exact(@qd _ _ _ _ _ (by exact(qS (PW.pt (ZD (qu (uEq hU) (pv 2) qe (qC _)) (Qn (qu (uEq hU) (qj G_a h_a rfl T.d_a.m T.d_a.k T.d_a.b .nil qm (qa (pv 0) (qa qe qb))) qe (qC _)))))
       (qf (qz (i:=5) sc_Lbond.nd rfl (Or.inl rfl) (qB Qx (qB Qx (pv 5) qe) (qj G_a h_a rfl T.d_a.m T.d_a.k T.d_a.b .nil qm (qa (pv 0) (qa qe qb))))))
       qA))
     (by exact(@qd _ _ _ _ _ (by exact(qS (qu (uEq hU) (pv 2) qe (qC _))
       (qf (qz (i:=5) sc_Lbond.nd rfl (Or.inl rfl) (qB zu (qj G_a h_a rfl T.d_a.m T.d_a.k T.d_a.b .nil qm (qa (pv 0) (qa qe qb))) qe)))
       qA))
     (by exact(@qd _ _ _ _ _ (by exact(@qS _ _ _ _ _ _ _ _ (by exact(PW.pt (ZD (qu (uEq hU) (pv 2) qe (qC _)) (Qn (qu (uEq hU) (qj G_a h_a rfl T.d_a.m T.d_a.k T.d_a.b .nil qm (qa (pv 0) (qa qe qb))) qe (qC _))))))
       (by exact(@qf _ _ _ (by exact(@qz _ _ 5 _ _ _ _ (by exact sc_Lbond.nd) (by rfl) (by exact(Or.inl rfl)) (by exact(@qI _ _ _ _ _ _ (rIx K) (by exact qx) (by exact(@qT _ _ _ _ (by exact(@qa _ _ _ _ _ (by exact qe) (by exact(@qa _ _ _ _ _ (by exact(jj Qi qe)) (by exact(@qa _ _ _ _ _ (by exact(qB qcL qe qe)) (by exact(@qa _ _ _ _ _ (by exact qe) (by exact(@qb _)) (by rfl))) (by rfl))) (by rfl))) (by rfl))))) (by exact(qj G_a h_a rfl T.d_a.m T.d_a.k T.d_a.b .nil qm (qa (pv 0) (qa qe qb)))) (by exact fun _ _=>rfl))) (by rfl) (by exact .inl rfl)))))
       (by exact qA)))
     (by exact(@qd _ _ _ _ _ (by exact(qS (PW.pt (ZD (qu qaw (pv 2) qe (qC _)) (Qn (qu qdx (pv 3) (pv 4) (qC _)))))
       (qf (qz (i:=5) sc_Lbond.nd rfl (Or.inl rfl) (qB zu (qB zu (pv 5) qe) (qj G_a h_a rfl T.d_a.m T.d_a.k T.d_a.b .nil qm (qa (pv 0) (qa qe qb))))))
       (qf (qS (PW.pt (ZD (qu qaw (pv 2) qe (qC _)) (Qn (qu (uEq hU) (qj G_a h_a rfl T.d_a.m T.d_a.k T.d_a.b .nil qm (qa (pv 0) (qa qe qb))) qe (qC _)))))
         (qf (qz (i:=5) sc_Lbond.nd rfl (Or.inl rfl) (qB Qx (qB Qx (pv 5) qe) (qj G_a h_a rfl T.d_a.m T.d_a.k T.d_a.b .nil qm (qa (pv 0) (qa qe qb))))))
         qA))))
     (by exact(@qf _ _ _ (by exact(@qE _ _ _ _ (by exact(@qQ _ _ _ _ _ (by exact(@qa _ _ _ _ _ (by exact(pv 3)) (by exact(@qa _ _ _ _ _ (by exact(pv 4)) (by exact(@qa _ _ _ _ _ (by exact(pv 5)) (by exact(@qb _)) (by rfl))) (by rfl))) (by rfl)))))))))))))))))))))),?_⟩
   try dsimp only [zw,Cx.nox]
   have hl:(hs.map V.int).length=hs.length:=List.length_map _;refine⟨_,rfl,_,rfl,_,_,rfl,.inl ⟨_,SqL.of hq,rfl⟩,p,_,rfl,hp,by omega,by omega,fun d G1 d0 d1 b1 p1=>?_⟩;have hq1:=b1 _ _ hq nq;(try unfold qF);(try dsimp only);refine⟨_,rfl,_,rfl,_,_,rfl,.inl ⟨_,SqL.of hq1,rfl⟩,p,_,rfl,p1,by omega,by omega,fun e G2 e0 e1 b2 p2=>?_⟩;have hq2:=b2 _ _ hq1 nq;rw[hl]at d1 e1;obtain⟨dn,rfl⟩:=Int.eq_ofNat_of_zero_le d0;obtain⟨en,rfl⟩:=Int.eq_ofNat_of_zero_le e0;have dl:dn < hs.length:=by omega
   have el:en < hs.length:=by omega
   have bd:=hb _ (List.getElem_mem dl);have be:=hb _ (List.getElem_mem el);(try unfold qF);(try dsimp only);refine⟨_,rfl,_,rfl,.inl ⟨q,_,_,_,rfl,rfl,SqL.of hq2,zA (by rw[List.getElem?_map,List.getElem?_eq_getElem dl];rfl),_,rfl,_,rfl,.inl ⟨q,_,_,_,rfl,rfl,SqL.of hq2,zA (by rw[List.getElem?_map,List.getElem?_eq_getElem el];rfl),_,_,rfl,rfl,_,rfl,p,_,rfl,p2,by decide,by decide,fun x G3 x0 x1 bG3 pG3=>⟨_,_,rfl,rfl,?_⟩⟩⟩⟩;have x1:x < 7:=x1;obtain⟨m0,em0⟩:∃ m,m=hs[dn] - hs[en] - x:=⟨_,rfl⟩
   have bm0:-1200000000≤m0∧m0≤1200000000:=by omega
   rw[← em0];clear em0;have b3:=(b1.trans b2).trans bG3;(try unfold qF);(try dsimp only);refine q9 (t:=qgY _ _ _) (fun σ' H'=>∃ m:Int,σ'=[some (.ref p),some (.ref q),some (.int md),some (.int (dn:Int)),some (.int (en:Int)),some (.int m)]∧(-1300000000≤m∧m≤1300000000)∧But p H H'∧PoolAt H' p) (fun N hN=>?_) ?_
   · refine⟨_,rfl,.inl ⟨rfl,_,rfl,Qg (fun _=>?_) (fun _=>?_)⟩⟩
     · refine⟨_,rfl,p,_,rfl,pG3,by decide,by decide,fun y G4 y0 y1 bG4 pG4=>.inl ⟨rfl,_,rfl,Qg (fun _=>?_) (fun _=>?_)⟩⟩
       · refine⟨_,rfl,.inl ⟨_,_,rfl,rfl,_,rfl,p,_,rfl,pG4,by decide,by decide,fun w G5 w0 w1 bG5 pG5=>.inl ⟨_,_,rfl,rfl,?_⟩⟩⟩;have w1:w < 20:=w1;exact hN _ _ ⟨_,rfl,⟨by omega,by omega⟩,(b3.trans bG4).trans bG5,pG5⟩
       · exact hN _ _ ⟨_,rfl,⟨by omega,by omega⟩,b3.trans bG4,pG4⟩
     · exact q8 rfl (hN _ _ ⟨_,rfl,⟨by omega,by omega⟩,b3,pG3⟩)
   rintro _ H1 ⟨m1,rfl,bm1,B1,P1⟩;(try unfold qF);(try dsimp only);refine q9 (t:=qgY _ _ _) (fun σ' H'=>∃ m:Int,σ'=[some (.ref p),some (.ref q),some (.int md),some (.int (dn:Int)),some (.int (en:Int)),some (.int m)]∧(-1300000000≤m∧m≤1300000000)∧But p H H'∧PoolAt H' p) (fun N hN=>?_) ?_
   · refine⟨_,rfl,.inl ⟨rfl,_,rfl,Qg (fun _=>?_) (fun _=>?_)⟩⟩
     · refine⟨_,rfl,p,_,rfl,P1,by decide,by decide,fun y G4 y0 y1 bG4 pG4=>⟨_,_,rfl,rfl,?_⟩⟩;have y1:y < 61:=y1;exact hN _ _ ⟨_,rfl,⟨by omega,by omega⟩,B1.trans bG4,pG4⟩
     · exact hN _ _ ⟨_,rfl,bm1,B1,P1⟩
   rintro _ H2 ⟨m2,rfl,bm2,B2,P2⟩;(try unfold qF);(try dsimp only);refine q9 (t:=qgY _ _ _) (fun σ' H'=>∃ m:Int,σ'=[some (.ref p),some (.ref q),some (.int md),some (.int (dn:Int)),some (.int (en:Int)),some (.int m)]∧((md≤3∧-2000000000≤m∧m≤2000000001)∨(-1500000000≤m∧m≤1500000000))∧But p H H'∧PoolAt H' p) (fun N hN=>?_) ?_
   · refine⟨_,rfl,.inl ⟨rfl,_,rfl,Qg (fun g=>?_) (fun _=>?_)⟩⟩
     · have md3:md=3:=by injection g
       refine⟨_,rfl,p,_,rfl,P2,by decide,by decide,fun y G4 y0 y1 bG4 pG4=>.inl ⟨rfl,_,rfl,Qg (fun _=>?_) (fun _=>?_)⟩⟩
       · refine⟨_,rfl,_,_,rfl,rfl,⟨by decide,by decide,by decide⟩,ql (Nat.le_of_ble_eq_true rfl),fun l fl=>?_⟩;have nl:l≠p:=pG4.ne fl;generalize hG:upd G4 l _=G5;obtain⟨u5,e5⟩:=qt hG fl;clear hG;have e5:G5 l=some (.lst [.int 2000000001,.int (-2000000000),.int 1000000000,.int 1]):=e5;refine⟨_,rfl,p,_,rfl,(pG4.same u5),by decide,by decide,fun w G6 w0 w1 bG6 pG6=>?_⟩;refine qeh (-2000000000) 2000000001 (bG6 _ _ e5 nl) w0 w1 (by decide) (fun v v0 v1=>?_);exact hN _ _ ⟨_,rfl,.inl ⟨by omega,v0,v1⟩,((B2.trans bG4).same u5).trans bG6,pG6⟩
       · exact hN _ _ ⟨_,rfl,.inr ⟨by omega,by omega⟩,B2.trans bG4,pG4⟩
     · exact q8 rfl (hN _ _ ⟨_,rfl,.inr ⟨by omega,by omega⟩,B2,P2⟩)
   rintro _ H3 ⟨m3,rfl,bm3,B3_,P3⟩;(try unfold qF);(try dsimp only);refine q9 (t:=qgY _ _ _) (fun σ' H'=>∃ m:Int,σ'=[some (.ref p),some (.ref q),some (.int md),some (.int (dn:Int)),some (.int (en:Int)),some (.int m)]∧(-2000000000≤m∧m≤2000000001)∧But p H H'∧PoolAt H' p) (fun N hN=>?_) ?_
   · have ELSE:∀ σ' H',σ'=[some (.ref p),some (.ref q),some (.int md),some (.int (dn:Int)),some (.int (en:Int)),some (.int m3)]->H'=H3->N σ' H':=fun σ' H' e1 e2=>by
       subst e1 e2;exact hN _ _ ⟨_,rfl,by omega,B3_,P3⟩
     by_cases g4:md > 3
     · have bm3:-1500000000≤m3∧m3≤1500000000:=by omega
       refine⟨_,rfl,_,_,rfl,rfl,_,rfl,Qg (fun _=>?_) (fun g=>absurd g4 g)⟩;refine⟨_,rfl,_,rfl,_,_,rfl,rfl,_,rfl,Qg (fun _=>?_) (fun _=>?_)⟩
       · refine⟨_,rfl,_,_,rfl,rfl,_,rfl,p,_,rfl,P3,by decide,by decide,fun y G4 y0 y1 bG4 pG4=>⟨_,_,rfl,rfl,?_⟩⟩;have y1:y < 90:=y1;exact hN _ _ ⟨_,rfl,⟨by omega,by omega⟩,B3_.trans bG4,pG4⟩
       · refine⟨_,rfl,_,_,rfl,rfl,_,rfl,Qg (fun _=>?_) (fun g=>absurd g4 g)⟩;refine⟨_,rfl,p,_,rfl,P3,by decide,by decide,fun y G4 y0 y1 bG4 pG4=>.inl ⟨rfl,_,rfl,Qg (fun _=>?_) (fun _=>?_)⟩⟩
         · refine⟨_,rfl,.inl ⟨_,_,rfl,rfl,_,rfl,p,_,rfl,pG4,by decide,by decide,fun w G5 w0 w1 bG5 pG5=>.inl ⟨_,_,rfl,rfl,?_⟩⟩⟩;have w1:w < 25:=w1;exact hN _ _ ⟨_,rfl,⟨by omega,by omega⟩,(B3_.trans bG4).trans bG5,pG5⟩
         · exact hN _ _ ⟨_,rfl,⟨by omega,by omega⟩,B3_.trans bG4,pG4⟩
     · refine⟨_,rfl,_,_,rfl,rfl,_,rfl,Qg (fun g=>absurd g g4) (fun _=>q8 rfl ?_)⟩;exact⟨_,rfl,_,_,rfl,rfl,_,rfl,Qg (fun g=>absurd g g4) (fun _=>q8 rfl (ELSE _ _ rfl rfl))⟩
   rintro _ H4 ⟨m4,rfl,bm4,B4,P4⟩;(try unfold qF);(try dsimp only);refine⟨_,rfl,_,rfl,_,rfl,ql (Nat.le_of_ble_eq_true rfl),fun t ft=>?_⟩;have nt:t≠p:=P4.ne ft;exact kk t (dn,en,m4) _ (B4.new _ ft) (P4.upd nt _) (B4.none ft nt) qc dl el bm4.1 bm4.2
end
inductive Jp (vs:List V) (H:Hp) (Q:VK):Prop
 | mk (q:Addr) (W:List (Int×Int)) (h1:vs=[.ref q]) (h2:Rs H q W) (h3:Sd W) (h4:W.length≤100) (h5:∀ (d:Addr) (r:List (Int×Int)) (H':Hp),H d=none->Same H H'->Rs H' d r->zi r->r.length≤W.length->(∀ n,Mem r n↔Mem W n)->Q (.ref d) H'):Jp vs H Q
def qbg:Sp:=fun vs H Q _=>Jp vs H Q
theorem mem_app {A B:List (Int×Int)}{n:Int}:Mem (A++B) n↔Mem A n∨Mem B n:=by
 constructor
 · rintro⟨w,m,h⟩;rcases List.mem_append.mp m with m|m
   · exact .inl ⟨w,m,h⟩
   · exact .inr ⟨w,m,h⟩
 · rintro (⟨w,m,h⟩|⟨w,m,h⟩)
   · exact⟨w,List.mem_append_left _ m,h⟩
   · exact⟨w,List.mem_append_right _ m,h⟩
theorem TupL.set1 {β:Type}{f:β->List V}{H:Hp}{zs:List V}{ps:List β}{t:Addr}{p:β} (h:TupL f H zs ps) (e:H t=some (.tup (f p))) (k:Nat):TupL f H (zs.set k (.ref t)) (ps.set k p):=⟨by rw[List.length_set,List.length_set];exact h.1,fun i z y e1 e2=>by
 rw[List.getElem?_set]at e1 e2;by_cases c:k=i
 · rw[if_pos c]at e1 e2;split at e1
   · cases e1;split at e2
     · cases e2;exact⟨t,rfl,e⟩
     · cases e2
   · cases e1
 · rw[if_neg c]at e1 e2
   exact h.2 i z y e1 e2⟩
theorem qkS {H:Hp} (i:Int):SW H 0 (.int i) (.int i):=.inl ⟨i,rfl,rfl⟩
theorem qkR {H:Hp}{t u:Addr}{ns:List Int} (h1:H t=some (.tup (ns.map V.int))) (h2:H u=some (.tup (ns.map V.int))) (l:ns.length≤10):SW H 1 (.ref t) (.ref u) :=
 .inr ⟨true,t,u,_,_,rfl,rfl,h1,h2,rfl,by rw[List.length_map];omega,fun i x y e1 e2=>by
   rw[e1]at e2;cases e2;obtain⟨k,_,rfl⟩:=zh e1
   exact qkS k⟩
theorem qgK {β:Type}{g:β->List Int}{H:Hp}{a b:Addr}{zs ys:List V}{xs:List β} (h1:H a=some (.lst zs)) (h2:H b=some (.lst ys)) (t1:TupL (fun x=>(g x).map V.int) H zs xs) (t2:TupL (fun x=>(g x).map V.int) H ys xs) (lg:∀ x,(g x).length≤10) (l:xs.length≤1000):SW H 2 (.ref a) (.ref b) :=
 .inr ⟨false,a,b,zs,ys,rfl,rfl,h1,h2,t1.1.trans t2.1.symm,by rw[t1.1];exact l,fun i x y e1 e2=>by
   obtain⟨p,t,hp,rfl,ht⟩:=t1.of e1;obtain⟨p',t',hp',rfl,ht'⟩:=t2.of e2;rw[hp]at hp';cases hp'
   exact qkR ht ht' (lg p)⟩
structure Fs (H:Hp) (s:Addr) (Ws:List (List (Int×Int))):Prop where
 ex:∃ qs:List Addr,H s=some (.lst (qs.map V.ref))∧qs.length=Ws.length∧∀ (i:Nat) q W,qs[i]?=some q->Ws[i]?=some W->Rs H q W
 ok:∀ W∈Ws,Sd W∧W.length≤100
theorem Fs.same {H H':Hp}{s:Addr}{Ws:List (List (Int×Int))} (h:Fs H s Ws) (S:Same H H'):Fs H' s Ws:=⟨let ⟨qs,h1,h2,h3⟩:=h.ex;⟨qs,S _ _ h1,h2,fun i q W e1 e2=>(h3 i q W e1 e2).same S⟩,h.ok⟩
inductive qbb (a:Ad) (vs:List V) (H:Hp) (Q:VK):Prop
 | mk (x s b:Addr) (rs Ws:List (List (Int×Int))) (B:List B3) (zs:List V) (h1:vs=[.ref x,.ref s,.ref b]) (h2:FrC a H x rs B) (h3:Fs H s Ws) (h4:rs.length=Ws.length) (h5:(∀ (i:Nat) r W,rs[i]?=some r->Ws[i]?=some W->zi r∧∀ n,Mem r n↔Mem W n)) (h6:H b=some (.lst zs)) (h7:TupL tr H zs B) (h8:∀ H',Same H H'->Q (.bl true) H'):qbb a vs H Q
def qdX (a:Ad):Sp:=fun vs H Q _=>qbb a vs H Q
section
variable {P:Program}{w:World}{K:Frag}{mg:Str->Option Value}{base:Heap}
theorem qeM {a:Ad} (T:Txt K mg a):FnOk P w K mg base CX0 1 a.f_Y a.fd_Y ["_law_found"] qbg:=by
 refine T.d_Y.F.ok sc_Lmerged (fun vs H Q E h=>?_) (fun cdv A outer s H vs Q E hr h=>?_)
 · obtain⟨q,W,rfl,⟨zs,hq,tz⟩,sd,few,kk⟩:=h;rfl
 · obtain⟨q,W,rfl,⟨zs,hq,tz⟩,sd,few,kk⟩:=h;have hU:=hr.units
   refine⟨_,(qd (qz (i:=1) sc_Lmerged.nd rfl (Or.inl rfl) (qT qb))
     (qd (zP PassesOwn.never rfl (qX (pv 0)) (zK rfl (qr (qq (i:=2) (sc_Lmerged.nd) rfl (Or.inl rfl)) (qr (qq (i:=3) (sc_Lmerged.nd) rfl (Or.inl rfl)) zg)))
       (qf (qS (PW.pt (ZD (qu (qel hU) (pv 1) (qT qb) (qC _)) (Qn (qu JM (pv 2) (qB Qx (qI (r:=rIx K) qx (qI (r:=rIx K) qx (pv 1) (jj Qi qe) (fun _ _=>rfl)) qe (fun _ _=>rfl)) qe) (qC _)))))
         (qf (JB (qQ (qa (qI (r:=rIx K) qx (qI (r:=rIx K) qx (pv 1) (jj Qi qe) (fun _ _=>rfl)) qe (fun _ _=>rfl)) (qa (pv 3) qb))) (qcI (pv 1) (jj Qi qe) jG)))
         (qf (qD (Zk PySem.F.plainAttrs_list PySem.F.slot_list_append PySem.F.type_list_append zc (pv 1) (qa (qQ (qa (pv 2) (qa (pv 3) qb))) qb)))))))
     (qf (qE (pv 1))))),?_⟩
   try dsimp only [zw,Cx.nox]
   have lz:=tz.1;refine⟨ql (Nat.le_of_ble_eq_true rfl),fun d fd=>?_⟩;generalize hG:upd H d _=A1;obtain⟨s1,e1⟩:=qt hG fd;clear hG;(try unfold qF);(try dsimp only);refine⟨_,rfl,q,rfl,⟨_,SqL.of (s1 _ _ hq)⟩,zH (K:=K) (a:=q) (xs:=zs) (D:={ nx:=qfn (qe7 1) { nx:=fun _ H'=>Q .non H',rt:=Q },rt:=Q }) (fun i σ H'=>∃ (s2 s3:Option V) (ys:List V) (r:List (Int×Int)),σ=[some (.ref q),some (.ref d),s2,s3]∧Same H H'∧H' d=some (.lst ys)∧TupL pr H' ys r∧zi r∧r.length≤i∧(∀ n,Mem r n↔Mem (W.take i) n)∧∀ u∈r,∀ (j:Nat) v,i≤j->W[j]?=some v->u.2 < v.1) ⟨_,_,[],[],rfl,s1,e1,.nil,⟨(fun _ m=>nomatch m),List.Pairwise.nil⟩,Nat.le_refl _,(fun n=>Iff.rfl),(fun u m=>nomatch m)⟩ (fun j σ H' _ ⟨_,_,_,_,_,S,_⟩=>SqL.of (S _ _ hq)) ?_ ?_⟩
   · rintro i z σ H1 hz ⟨s2,s3,ys,r,rfl,S,hd,ty,can,lr,mem,nx⟩;obtain⟨w,t,hw,rfl,ht⟩:=tz.of hz;have il:=(List.getElem?_eq_some_iff.mp hw).1;have mw:=List.mem_of_getElem? hw;have wok:=sd.ok w mw;have ly:=ty.1
     have nw:∀ (j:Nat) v,i+1≤j->W[j]?=some v->w.2 < v.1:=fun j v hj hv=>by
       obtain⟨h1,e1⟩:=List.getElem?_eq_some_iff.mp hw;obtain⟨h2,e2⟩:=List.getElem?_eq_some_iff.mp hv
       have:=(List.pairwise_iff_getElem.mp sd.pw) i j h1 h2 (by omega)
       rw[e1,e2]at this;exact this
     refine⟨t,_,rfl,SqT.of (S _ _ ht),rfl,_,_,rfl,_,_,rfl,rfl,?_⟩;refine⟨_,rfl,ql (Nat.le_of_ble_eq_true rfl),fun l0 fl0=>?_⟩;generalize hG:upd H1 l0 _=A2;obtain⟨u2,e2⟩:=qt hG fl0;clear hG;have hd2:=u2 _ _ hd;have ty2:=ty.same u2;have S2:=S.trans u2
     have APP:(∀ u∈r,u.2+1 < w.1)->∀ (tt:Addr) (A3:Hp),A2 tt=none->Same A2 A3->A3 tt=some (.tup (pr w))->A3 d=some (.lst ys)∧∀ (s2 s3:Option V),∃ (s2' s3':Option V) (ys':List V) (r':List (Int×Int)),[some (V.ref q),some (V.ref d),s2,s3]=[some (.ref q),some (.ref d),s2',s3']∧Same H (upd A3 d (.lst (ys++[.ref tt])))∧(upd A3 d (.lst (ys++[.ref tt]))) d=some (.lst ys')∧TupL pr (upd A3 d (.lst (ys++[.ref tt]))) ys' r'∧zi r'∧r'.length≤i+1∧(∀ n,Mem r' n↔Mem (W.take (i+1)) n)∧∀ u∈r',∀ (j:Nat) v,i+1≤j->W[j]?=some v->u.2 < v.1:=fun gap tt A3 ft S3 et=>by
       have hd3:=S3 _ _ hd2;refine⟨hd3,fun s2 s3=>⟨s2,s3,ys++[.ref tt],r++[w],rfl,(S2.trans S3).put fd _,qc,((ty2.same S3).snoc et).put hd3,⟨fun u m=>?_,?_⟩,by rw[List.length_append];show _+1≤_;omega,fun n=>?_,fun u m j v hj hv=>?_⟩⟩
       · rcases List.mem_append.mp m with m|m
         · exact can.1 u m
         · rw[List.mem_singleton.mp m];exact wok
       · exact List.pairwise_append.mpr ⟨can.2,List.pairwise_singleton _ _,fun u mu v mv=>by rw[List.mem_singleton.mp mv];exact gap u mu⟩
       · rw[zM hw,mem_app,mem_app,mem]
       · rcases List.mem_append.mp m with m|m
         · exact nx u m j v (by omega) hv
         · rw[List.mem_singleton.mp m];exact nw j v hj hv
     refine⟨d,l0,_,rfl,rfl,SqL.of hd2,SqL.of e2,_,rfl,?_⟩;rcases List.eq_nil_or_concat r with er|⟨r0,la,er⟩
     · have ey:ys=[]:=List.eq_nil_of_length_eq_zero (by rw[ly,er];rfl);refine q8 (by rw[ey];rfl) (q8 rfl ?_);refine⟨_,rfl,.inl ⟨rfl,_,SqL.of hd2⟩,_,rfl,_,rfl,ql (Nat.le_of_ble_eq_true rfl),fun tt ftt=>?_⟩;generalize hG:upd A2 tt _=A3;obtain⟨u3,e3⟩:=qt hG ftt;clear hG;obtain⟨h1,h2⟩:=APP (fun u m=>by rw[er]at m;cases m) tt A3 ftt u3 e3;exact⟨d,_,_,rfl,rfl,h1,qw (by omega),h2 _ _⟩
     · rw[List.concat_eq_append]at er;have lr0:ys.length=r0.length+1:=by rw[ly,er,List.length_append];rfl
       have hla:r[r0.length]?=some la:=by rw[er,List.getElem?_append_right (Nat.le_refl _),Nat.sub_self];rfl
       obtain⟨tl,htl0,htl⟩:=ty2.at_ hla
       have hix:atI ys (-1)=some (.ref tl):=by
         have e:ixN ys.length (-1)=some r0.length:=by
           unfold ixN;rw[if_neg (by decide),if_pos (by omega)];congr 1;omega
         unfold atI;rw[e];exact htl0
       refine Jc (by cases hys:ys with|nil=>rw[hys]at lr0;simp at lr0|cons _ _=>rfl) ?_;refine⟨_,rfl,_,rfl,_,rfl,.inl ⟨d,_,_,_,rfl,rfl,SqL.of hd2,hix,.inr (.inl ⟨tl,_,_,_,rfl,rfl,SqT.of htl,rfl,.inl ⟨_,_,rfl,rfl,_,_,rfl,rfl,_,rfl,Qg (fun g=>?_) (fun g=>?_)⟩⟩)⟩⟩
       · have lw:=nx la (by rw[er];exact List.mem_append_right _ List.mem_cons_self) i w (Nat.le_refl _) hw;have g:w.1≤la.2+1:=g;refine⟨_,rfl,_,rfl,.inl ⟨d,_,_,_,rfl,rfl,SqL.of hd2,hix,.inr (.inl ⟨tl,_,_,_,rfl,rfl,SqT.of htl,rfl,_,rfl,ql (Nat.le_of_ble_eq_true rfl),fun tt ftt=>?_⟩)⟩⟩;generalize hG:upd A2 tt _=A3;obtain⟨u3,e3⟩:=qt hG ftt;clear hG;have e3:A3 tt=some (.tup (pr (la.1,w.2))):=e3;have hd3:=u3 _ _ hd2;refine⟨_,rfl,_,rfl,d,_,_,r0.length,rfl,rfl,hd3,?_,?_⟩
         · unfold ixN;rw[if_neg (by decide),if_pos (by omega)];congr 1;omega
         have rs:r.set r0.length (la.1,w.2)=r0++[(la.1,w.2)]:=by rw[er,List.set_append_right _ _ (Nat.le_refl _),Nat.sub_self];rfl
         have t3:TupL pr (upd A3 d (.lst (ys.set r0.length (.ref tt)))) (ys.set r0.length (.ref tt)) (r0++[(la.1,w.2)]):=by
           rw[← rs];exact(K42.TupL.set1 (ty2.same u3) e3 r0.length).put hd3
         have c2:=can.2;rw[er]at c2;have c2':=List.pairwise_append.mp c2;have cla:=can.1 la (by rw[er];exact List.mem_append_right _ List.mem_cons_self);refine⟨_,_,_,r0++[(la.1,w.2)],rfl,(S2.trans u3).put fd _,qc,t3,⟨fun u m=>?_,?_⟩,?_,fun n=>?_,fun u m j v hj hv=>?_⟩
         · rcases List.mem_append.mp m with m|m
           · exact can.1 u (by rw[er];exact List.mem_append_left _ m)
           · rw[List.mem_singleton.mp m];show la.1≤w.2;omega
         · refine List.pairwise_append.mpr ⟨c2'.1,List.pairwise_singleton _ _,fun u mu v mv=>?_⟩;rw[List.mem_singleton.mp mv];exact c2'.2.2 u mu la List.mem_cons_self
         · have:r.length=r0.length+1:=by rw[er,List.length_append];rfl
           rw[List.length_append];show r0.length+1≤_;omega
         · rw[zM hw,mem_app,mem_app,← mem,er,mem_app];have m1:Mem [(la.1,w.2)] n↔la.1≤n∧n≤w.2:=mem1;have m2:Mem [la] n↔la.1≤n∧n≤la.2:=mem1 (lo:=la.1) (hi:=la.2);have m3:Mem [w] n↔w.1≤n∧n≤w.2:=mem1 (lo:=w.1) (hi:=w.2);rw[m1,m2,m3];constructor
           · rintro (h|h)
             · exact .inl (.inl h)
             · by_cases c:n≤la.2
               · exact .inl (.inr ⟨h.1,c⟩)
               · exact .inr ⟨by omega,h.2⟩
           · rintro ((h|h)|h)
             · exact .inl h
             · exact .inr ⟨h.1,by omega⟩
             · exact .inr ⟨by omega,h.2⟩
         · rcases List.mem_append.mp m with m|m
           · exact nx u (by rw[er];exact List.mem_append_left _ m) j v (by omega) hv
           · rw[List.mem_singleton.mp m];exact nw j v hj hv
       · refine⟨_,rfl,.inl ⟨rfl,_,SqL.of hd2⟩,_,rfl,_,rfl,ql (Nat.le_of_ble_eq_true rfl),fun tt ftt=>?_⟩;generalize hG:upd A2 tt _=A3;obtain⟨u3,e3⟩:=qt hG ftt;clear hG;have g:¬ w.1≤la.2+1:=g
         obtain⟨h1,h2⟩:=APP (fun u m=>by
           rw[er]at m;rcases List.mem_append.mp m with m|m
           · have c2:=can.2;rw[er]at c2
             have:=(List.pairwise_append.mp c2).2.2 u m la List.mem_cons_self
             have:=can.1 la (by rw[er];exact List.mem_append_right _ List.mem_cons_self)
             omega
           · rw[List.mem_singleton.mp m];omega) tt A3 ftt u3 e3
         exact⟨d,_,_,rfl,rfl,h1,qw (by omega),h2 _ _⟩
   · rintro σ H1 ⟨s2,s3,ys,r,rfl,S,hd,ty,can,lr,mem,nx⟩;rw[lz]at lr mem;rw[List.take_length]at mem;exact⟨_,rfl,kk d r H1 fd S ⟨ys,hd,ty⟩ can lr mem⟩
theorem qhg {a:Ad} (T:Txt K mg a):FnOk P w K mg base CX0 5 a.f_f a.fd_f ["_law_frame","_law_sets","_law_bonds"] (qdX a):=by
 have G_Y:=qeM (P:=P) (w:=w) (base:=base) T;have G_d:=qem (P:=P) (w:=w) (base:=base) T;have G_1:=qa5 (P:=P) (w:=w) (base:=base) T;have G_A:=jf (P:=P) (w:=w) (base:=base) T;refine T.d_f.F.ok sc_Ltold (fun vs H Q E h=>?_) (fun cdv A outer s H vs Q E hr h=>?_)
 · obtain⟨x,s_,b,rs,Ws,B,zs,rfl,fr,fs,lrw,ok,hb,tb,kk⟩:=h;rfl
 · obtain⟨x,s_,b,rs,Ws,B,zs,rfl,fr,fs,lrw,ok,hb,tb,kk⟩:=h;have h_Y:Room (1) _:=hr.mono (by decide);have h_d:Room (4) _:=hr.mono (by decide);have h_1:Room (1) _:=hr.mono (by decide);have h_A:Room (2) _:=hr.mono (by decide)
   refine⟨_,(qd (qau (i:=3) sc_Ltold.nd rfl (Or.inl rfl) rfl (CompOk.def ["_law_found"] [none]) (qX (pv 1)) (fun _ _ _ _ _=>(qq (i:=0) (show List.Nodup (["_law_found"]:List Str) by decide +kernel) rfl (Or.inl rfl))) (fun _ _ _ _ _=>Qa) (fun _ _ _ _ _=>(qj G_Y h_Y rfl T.d_Y.m T.d_Y.k T.d_Y.b .nil qm (qa (pv 0) qb))))
     (qf (qE (ZF (qj G_d h_d rfl T.d_d.m T.d_d.k T.d_d.b .nil qm (qa (zr (pv 0) T.cl_Frame T.d_1.mt G_1 h_1 T.d_1.b .nil qm) (qa (pv 2) qb))) (jQ (qj G_d h_d rfl T.d_d.m T.d_d.k T.d_d.b .nil qm (qa (zr (pv 0) T.cl_Frame T.d_A.mt G_A h_A T.d_A.b .nil qm) (qa (pv 3) qb)))))))),?_⟩
   try dsimp only [zw,Cx.nox]
   obtain⟨zss,bs,⟨k,kb,rs',FA,LLk,hkb⟩,lz,tz,tbs⟩:=fr.ex;obtain⟨qs,hs,lq,hR⟩:=fs.ex;have n60:=fr.n;refine⟨_,rfl,s_,rfl,⟨_,SqL.of hs⟩,fun D fD=>?_⟩;refine zD (K:=K) (a:=s_) (xs:=qs.map V.ref) (D:=D) (fun i σ H'=>∃ (c0:Option V) (ds:List Addr),σ=[c0]∧Same H H'∧H' D=some (.lst (ds.map V.ref))∧ds.length=i∧∀ (j:Nat) d r,ds[j]?=some d->rs[j]?=some r->d≠D∧Rs H' d r) ⟨none,[],rfl,Same.new _ fD,qc,rfl,fun j d r e=>nomatch e⟩ (fun i σ H' _ ⟨_,_,_,S,_⟩=>SqL.of (S _ _ hs)) ?_ ?_
   · rintro i z σ H1 hz ⟨c0,ds,rfl,S,hD,ld,hds⟩;obtain⟨q,hq,rfl⟩:=zh hz;have il:=(List.getElem?_eq_some_iff.mp hq).1;have hW:=List.getElem?_eq_getElem (l:=Ws) (i:=i) (by omega);have hr':=List.getElem?_eq_getElem (l:=rs) (i:=i) (by omega);obtain⟨sd,lw⟩:=fs.ok _ (List.mem_of_getElem? hW);obtain⟨can,mem⟩:=ok i _ _ hr' hW;refine⟨_,rfl,q,_,rfl,(hR i q _ hq hW).same S,sd,lw,fun d r H2 fd S2 R2 c2 l2 m2=>?_⟩;have er:r=rs[i]:=qaR c2 can fun n=>(m2 n).trans (mem n).symm;rw[er]at R2;have dne:d≠D:=fun z=>by rw[z,hD]at fd;cases fd
     refine⟨_,S2 _ _ hD,qw (by rw[List.length_map];omega),_,ds++[d],rfl,(S.trans S2).put fD _,by rw[qc,List.map_append];rfl,by rw[List.length_append,ld];rfl,fun j d' r' h1 h2=>?_⟩;by_cases lt:j < ds.length
     · rw[List.getElem?_append_left lt]at h1;obtain⟨n1,zz,h3,h4⟩:=hds j d' r' h1 h2;exact⟨n1,zz,by rw[qh n1];exact S2 _ _ h3,(h4.same S2).put (S2 _ _ hD)⟩
     · have ej:j=ds.length:=by
         have:=(List.getElem?_eq_some_iff.mp h1).1
         rw[List.length_append]at this;simp only[List.length_cons,List.length_nil]at this;omega
       subst ej;rw[List.getElem?_append_right (Nat.le_refl _),Nat.sub_self]at h1;cases h1;rw[ld,hr']at h2;cases h2;obtain⟨zz,h3,h4⟩:=R2;exact⟨dne,zz,by rw[qh dne];exact h3,h4.put (S2 _ _ hD)⟩
   rintro σ A1 ⟨c0,ds,rfl,s1,hD,ld,hds⟩;rw[List.length_map]at ld;obtain⟨dx,hx⟩:=FA;(try unfold qF);(try dsimp only);refine⟨_,rfl,x,dx,_,rfl,s1 _ _ hx,qgn _ _ (by decide +kernel) (by decide +kernel),x,k,kb,bs,rfl,⟨dx,s1 _ _ hx⟩,s1 _ _ hkb,fun fb ffb=>?_⟩;generalize hG:upd A1 fb _=A2;obtain⟨s2,e2⟩:=qt hG ffb;clear hG;have S2:=s1.trans s2;have b101:=fr.b;refine⟨_,rfl,.inr (.inl ⟨_,_,rfl,qgK (g:=fun b:B3=>[(b.1:Int),(b.2.1:Int),b.2.2]) e2 (S2 _ _ hb) (tbs.same S2) (tb.same S2) (fun _=>Nat.le_of_ble_eq_true rfl) (by omega),fun A3 s3=>?_⟩)⟩;have S3:=S2.trans s3;refine⟨true,rfl,Jc rfl ?_⟩;refine⟨_,rfl,x,dx,_,rfl,S3 _ _ hx,qgn _ _ (by decide +kernel) (by decide +kernel),x,k,kb,rs',zss,rfl,⟨dx,S3 _ _ hx⟩,LLk.same S3,by rw[LLk.len,lz];omega,fun d2 ts2 A4 fd2 fts s4 LL2=>?_⟩;have S4:=S3.trans s4;have hD4:=(s2.trans (s3.trans s4)) _ _ hD;refine⟨_,rfl,.inl ⟨_,_,rfl,.inr ⟨false,d2,D,_,_,rfl,rfl,LL2.at_,hD4,by rw[List.length_map,List.length_map,LL2.len,lz];omega,by rw[List.length_map,LL2.len,lz];omega,fun i u v h1 h2=>?_⟩,fun A5 s5=>kk A5 (S4.trans s5)⟩⟩;obtain⟨q1,hq1,rfl⟩:=zh h1;obtain⟨q2,hq2,rfl⟩:=zh h2;have i2:=(List.getElem?_eq_some_iff.mp hq2).1;have hr':=List.getElem?_eq_getElem (l:=rs) (i:=i) (by omega);have hz':=List.getElem?_eq_getElem (l:=zss) (i:=i) (by omega);have hq1':=LL2.each i q1 _ hq1 hz';obtain⟨_,zz,h3,h4⟩:=hds i q2 _ hq2 hr';have s14:=s2.trans (s3.trans s4);exact qgK (g:=g2) hq1' (s14 _ _ h3) ((tz i _ _ hz' hr').same S4) (h4.same s14) (fun _=>Nat.le_of_ble_eq_true rfl) (fr.m _ (List.mem_of_getElem? hr'))
end
def subG (g k:Nat):Nat:=if g < k then k - 1 else k
def qgN (g:Nat) (b:B3):Bool:=!decide (b.1=g) && !decide (b.2.1=g)
def wob (g:Nat) (B:List B3):List B3:=(B.filter (qgN g)).map fun b=>(subG g b.1,subG g b.2.1,b.2.2)
inductive jz (vs:List V) (H:Hp) (Q:VK):Prop
 | mk (q:Addr) (zs:List V) (B:List B3) (g:Nat) (h1:vs=[.ref q,.int (g:Int)]) (h2:H q=some (.lst zs)) (h3:TupL tr H zs B) (h4:B.length≤101) (h5:∀ (d:Addr) (ws:List V) (H':Hp),H d=none->Same H H'->H' d=some (.lst ws)->TupL tr H' ws (wob g B)->Q (.ref d) H'):jz vs H Q
def J4:Sp:=fun vs H Q _=>jz vs H Q
theorem qdW (g k:Nat):(k:Int) - (if decide ((k:Int) > (g:Int))=true then (1:Int) else 0)=((subG g k:Nat):Int):=by
 unfold subG;by_cases c:g < k
 · rw[if_pos (decide_eq_true (by omega)),if_pos c];omega
 · rw[if_neg (by rw[decide_eq_false (by omega)];decide),if_neg c];omega
theorem qf3 (i j:Nat):decide (V.int (i:Int)=V.int (j:Int))=decide (i=j):=by rw[qdI];exact decide_eq_decide.mpr ⟨fun h=>by omega,fun h=>by omega⟩
abbrev Dr:=Addr×Str×Addr×Kd×List (Int×Int)×Int
abbrev esD (ds:List Dr):Es:=ds.map fun d=>(d.2.1,d.2.2.1,d.2.2.2.1)
structure El (a:Ad) (H:Hp) (ts:Pls) (el:Addr) (ds:List Dr):Prop where
 at_:H el=some (.lst (ds.map fun d=>V.ref d.1))
 dn:∀ d∈ds,Dn a H ts d.1 d.2.1 d.2.2.1 d.2.2.2.1 d.2.2.2.2.1 d.2.2.2.2.2
 nd:(ds.map (·.2.1)).Nodup
 nm:∀ d∈ds,QZ (.str d.2.1)=true
 n8:ds.length≤8
theorem El.same {a:Ad}{H H':Hp}{ts:Pls}{el:Addr}{ds:List Dr} (h:El a H ts el ds) (s:Same H H'):El a H' ts el ds:=⟨s _ _ h.at_,fun d m=>(h.dn d m).same s,h.nd,h.nm,h.n8⟩
abbrev key (t:Str×Addr×List (Int×Int)):Str×List (Int×Int):=(t.1,t.2.2)
theorem qdr {us ts:Pls} (e:us.map key=ts.map key) (pl:Str) (lo hi n:Int):Sh us pl lo hi n↔Sh ts pl lo hi n:=by
 have one:∀ {us ts:Pls},us.map key=ts.map key->Sh us pl lo hi n->Sh ts pl lo hi n:=fun {us ts} e ⟨t,m,e1,h⟩=>by
   have:key t∈ts.map key:=by rw[← e];exact List.mem_map.mpr ⟨t,m,rfl⟩
   obtain⟨u,mu,eu⟩:=List.mem_map.mp this;injection eu with e2 e3;exact⟨u,mu,by rw[e2];exact e1,by rw[e3];exact h⟩
 exact⟨one e,one e.symm⟩
theorem qaD {us ts:Pls} (e:us.map key=ts.map key) (kd:Kd) (n:Int):MK us kd n↔MK ts kd n:=by
 cases kd with
 | bt pl lo hi=>exact qdr e pl lo hi n
 | rd pl m=>exact qdr e pl m m n
 | jn pl lo hi l h=>exact and_congr Iff.rfl (and_congr (qdr e pl lo hi n) Iff.rfl)
 | _=>exact Iff.rfl
theorem jV {us ts:Pls} (e:us.map key=ts.map key):us.map (·.1)=ts.map (·.1):=by
 have:=congrArg (List.map (·.1)) e
 rw[List.map_map,List.map_map]at this;exact this
theorem Tb.butD {a:Ad}{H H':Hp}{x q:Addr}{rows:List (Int×Int)}{kv:List (Key×V)} (h:Tb a H x rows) (b:But q H H') (hq:H q=some (.dK kv)):Tb a H' x rows:=by
 obtain⟨k,dx,zs,h1,h2,h3⟩:=h
 exact⟨k,dx,zs,b _ _ h1 (zN h1 hq fun z=>nomatch z),b _ _ h2 (zN h2 hq fun z=>nomatch z),h3.1,fun j z y e1 e2=>by
   obtain⟨t,et,ht⟩:=h3.2 j z y e1 e2
   exact⟨t,et,b _ _ ht (zN ht hq fun z=>nomatch z)⟩⟩
theorem Tb.butB {a:Ad}{H H':Hp}{x q:Addr}{rows:List (Int×Int)}{zs:List V}{bs:List (Str×Str×Int)} (h:Tb a H x rows) (g:Good rows) (b:But q H H') (hq:H q=some (.lst zs)) (tb:TupL prB H zs bs):Tb a H' x rows:=by
 obtain⟨k,dx,ks,h1,h2,h3⟩:=h
 have nk:k≠q:=fun z=>by
   rw[z,hq]at h2;cases h2;have p0:=jX g;obtain⟨t,hz,ht⟩:=h3.at_ (i:=0) (List.getElem?_eq_getElem p0);obtain⟨p,u,hp,eu,hu⟩:=tb.of hz;cases eu;rw[ht]at hu;cases hu
 exact⟨k,dx,ks,b _ _ h1 (zN h1 hq fun z=>nomatch z),b _ _ h2 nk,h3.1,fun j z y e1 e2=>by
   obtain⟨t,et,ht⟩:=h3.2 j z y e1 e2
   exact⟨t,et,b _ _ ht (zN ht hq fun z=>nomatch z)⟩⟩
theorem TupL.butB {β:Type}{f:β->List V}{H H':Hp}{q:Addr}{zs:List V}{xs:List β}{o:HO} (h:TupL f H zs xs) (b:But q H H') (hq:H q=some o) (n:∀ ys,o≠.tup ys):TupL f H' zs xs:=⟨h.1,fun j z y e1 e2=>by
 obtain⟨t,et,ht⟩:=h.2 j z y e1 e2
 exact⟨t,et,b _ _ ht (zN ht hq fun z=>n _ z.symm)⟩⟩
structure Lg (a:Ad) (H:Hp) (x td ed bl:Addr) (us:Pls) (es:Es) (zs:List V) (B:List B3):Prop where
 lo:Lo a H x td ed bl (tv us) (ev es) zs
 tt:∀ u∈us,Tb a H u.2.1 u.2.2
 tg:∀ u∈us,Good u.2.2
 tb:TupL prB H zs (B.map (nmB (es.map (·.1))))
theorem Lg.sm {a:Ad}{H H':Hp}{x td ed bl:Addr}{us:Pls}{es:Es}{zs:List V}{B:List B3} (h:Lg a H x td ed bl us es zs B) (s:Same H H'):Lg a H' x td ed bl us es zs B:=⟨h.lo.sm s,fun u m=>(h.tt u m).sm s,h.tg,h.tb.same s⟩
def BOk (n:Nat) (B:List B3):Prop:=B.length≤60∧∀ b∈B,b.1 < n∧b.2.1 < n∧-2000000000≤b.2.2∧b.2.2≤2000000001
inductive qcn (a:Ad) (vs:List V) (H:Hp) (Q:VK):Prop
 | mk (tl el bq:Addr) (ts:Pls) (ds:List Dr) (zb:List V) (B:List B3) (h1:vs=[.ref tl,.ref el,.ref bq]) (h2:LT H tl ts) (h3:El a H ts el ds) (h4:H bq=some (.lst zb)) (h5:TupL tr H zb B) (h6:BOk ds.length B) (h7:∀ (x td ed bl:Addr) (us:Pls) (zs:List V) (H':Hp),H x=none->H td=none->H ed=none->H bl=none->Same H H'->Lg a H' x td ed bl us (esD ds) zs B->us.map key=ts.map key->Q (.ref x) H'):qcn a vs H Q
def qfu (a:Ad):Sp:=fun vs H Q _=>qcn a vs H Q
section
variable {P:Program}{w:World}{K:Frag}{mg:Str->Option Value}{base:Heap}
theorem qdA {a:Ad} (T:Txt K mg a):FnOk P w K mg base CX0 1 a.f_Z a.fd_Z ["_law_bonds","_law_gone"] J4:=by
 refine T.d_Z.F.ok sc_Lwithout (fun vs H Q E h=>?_) (fun cdv A outer s H vs Q E hr h=>?_)
 · obtain⟨q,zs,B,g,rfl,hq,tz,few,kk⟩:=h;rfl
 · obtain⟨q,zs,B,g,rfl,hq,tz,few,kk⟩:=h;have hU:=hr.units
   refine⟨_,(qd (qz (i:=2) sc_Lwithout.nd rfl (Or.inl rfl) (qT qb))
     (qd (zP PassesOwn.never rfl (qX (pv 0)) (zK rfl (qr (qq (i:=3) (sc_Lwithout.nd) rfl (Or.inl rfl)) (qr (qq (i:=4) (sc_Lwithout.nd) rfl (Or.inl rfl)) (qr (qq (i:=5) (sc_Lwithout.nd) rfl (Or.inl rfl)) zg))))
       (qf (qS (PW.pt (ZD (qu (uNe hU) (pv 3) (pv 1) (qC _)) (Qn (qu (uNe hU) (pv 4) (pv 1) (qC _)))))
         (qf (qD (Zk PySem.F.plainAttrs_list PySem.F.slot_list_append PySem.F.type_list_append zc (pv 2) (qa (qQ (qa (qB zu (pv 3) (zC qdc (by rfl) T.n_int ZM (qa (Qo qaw (pv 3) (pv 1) (qC _)) qb))) (qa (qB zu (pv 4) (zC qdc (by rfl) T.n_int ZM (qa (Qo qaw (pv 4) (pv 1) (qC _)) qb))) (qa (pv 5) qb)))) qb))))
         qA)))
     (qf (qE (pv 2))))),?_⟩
   try dsimp only [zw,Cx.nox]
   have lz:=tz.1;refine⟨ql (Nat.le_of_ble_eq_true rfl),fun d fd=>?_⟩;generalize hG:upd H d _=A1;obtain⟨s1,e1⟩:=qt hG fd;clear hG;(try unfold qF);(try dsimp only);refine⟨_,rfl,q,rfl,⟨_,SqL.of (s1 _ _ hq)⟩,zH (K:=K) (a:=q) (xs:=zs) (D:={ nx:=qfn (qe7 2) { nx:=fun _ H'=>Q .non H',rt:=Q },rt:=Q }) (fun i σ H'=>∃ (s3 s4 s5:Option V) (ws:List V),σ=[some (.ref q),some (.int (g:Int)),some (.ref d),s3,s4,s5]∧Same H H'∧H' d=some (.lst ws)∧TupL tr H' ws (wob g (B.take i))) ⟨_,_,_,[],rfl,s1,e1,.nil⟩ (fun j σ H' _ ⟨_,_,_,_,_,S,_⟩=>SqL.of (S _ _ hq)) ?_ ?_⟩
   · rintro i z σ H1 hz ⟨s3,s4,s5,ws,rfl,S,hd,tw⟩;obtain⟨b,t,hb,rfl,ht⟩:=tz.of hz
     have lw:ws.length≤101:=by
       have h1:=tw.1;unfold wob at h1;have h2:=List.length_filter_le (qgN g) (B.take i);rw[List.length_map]at h1;rw[List.length_take]at h2;omega
     have es:wob g (B.take (i+1))=wob g (B.take i)++(if qgN g b=true then [(subG g b.1,subG g b.2.1,b.2.2)] else []):=by
       unfold wob;rw[zM hb,JT,List.map_append];congr 1;split<;>rfl
     refine⟨t,_,rfl,SqT.of (S _ _ ht),rfl,_,_,rfl,_,_,rfl,_,_,rfl,rfl,?_⟩;refine⟨_,rfl,_,rfl,.inl ⟨rfl,_,rfl,?_⟩⟩;rw[qf3];by_cases c1:b.1=g
     · refine q8 (by simp[c1]) (q8 rfl ⟨_,_,_,ws,rfl,S,hd,?_⟩);rw[es,if_neg (by simp[qgN,c1]),List.append_nil];exact tw
     refine Jc (by simp[c1]) ?_;refine⟨_,rfl,_,rfl,.inl ⟨rfl,_,rfl,?_⟩⟩;rw[qf3];by_cases c2:b.2.1=g
     · refine q8 (by simp[c2]) ⟨_,_,_,ws,rfl,S,hd,?_⟩;rw[es,if_neg (by simp[qgN,c2]),List.append_nil];exact tw
     refine Jc (by simp[c2]) ?_;refine⟨_,rfl,.inl ⟨rfl,_,SqL.of hd⟩,_,rfl,_,rfl,_,rfl,_,_,rfl,rfl,.inr ⟨_,rfl,_,_,rfl,rfl,_,rfl,_,rfl,_,rfl,_,_,rfl,rfl,.inr ⟨_,rfl,_,_,rfl,rfl,_,rfl,ql (Nat.le_of_ble_eq_true rfl),fun tt ftt=>?_⟩⟩⟩;generalize hG:upd H1 tt _=A2;obtain⟨s2,e2⟩:=qt hG ftt;clear hG
     have e2:A2 tt=some (.tup (tr (subG g b.1,subG g b.2.1,b.2.2))):=by
       rw[e2];show some (HO.tup [V.int ((b.1:Int) - (if decide ((b.1:Int) > (g:Int))=true then (1:Int) else 0)),V.int ((b.2.1:Int) - (if decide ((b.2.1:Int) > (g:Int))=true then (1:Int) else 0)),V.int b.2.2])=_;rw[qdW,qdW]
     refine⟨d,_,_,rfl,rfl,s2 _ _ hd,qw (by omega),?_⟩;refine⟨_,_,_,ws++[.ref tt],rfl,(S.trans s2).put fd _,qc,?_⟩;rw[es,if_pos (by simp[qgN,c1,c2])];exact((tw.same s2).snoc e2).put (s2 _ _ hd)
   · rintro σ H1 ⟨s3,s4,s5,ws,rfl,S,hd,tw⟩;rw[lz,List.take_length]at tw;exact⟨_,rfl,kk d ws H1 fd S hd tw⟩
end
theorem qjs {a:Ad}{H:Hp}{ts:Pls}{el:Addr}{ds:List Dr} (h:El a H ts el ds) {K:Frag}{mg:Str->Option Value} (T:Txt K mg a) {j:Nat} (hj:j < ds.length):∃ (tt y fo C dx:Addr) (fs:List (Str×V)) (he:Int),atI (ds.map fun d=>V.ref d.1) (j:Int)=some (.ref tt)∧H tt=some (.tup [.ref y,.ref fo,.int he])∧H y=some (.ins C dx fs)∧Cls K C∧NoAttr K C "name"∧fs.lookup ("name":Str)=some (V.str ((ds.map (·.2.1)).getD j ("":Str))):=by
 have m:=List.getElem_mem hj
 cases h.dn _ m with
 | mk e1 e2 _ _ _ _ _ =>
   obtain⟨C,dx,fs,h1,_,_,h2,h3,h4⟩:=qiw T e2;refine⟨_,_,_,C,dx,fs,_,zA (by rw[List.getElem?_map,List.getElem?_eq_getElem hj];rfl),e1,h1,h2,h3,?_⟩;rw[h4,List.getD_eq_getElem?_getD,List.getElem?_map,List.getElem?_eq_getElem hj];rfl
theorem ZI (ds:List Dr):(esD ds).map (·.1)=ds.map (·.2.1):=by rw[List.map_map];rfl
section
variable {P:Program}{w:World}{K:Frag}{mg:Str->Option Value}{base:Heap}
theorem qjb {a:Ad} (T:Txt K mg a):FnOk P w K mg base CX0 8 a.f_X a.fd_X ["_law_tables","_law_entries","_law_bonds"] (qfu a):=by
 have G_ab:=qdB (P:=P) (w:=w) (base:=base) T;have G_t:=JF (P:=P) (w:=w) (base:=base) T;have G_u:=qbz (P:=P) (w:=w) (base:=base) T;have G_B:=qaA (P:=P) (w:=w) (base:=base) T;have G_z:=jU (P:=P) (w:=w) (base:=base) T;refine T.d_X.F.ok sc_Llog (fun vs H Q E h=>?_) (fun cdv A outer s H vs Q E hr h=>?_)
 · obtain⟨tl,el,bq,ts,ds,zb,B,rfl,lt,hE,hb,tb,bok,kk⟩:=h;rfl
 · obtain⟨tl,el,bq,ts,ds,zb,B,rfl,lt,hE,hb,tb,bok,kk⟩:=h;have h_ab:Room (1+1) _:=hr.mono (by decide);have h_t:Room (2) _:=hr.mono (by decide);have h_u:Room (3) _:=hr.mono (by decide);have h_B:Room (4) _:=hr.mono (by decide);have h_z:Room (6+1) _:=hr.mono (by decide)
   refine⟨_,(qd (qz (i:=3) sc_Llog.nd rfl (Or.inl rfl) (qhb T.M_Log G_ab h_ab rfl T.g_Log T.d_ab.b .nil qm))
     (qd (zP PassesOwn.never rfl (qX (pv 0)) (zK rfl (qr (qq (i:=4) (sc_Llog.nd) rfl (Or.inl rfl)) (qr (qq (i:=5) (sc_Llog.nd) rfl (Or.inl rfl)) zg)))
       (qf (qD (qL (pv 3) T.cl_Log T.d_t.mt G_t h_t T.d_t.b .nil qm (qa (pv 4) (qa (zL T.M_Table G_z h_z rfl T.g_Table T.d_z.b .nil qm (qa (zC (r:=qg4 K) zl (by rfl) T.n_list qR (qa (pv 5) qb)) qb)) qb))))))
     (qd (zP PassesOwn.never rfl (qX (pv 1)) (zK rfl (qr (qq (i:=6) (sc_Llog.nd) rfl (Or.inl rfl)) (qr (qq (i:=7) (sc_Llog.nd) rfl (Or.inl rfl)) (qr (qq (i:=8) (sc_Llog.nd) rfl (Or.inl rfl)) zg))))
       (qf (qD (qL (pv 3) T.cl_Log T.d_u.mt G_u h_u T.d_u.b .nil qm (qa (pv 6) qb)))))
     (qd (zP PassesOwn.never rfl (qX (pv 2)) (zK rfl (qr (qq (i:=9) (sc_Llog.nd) rfl (Or.inl rfl)) (qr (qq (i:=10) (sc_Llog.nd) rfl (Or.inl rfl)) (qr (qq (i:=11) (sc_Llog.nd) rfl (Or.inl rfl)) zg))))
       (qf (qD (qL (pv 3) T.cl_Log T.d_B.mt G_B h_B T.d_B.b .nil qm (qa (qN (qI (r:=rIx K) qx (qI (r:=rIx K) qx (pv 1) (pv 9) (fun _ _=>rfl)) qe (fun _ _=>rfl)) rfl) (qa (qN (qI (r:=rIx K) qx (qI (r:=rIx K) qx (pv 1) (pv 10) (fun _ _=>rfl)) qe (fun _ _=>rfl)) rfl) (qa (pv 11) qb)))))))
     (qf (qE (pv 3))))))),?_⟩
   try dsimp only [zw,Cx.nox]
   obtain⟨zt,htl,tzt⟩:=lt.ex;have lzt:=tzt.1;have n3:=lt.n3;have n8:=hE.n8;refine fun x dx fx fdx nex=>⟨x,dx,rfl,qc,fun td ed bl G5 B5 ftd fed fbl L5=>⟨rfl,?_⟩⟩
   have S0:Same H G5:=qW fx fdx B5
   have upf0:∀ b,(upd (upd H dx (.own x)) x (.ins a.c_Log dx [])) b=none->H b=none:=fun b h=>by
     cases e:H b with
     | none=>rfl
     | some o=>rw[up2 fx fdx _ _ e]at h;cases h
   have ftd:=upf0 _ ftd;have fed:=upf0 _ fed;have fbl:=upf0 _ fbl;(try unfold qF);(try dsimp only);refine q9 (t:=qiL _ _ _) (fun σ' H'=>∃ (s4 s5 s6 s7 s8 s9 s10 s11:Option V) (us:Pls),σ'=[some (.ref tl),some (.ref el),some (.ref bq),some (.ref x),s4,s5,s6,s7,s8,s9,s10,s11]∧Same H H'∧Lg a H' x td ed bl us [] [] []∧us.map key=ts.map key) (fun N hN=>?_) ?_
   · refine⟨_,rfl,tl,rfl,⟨_,SqL.of (S0 _ _ htl)⟩,zH (D:={ nx:=N,rt:=Q }) (K:=K) (a:=tl) (xs:=zt) (fun i σ H'=>∃ (s4 s5 s6 s7 s8 s9 s10 s11:Option V) (us:Pls),σ=[some (.ref tl),some (.ref el),some (.ref bq),some (.ref x),s4,s5,s6,s7,s8,s9,s10,s11]∧Same H H'∧Lg a H' x td ed bl us [] [] []∧us.map key=(ts.take i).map key) ⟨_,_,_,_,_,_,_,_,[],rfl,S0,⟨L5,(fun u m=>nomatch m),(fun u m=>nomatch m),.nil⟩,rfl⟩ (fun j σ H' _ ⟨_,_,_,_,_,_,_,_,_,_,S,_⟩=>SqL.of (S _ _ htl)) ?_ ?_⟩
     · rintro i z σ H1 hz ⟨s4,s5,s6,s7,s8,s9,s10,s11,us,rfl,S,lg,ek⟩;obtain⟨t,tt,ht',rfl,htt⟩:=tzt.of hz;have mt:=List.mem_of_getElem? ht';have il:=(List.getElem?_eq_some_iff.mp ht').1;obtain⟨⟨kz,hkz,tkz⟩,good⟩:=lt.rk t mt
       have lus:us.length=i:=by
         have:=congrArg List.length ek
         rw[List.length_map,List.length_map,List.length_take]at this;omega
       have kn:us.map (·.1)=(ts.take i).map (·.1):=jV ek
       have nin:t.1∉(tv us).map (·.1):=by
         rw[zU,kn];intro m;rw[List.map_take]at m;obtain⟨j,hj⟩:=List.getElem?_of_mem m;have jl:=(List.getElem?_eq_some_iff.mp hj).1;rw[List.length_take]at jl;rw[List.getElem?_take_of_lt (by omega)]at hj;exact qji lt.nd hj (by rw[List.getElem?_map,ht'];rfl) (by omega) rfl
       obtain⟨dx',hx'⟩:=lg.lo.hx;refine⟨tt,_,rfl,SqT.of (S _ _ htt),rfl,_,_,rfl,_,_,rfl,rfl,?_⟩;refine⟨_,rfl,x,dx',_,rfl,hx',rfl,_,rfl,_,rfl,t.2.1,_,rfl,.inl (SqL.of (S _ _ hkz)),fun q fq=>?_⟩;generalize hG:upd H1 q _=A1;obtain⟨u1,e1⟩:=qt hG fq;clear hG;refine fun y dy fy fdy ney=>⟨y,dy,q,t.2.2,rfl,qc,Rs.same ⟨kz,e1,(tkz.same S).same u1⟩ (up2 fy fdy),good,fun A2 BY tby=>⟨rfl,?_⟩⟩
       have SA:=u1.trans (qW fy fdy BY);have lgA:=lg.sm SA;refine⟨x,td,ed,bl,tv us,[],[],t.1,.ref y,rfl,lgA.lo,lt.nm t mt,.inl ⟨nin,by rw[List.length_map];omega,fun A3 BT L3=>?_⟩⟩;refine⟨_,_,_,_,_,_,_,_,us++[(t.1,y,t.2.2)],rfl,fun b o e=>BT _ _ ((S.trans SA) _ _ e) (qi e ftd),⟨?_,fun u m=>?_,fun u m=>?_,.nil⟩,?_⟩
       · have:tv (us++[(t.1,y,t.2.2)])=tv us++[(t.1,V.ref y)]:=List.map_append
         rw[this];exact L3
       · rcases List.mem_append.mp m with m|m
         · exact(lgA.tt u m).butD BT lgA.lo.ht
         · rw[List.mem_singleton.mp m];exact tby.butD BT lgA.lo.ht
       · rcases List.mem_append.mp m with m|m
         · exact lg.tg u m
         · rw[List.mem_singleton.mp m];exact good
       · rw[List.map_append,ek,zM ht',List.map_append];rfl
     · rintro σ H1 ⟨s4,s5,s6,s7,s8,s9,s10,s11,us,rfl,S,lg,ek⟩;rw[lzt,List.take_length]at ek;exact hN _ _ ⟨_,_,_,_,_,_,_,_,us,rfl,S,lg,ek⟩
   rintro _ H1 ⟨s4,s5,s6,s7,s8,s9,s10,s11,us,rfl,S1,lg1,ek⟩;have kn:us.map (·.1)=ts.map (·.1):=jV ek;clear L5 B5;(try unfold qF);(try dsimp only);refine q9 (t:=qiL _ _ _) (fun σ' H'=>∃ (s4 s5 s6 s7 s8 s9 s10 s11:Option V),σ'=[some (.ref tl),some (.ref el),some (.ref bq),some (.ref x),s4,s5,s6,s7,s8,s9,s10,s11]∧Same H H'∧Lg a H' x td ed bl us (esD ds) [] []) (fun N hN=>?_) ?_
   · refine⟨_,rfl,el,rfl,⟨_,SqL.of (S1 _ _ hE.at_)⟩,zH (D:={ nx:=N,rt:=Q }) (K:=K) (a:=el) (xs:=ds.map fun d=>V.ref d.1) (fun i σ H'=>∃ (s4 s5 s6 s7 s8 s9 s10 s11:Option V),σ=[some (.ref tl),some (.ref el),some (.ref bq),some (.ref x),s4,s5,s6,s7,s8,s9,s10,s11]∧Same H H'∧Lg a H' x td ed bl us (esD (ds.take i)) [] []) ⟨_,_,_,_,_,_,_,_,rfl,S1,lg1⟩ (fun j σ H' _ ⟨_,_,_,_,_,_,_,_,_,S,_⟩=>SqL.of (S _ _ hE.at_)) ?_ ?_⟩
     · rintro i z σ H2 hz ⟨s4,s5,s6,s7,s8,s9,s10,s11,rfl,S,lg⟩;obtain⟨d,hd,rfl⟩:=zh hz;have md:=List.mem_of_getElem? hd;have il:=(List.getElem?_eq_some_iff.mp hd).1;obtain⟨dx',hx'⟩:=lg.lo.hx;have dn:=hE.dn d md
       cases dn with
       | mk e1 e2 e3 _ _ _ pls =>
       refine⟨d.1,_,rfl,SqT.of (S _ _ e1),rfl,_,_,rfl,_,_,rfl,_,_,rfl,rfl,?_⟩
       have nin:d.2.1∉(ev (esD (ds.take i))).map (·.1):=by
         rw[jp,ZI,List.map_take];intro m;obtain⟨j,hj⟩:=List.getElem?_of_mem m;have jl:=(List.getElem?_eq_some_iff.mp hj).1;rw[List.length_take]at jl;rw[List.getElem?_take_of_lt (by omega)]at hj;exact qji hE.nd hj (by rw[List.getElem?_map,hd];rfl) (by omega) rfl
       refine⟨_,rfl,x,dx',_,rfl,hx',rfl,_,rfl,x,td,ed,bl,tv us,ev (esD (ds.take i)),[],d.2.2.1,d.2.1,d.2.2.2.1,rfl,lg.lo,e2.same S,(fun s m=>by rw[zU,kn];exact pls s m),nin,by rw[List.length_map,List.length_map,List.length_take];omega,fun A1 BE L1=>?_⟩;refine⟨_,_,_,_,_,_,_,_,rfl,fun b o e=>BE _ _ (S _ _ e) (qi e fed),⟨?_,fun u m=>(lg.tt u m).butD BE lg.lo.he,lg.tg,.nil⟩⟩
       have:ev (esD (ds.take (i+1)))=ev (esD (ds.take i))++[(d.2.1,V.ref d.2.2.1)]:=by rw[zM hd];unfold esD ev;rw[List.map_append,List.map_append];rfl
       rw[this];exact L1
     · rintro σ H2 ⟨s4,s5,s6,s7,s8,s9,s10,s11,rfl,S,lg⟩;rw[List.length_map,List.take_length]at lg;exact hN _ _ ⟨_,_,_,_,_,_,_,_,rfl,S,lg⟩
   rintro _ H2 ⟨s4,s5,s6,s7,s8,s9,s10,s11,rfl,S2,lg2⟩;(try unfold qF);(try dsimp only);refine⟨_,rfl,bq,rfl,⟨_,SqL.of (S2 _ _ hb)⟩,zH (D:={ nx:=qfn (qe7 3) { nx:=fun _ H'=>Q .non H',rt:=Q },rt:=Q }) (K:=K) (a:=bq) (xs:=zb) (fun i σ H'=>∃ (s4 s5 s6 s7 s8 s9 s10 s11:Option V) (zs:List V),σ=[some (.ref tl),some (.ref el),some (.ref bq),some (.ref x),s4,s5,s6,s7,s8,s9,s10,s11]∧Same H H'∧Lg a H' x td ed bl us (esD ds) zs (B.take i)) ⟨_,_,_,_,_,_,_,_,[],rfl,S2,lg2⟩ (fun j σ H' _ ⟨_,_,_,_,_,_,_,_,_,_,S,_⟩=>SqL.of (S _ _ hb)) ?_ ?_⟩
   · rintro i z σ H3 hz ⟨s4,s5,s6,s7,s8,s9,s10,s11,zs,rfl,S,lg⟩;obtain⟨b,tt,hbb,rfl,htt⟩:=tb.of hz;have il:=(List.getElem?_eq_some_iff.mp hbb).1;obtain⟨o1,o2,o3,o4⟩:=bok.2 b (List.mem_of_getElem? hbb);have b60:=bok.1;obtain⟨dx',hx'⟩:=lg.lo.hx;have hE3:=hE.same S;have hel:=hE3.at_;have lzs:zs.length=i:=by have:=lg.tb.1;rw[List.length_map,List.length_take]at this;omega
     obtain⟨t1,y1,f1,C1,dx1,fs1,he1,a1,c1,g1,k1,n1,l1⟩:=qjs hE3 T o1;obtain⟨t2,y2,f2,C2,dx2,fs2,he2,a2,c2,g2',k2,n2,l2⟩:=qjs hE3 T o2;have mem:∀ j,j < ds.length->∃ e∈ev (esD ds),e.1=(ds.map (·.2.1)).getD j ("":Str):=fun j hj=>⟨(ds[j].2.1,V.ref ds[j].2.2.1),List.mem_map.mpr ⟨_,List.mem_map.mpr ⟨_,List.getElem_mem hj,rfl⟩,rfl⟩,by rw[List.getD_eq_getElem?_getD,List.getElem?_map,List.getElem?_eq_getElem hj];rfl⟩
     obtain⟨v1,m1,q1⟩:=mem b.1 o1;obtain⟨v2,m2,q2⟩:=mem b.2.1 o2;rw[← q1]at l1;rw[← q2]at l2;refine⟨tt,_,rfl,SqT.of (S _ _ htt),rfl,_,_,rfl,_,_,rfl,_,_,rfl,rfl,?_⟩;refine⟨_,rfl,x,dx',_,rfl,hx',rfl,_,rfl,_,rfl,.inl ⟨el,_,_,_,rfl,rfl,SqL.of hel,a1,.inr (.inl ⟨_,_,_,_,rfl,rfl,SqT.of c1,rfl,y1,C1,dx1,fs1,_,rfl,g1,k1,n1,l1,_,rfl,_,rfl,.inl ⟨el,_,_,_,rfl,rfl,SqL.of hel,a2,.inr (.inl ⟨_,_,_,_,rfl,rfl,SqT.of c2,rfl,y2,C2,dx2,fs2,_,rfl,g2',k2,n2,l2,_,rfl,x,td,ed,bl,tv us,ev (esD ds),zs,v1,v2,b.2.2,rfl,lg.lo,m1,m2,o3,o4,by omega,fun t v A1 ft BB et L1=>?_⟩)⟩⟩)⟩⟩;have nb:=lg.lo.hb;refine⟨_,_,_,_,_,_,_,_,zs++[.ref t],rfl,fun c o e=>BB _ _ (S _ _ e) (qi e fbl),⟨L1,fun u m=>(lg.tt u m).butB (lg.tg u m) BB nb lg.tb,lg.tg,?_⟩⟩;rw[zM hbb,List.map_append];refine(TupL.butB lg.tb BB nb (fun _ z=>nomatch z)).snoc ?_;rw[et,q1,q2];unfold nmB;rw[ZI]
   · rintro σ H3 ⟨s4,s5,s6,s7,s8,s9,s10,s11,zs,rfl,S,lg⟩;rw[tb.1,List.take_length]at lg;exact⟨_,rfl,kk x td ed bl us zs H3 fx ftd fed fbl S lg ek⟩
end
theorem TbD.keep {a:Ad}{H H':Hp} (h:TbD a H) (k:∀ b o,H b=some o->(∀ xs,o≠.lst xs)->(∀ C d fs,o≠.ins C d fs)->(∀ kv,o≠.dK kv)->H' b=some o):TbD a H':=by
 obtain⟨ps,h1,h2,h3⟩:=h;refine⟨ps,k _ _ h1 (fun _ z=>nomatch z) (fun _ _ _ z=>nomatch z) (fun _ z=>nomatch z),h2,?_⟩;rcases h3 with h3|⟨c,h3,h4⟩
 · exact .inl h3
 · exact .inr ⟨c,h3,k _ _ h4 (fun _ z=>nomatch z) (fun _ _ _ z=>nomatch z) (fun _ z=>nomatch z)⟩
theorem TbD.butL {a:Ad}{H H':Hp}{q:Addr}{xs:List V} (h:TbD a H) (b:But q H H') (hq:H q=some (.lst xs)):TbD a H':=h.keep fun c o e n _ _=>b c o e (zN e hq (n _))
def Cs (S:List Addr) (H:Hp):Prop:=∀ b∈S,(∃ xs,H b=some (.lst xs))∨∃ ps,H b=some (.tbl ps)
theorem Cs.no {S:List Addr}{H:Hp} (h:Cs S H) {b:Addr} (e:H b=none):b∉S:=fun m=>by
 rcases h b m with ⟨_,z⟩|⟨_,z⟩<;>(rw[z]at e;cases e)
theorem Cs.out {S:List Addr}{H:Hp} (h:Cs S H) {b:Addr}{o:HO} (e:H b=some o) (n1:∀ xs,o≠.lst xs) (n2:∀ ps,o≠.tbl ps):cut H S b=some o:=by
 rw[qH fun m=>?_]
 · exact e
 · rcases h b m with ⟨_,z⟩|⟨_,z⟩
   · rw[z]at e;injection e with e;exact n1 _ e.symm
   · rw[z]at e;injection e with e;exact n2 _ e.symm
theorem qiA {a:Ad}{H:Hp}{p:Addr} (h1:PoolAt H p) (h2:TbD a H):Cs [p,a.t_Lentry] H:=fun b m=>by
 rcases List.mem_cons.mp m with rfl|m
 · obtain⟨_,_,_,e⟩:=h1;exact .inl ⟨_,e⟩
 · rw[List.mem_singleton.mp m];obtain⟨_,e⟩:=h2.tb;exact .inr ⟨_,e⟩
theorem ZR {a:Ad}{H:Hp}{p l:Addr}{xs:List V} (h1:PoolAt H p) (h2:TbD a H) (h3:H l=some (.lst xs)):Cs [l,p,a.t_Lentry] H:=fun b m=>by
 rcases List.mem_cons.mp m with rfl|m
 · exact .inl ⟨_,h3⟩
 · exact qiA h1 h2 b m
theorem ZJ {S:List Addr}{H H':Hp} (k:∀ b o,H b=some o->b∉S->H' b=some o):Same (cut H S) (cut H' S):=fun b o e=>by
 by_cases m:b∈S
 · rw[qy m]at e;cases e
 · rw[qH m]at e ⊢;exact k b o e m
theorem qdN {S S':List Addr}{H:Hp} (k:∀ b∈S',b∈S):Same (cut H S) (cut H S'):=fun b o e=>by
 by_cases m:b∈S
 · rw[qy m]at e;cases e
 · rw[qH m]at e;rw[qH fun z=>m (k b z)];exact e
theorem Q8 {S:List Addr}{H:Hp}{b:Addr} (e:H b=none):cut H S b=none:=by
 by_cases m:b∈S
 · exact qy m
 · rw[qH m];exact e
theorem qjW {K:Frag}{S:List Addr}{H:Hp}{sa:Addr}{xs:List V} (h:SqL K H sa xs) (n:∀ b∈S,∃ ps,H b=some (.tbl ps)):SqL K (cut H S) sa xs:=by
 rcases h with h|h
 · refine .inl ?_;rcases h with h|⟨o,h⟩
   · refine .inl ?_;rw[qH fun m=>?_]
     · exact h
     · obtain⟨_,z⟩:=n _ m;rw[z]at h;cases h
   · refine .inr ⟨o,?_⟩;rw[qH fun m=>?_]
     · exact h
     · obtain⟨_,z⟩:=n _ m;rw[z]at h;cases h
 · exact .inr h
theorem TupL.cut {β:Type}{f:β->List V}{S:List Addr}{H:Hp}{zs:List V}{xs:List β} (h:TupL f H zs xs) (c:Cs S H):TupL f (L2.cut H S) zs xs:=⟨h.1,fun j z y e1 e2=>by
 obtain⟨t,et,ht⟩:=h.2 j z y e1 e2
 exact⟨t,et,c.out ht (fun _ z=>nomatch z) (fun _ z=>nomatch z)⟩⟩
theorem qh3 {S:List Addr}{H:Hp}{r:Addr}{W:List (Int×Int)} (h:Rs H r W) (c:Cs S H) (n:r∉S):Rs (cut H S) r W:=by
 obtain⟨zs,h1,h2⟩:=h;exact⟨zs,by rw[qH n];exact h1,TupL.cut h2 c⟩
theorem EnD.cut {a:Ad}{S:List Addr}{H:Hp}{y:Addr}{nm:Str}{kd:Kd} (h:EnD a H y nm kd) (c:Cs S H) (k:∀ l b w C d fs,H l=some (.lst [.ref b,.ref w])->H b=some (.ins C d fs)->l∉S):EnD a (L2.cut H S) y nm kd:=by
 have i:∀ {b:Addr}{C d:Addr}{fs:List (Str×V)},H b=some (.ins C d fs)->L2.cut H S b=some (.ins C d fs):=fun e=>c.out e (fun _ z=>nomatch z) (fun _ z=>nomatch z)
 cases h with
 | any e=>exact .any (i e)
 | wi e=>exact .wi (i e)
 | at_ e=>exact .at_ (i e)
 | bt e h1 h2=>exact .bt (i e) h1 h2
 | rd e h1=>exact .rd (i e) h1
 | jn e e1 e2 e3 h1 h2=>exact .jn (i e) (by rw[qH (k _ _ _ _ _ _ e1 e2)];exact e1) (i e2) (i e3) h1 h2
 | sf e e1 h1 h2 h3 z h4=>exact .sf (i e) (i e1) h1 h2 h3 (Clo.mp z fun b φ e=>c.out e (fun _ z=>nomatch z) (fun _ z=>nomatch z)) h4
theorem qkH {a:Ad}{S:List Addr}{H:Hp}{ts:Pls}{tt fo:Addr}{nm:Str}{y:Addr}{kd:Kd}{W:List (Int×Int)}{he:Int} (h:Dn a H ts tt nm y kd W he) (c:Cs S H) (e:H tt=some (.tup [.ref y,.ref fo,.int he])) (n:fo∉S) (k:∀ l b w C d fs,H l=some (.lst [.ref b,.ref w])->H b=some (.ins C d fs)->l∉S):Dn a (cut H S) ts tt nm y kd W he:=by
 cases h with
 | mk h1 h2 h3 h4 h5 h6 h7 =>
   rw[e]at h1;cases h1;exact .mk (c.out e (fun _ z=>nomatch z) (fun _ z=>nomatch z)) (h2.cut c k) (qh3 h3 c n) h4 h5 h6 h7
abbrev pnm:List Str:=["a","zed","home"]
theorem qka:∀ s∈pnm,QZ (.str s)=true:=by decide +kernel
theorem qkb:pnm.Nodup:=by decide +kernel
inductive qaa (K:Frag) (a:Ad) (vs:List V) (H:Hp) (Q:VK):Prop
 | mk (sa:Addr) (ns:List Int) (h1:vs=[.ref sa,.int 8]) (h2:SqL K H sa (ns.map V.int)) (h3:ns.length≤63) (h4:TbD a H) (h5:∀ (r p tl el bq:Addr) (ts:Pls) (ds:List Dr) (zb:List V) (B:List B3) (E H':Hp),H' r=some (.tup [.ref p,.ref tl,.ref el,.ref bq])->PoolAt H' p->Same E H'->E p=none->LT E tl ts->El a E ts el ds->E bq=some (.lst zb)->TupL tr E zb B->BOk ds.length B->(∀ d∈ds,d.2.1.length≤3)->Q (.ref r) H'):qaa K a vs H Q
def qcp (K:Frag) (a:Ad):Sp:=fun vs H Q _=>qaa K a vs H Q
section
variable {P:Program}{w:World}{K:Frag}{mg:Str->Option Value}{base:Heap}
theorem qfY {a:Ad} (T:Txt K mg a) (hB:qgR mg base):FnOk P w K mg base CX0 10 a.f_W a.fd_W ["_law_script","_law_most"] (qcp K a):=by
 have G_m:=qhi (P:=P) (w:=w) (base:=base) T;have G_a:=ZP (P:=P) (w:=w) (base:=base) T;have G_F:FnOk P w K mg base CX0 9 a.f_F a.fd_F ["_law_pool_here","_law_name_here","_law_tables","_law_base"] (qco a):=qfX T hB;have G_R:=qhh (P:=P) (w:=w) (base:=base) T;have G_U:=qhj (P:=P) (w:=w) (base:=base) T;have G_V:=qhk (P:=P) (w:=w) (base:=base) T;refine T.d_W.F.ok sc_Ldrawn (fun vs H Q E h=>?_) (fun cdv A outer s H vs Q E hr h=>?_)
 · obtain⟨sa,ns,rfl,hS,l63,tb,kk⟩:=h;rfl
 · obtain⟨sa,ns,rfl,hS,l63,tb,kk⟩:=h;have h_m:Room (1) _:=hr.mono (by decide);have h_a:Room (1) _:=hr.mono (by decide);have h_F:Room (9) _:=hr.mono (by decide);have h_R:Room (3) _:=hr.mono (by decide);have h_U:Room (1) _:=hr.mono (by decide);have h_V:Room (2) _:=hr.mono (by decide)
   refine⟨_,(@qd _ _ _ _ _ (by exact(qz (i:=2) sc_Ldrawn.nd rfl (Or.inl rfl) (qj G_m h_m rfl T.d_m.m T.d_m.k T.d_m.b .nil qm (qa (pv 0) (qa qe qb)))))
     (by exact(@qd _ _ _ _ _ (by exact(@qz _ _ 3 _ _ _ _ (by exact sc_Ldrawn.nd) (by rfl) (by exact(Or.inl rfl)) (by exact(@qB _ _ _ _ _ _ _ _ (by exact Qx) (by exact(@qI _ _ _ _ _ _ (rIx K) (by exact qx) (by exact(@qT _ _ _ _ (by exact(@qa _ _ _ _ _ (by exact qe) (by exact(@qa _ _ _ _ _ (by exact qe) (by exact(@qa _ _ _ _ _ (by exact qe) (by exact(@qa _ _ _ _ _ (by exact qe) (by exact(@qb _)) (by rfl))) (by rfl))) (by rfl))) (by rfl))))) (by exact(qj G_a h_a rfl T.d_a.m T.d_a.k T.d_a.b .nil qm (qa (pv 2) (qa qe qb)))) (by exact fun _ _=>rfl))) (by exact(qj G_a h_a rfl T.d_a.m T.d_a.k T.d_a.b .nil qm (qa (pv 2) (qa qe qb)))))) (by rfl) (by exact .inl rfl)))
     (by exact(@qd _ _ _ _ _ (by exact(qz (i:=4) sc_Ldrawn.nd rfl (Or.inl rfl) (qj G_a h_a rfl T.d_a.m T.d_a.k T.d_a.b .nil qm (qa (pv 2) (qa qe qb)))))
     (by exact(@qd _ _ _ _ _ (by exact(qz (i:=5) sc_Ldrawn.nd rfl (Or.inl rfl) (qT qb)))
     (by exact(@qd _ _ _ _ _ (by exact(@zP _ _ _ _ _ _ _ _ (by exact PassesOwn.never) (by rfl) (by exact(ZE rfl T.n_range (qa (qB Qx qe (qj G_a h_a rfl T.d_a.m T.d_a.k T.d_a.b .nil qm (qa (pv 2) (qa qe qb)))) qb))) (by exact(qq (i:=6) (sc_Ldrawn.nd) rfl (Or.inl rfl)))
       (by exact(@qf _ _ _ (by exact(qD (Zk PySem.F.plainAttrs_list PySem.F.slot_list_append PySem.F.type_list_append zc (pv 5) (qa (qQ (qa (@qI _ _ _ _ _ _ (rIx K) (by exact qx) (by exact(@qT _ _ _ _ (by exact(@qa _ _ _ _ _ (by exact Qf) (by exact(@qa _ _ _ _ _ (by exact Qf) (by exact(@qa _ _ _ _ _ (by exact Qf) (by exact(@qb _)) (by rfl))) (by rfl))) (by rfl))))) (by exact(pv 6)) (by exact fun _ _=>rfl)) (qa (qj G_R h_R rfl T.d_R.m T.d_R.k T.d_R.b .nil qm (qa (qj G_m h_m rfl T.d_m.m T.d_m.k T.d_m.b .nil qm (qa (pv 0) (qa (qB Qx qe (pv 6)) qb))) (qa (pv 3) qb))) qb))) qb)))))) (by intro _;rfl)))
     (by exact(@qd _ _ _ _ _ (by exact(qz (i:=7) sc_Ldrawn.nd rfl (Or.inl rfl) (qB Qx qe (qk qK (by rfl) T.n_len qG (qa (pv 5) qb)))))
     (by exact(@qd _ _ _ _ _ (by exact(qz (i:=8) sc_Ldrawn.nd rfl (Or.inl rfl) (qj G_a h_a rfl T.d_a.m T.d_a.k T.d_a.b .nil qm (qa (pv 2) (qa qe qb)))))
     (by exact(@qd _ _ _ _ _ (by exact(qz (i:=9) sc_Ldrawn.nd rfl (Or.inl rfl) (qj G_a h_a rfl T.d_a.m T.d_a.k T.d_a.b .nil qm (qa (pv 2) (qa (qB Qx (pv 1) qe) qb)))))
     (by exact(@qd _ _ _ _ _ (by exact(qz (i:=10) sc_Ldrawn.nd rfl (Or.inl rfl) (qT qb)))
     (by exact(@qd _ _ _ _ _ (by exact(zP PassesOwn.never rfl (ZE rfl T.n_range (qa (pv 9) qb)) (qq (i:=6) (sc_Ldrawn.nd) rfl (Or.inl rfl))
       (qf (qD (Zk PySem.F.plainAttrs_list PySem.F.slot_list_append PySem.F.type_list_append zc (pv 10) (qa (qj G_F h_F rfl T.d_F.m T.d_F.k T.d_F.b .nil qm (qa (qj G_m h_m rfl T.d_m.m T.d_m.k T.d_m.b .nil qm (qa (pv 0) (qa (qB Qx (pv 7) (pv 6)) qb))) (qa (qj G_U h_U rfl T.d_U.m T.d_U.k T.d_U.b .nil qm (qa (pv 4) (qa (pv 6) qb))) (qa (pv 5) (qa (pv 3) qb))))) qb))))))
     (by exact(@qd _ _ _ _ _ (by exact(qz (i:=11) sc_Ldrawn.nd rfl (Or.inl rfl) (qT qb)))
     (by exact(@qd _ _ _ _ _ (by exact(qS (qu qaw (pv 9) qe (qC _))
       (qd (qau (i:=12) sc_Ldrawn.nd rfl (Or.inl rfl) rfl (CompOk.def ["_law_entry_here","_law_found","_law_here"] [none,none,none]) (qX (pv 10)) (fun _ _ _ _ _=>(show PG _ _ (qhC K 3 _) from (zK rfl (qr (qq (i:=0) (show List.Nodup (["_law_entry_here","_law_found","_law_here"]:List Str) by decide +kernel) rfl (Or.inl rfl)) (qr (qq (i:=1) (show List.Nodup (["_law_entry_here","_law_found","_law_here"]:List Str) by decide +kernel) rfl (Or.inl rfl)) (qr (qq (i:=2) (show List.Nodup (["_law_entry_here","_law_found","_law_here"]:List Str) by decide +kernel) rfl (Or.inl rfl)) zg)))))) (fun _ _ _ _ _=>Qa) (fun _ _ _ _ _=>(pv 2)))
       (qf (zP PassesOwn.never rfl (ZE rfl T.n_range (qa (qk (ZK rfl) (by rfl) T.n_min ZL (qa qe (qa (qk (Qt rfl) (by rfl) T.n_max Qv (qa (qj G_a h_a rfl T.d_a.m T.d_a.k T.d_a.b .nil qm (qa (pv 2) (qa qe qb))) (qa (qB zu (qB zu (qk qK (by rfl) T.n_len qG (qa (pv 0) qb)) (pv 7)) (pv 9)) qb))) qb))) qb)) (qq (i:=6) (sc_Ldrawn.nd) rfl (Or.inl rfl))
         (qf (qD (Zk PySem.F.plainAttrs_list PySem.F.slot_list_append PySem.F.type_list_append zc (pv 11) (qa (qj G_V h_V rfl T.d_V.m T.d_V.k T.d_V.b .nil qm (qa (qj G_m h_m rfl T.d_m.m T.d_m.k T.d_m.b .nil qm (qa (pv 0) (qa (qB Qx (qB Qx (pv 7) (pv 9)) (pv 6)) qb))) (qa (pv 12) (qa (pv 8) qb)))) qb)))))))
       qA))
     (by exact(@qf _ _ _ (by exact(@qE _ _ _ _ (by exact(@qQ _ _ _ _ _ (by exact(@qa _ _ _ _ _ (by exact(pv 2)) (by exact(@qa _ _ _ _ _ (by exact(pv 5)) (by exact(@qa _ _ _ _ _ (by exact(pv 10)) (by exact(@qa _ _ _ _ _ (by exact(pv 11)) (by exact(@qb _)) (by rfl))) (by rfl))) (by rfl))) (by rfl)))))))))))))))))))))))))))))))),?_⟩
   try dsimp only [zw,Cx.nox]
   refine⟨_,rfl,sa,ns,_,rfl,hS,by decide,fun p G0 fp s00 p00=>?_⟩;(try unfold qF);(try dsimp only);have p0:PoolAt G0 p:=p00;have t0:But p G0 G0:=But.refl p G0;refine⟨ql (Nat.le_of_ble_eq_true rfl),fun l4 fl4=>?_⟩;have n_l4:l4≠p:=p0.ne fl4;generalize hG:upd G0 l4 _=G1;obtain⟨u1,e_l4⟩:=qt hG fl4;clear hG;have e_l4:G1 l4=some (.lst [.int 0,.int 0,.int 5000,.int 999990000]):=e_l4;have p1:=p0.same u1;have t1:=t0.same u1;refine⟨_,rfl,p,_,rfl,p1,by decide,by decide,fun i4 G2 i40 i41 u2 p2=>?_⟩;have t2:=t1.trans u2;refine qeh 0 999990000 (u2 _ _ e_l4 n_l4) i40 i41 rfl (fun b1 b10 b11=>?_);refine⟨_,rfl,p,_,rfl,p2,by decide,by decide,fun b2 G3 b20 b21 u3 p3=>?_⟩;have t3:=t2.trans u3;refine .inl ⟨_,_,rfl,rfl,?_⟩;have b21:b2 < 1000:=b21;obtain⟨b,eb⟩:∃ x,x=b1+b2:=⟨_,rfl⟩
   rw[← eb];have b0:0≤b∧b≤999990999:=by omega
   clear eb;(try unfold qF);(try dsimp only);refine⟨_,rfl,p,_,rfl,p3,by decide,by decide,fun st G4 st0 st1 u4 p4=>?_⟩;have t4:=t3.trans u4;have st1:st < 78:=st1;(try unfold qF);(try dsimp only);refine⟨ql (Nat.le_of_ble_eq_true rfl),fun tl ftl=>?_⟩;have n_tl:tl≠p:=p4.ne ftl;generalize hG:upd G4 tl _=G5;obtain⟨u5,e_tl⟩:=qt hG ftl;clear hG;have e_tl:G5 tl=some (.lst []):=e_tl;have p5:=p4.same u5;have t5:=t4.same u5;(try unfold qF);(try dsimp only);have tb5:TbD a G5:=((tb.same s00).keep fun c o h n1 _ _=>t5 _ _ h (fun z=>by obtain⟨_,_,_,q⟩:=p00;rw[z,q]at h;injection h with h;exact n1 _ h.symm))
   have ntE:a.t_Lentry≠p:=PoolAt.nk p5 tb5.tb.choose_spec fun _ z=>nomatch z;have ntl:tl≠p:=n_tl
   have SG:Same (cut H [a.t_Lentry]) (cut G5 [tl,p,a.t_Lentry]):=fun c o h=>by
     by_cases m:c∈[a.t_Lentry]
     · rw[qy m]at h;cases h
     rw[qH m]at h;have h0:=s00 _ _ h;have c1:c≠p:=qi h fp;have c2:=t4 _ _ h0 c1;have c3:c≠tl:=qi c2 ftl;rw[qH fun z=>(List.mem_cons.mp z).elim c3 fun z=>(List.mem_cons.mp z).elim c1 m];exact u5 _ _ c2
   have hS0:SqL K (cut H [a.t_Lentry]) sa (ns.map V.int):=qjW hS fun c m=>by rw[List.mem_singleton.mp m];exact tb.tb
   refine q9 (t:=qiL _ _ _) (fun σ' H'=>∃ (s6:Option V) (ts:Pls) (zs:List V) (i:Nat),σ'=[some (.ref sa),some (.int 8),some (.ref p),some (.int b),some (.int st),some (.ref tl),s6,none,none,none,none,none,none]∧Same (cut H [a.t_Lentry]) (cut H' [tl,p,a.t_Lentry])∧PoolAt H' p∧TbD a H'∧H' tl=some (.lst zs)∧TupL (fun t:Str×Addr×List (Int×Int)=>([.str t.1,.ref t.2.1]:List V)) (cut H' [tl,p,a.t_Lentry]) zs ts∧(∀ t∈ts,Rs (cut H' [tl,p,a.t_Lentry]) t.2.1 t.2.2∧Good t.2.2)∧ts.map (·.1)=pnm.take i∧0 < i∧i≤3) (fun N hN=>?_) ?_
   · refine⟨_,rfl,p,_,rfl,p5,by decide,by decide,fun nt G30 nt0 nt1 bG30 pG30=>.inl ⟨_,_,rfl,rfl,?_⟩⟩;have nt1:nt < 3:=nt1;refine⟨_,rfl,by omega,by omega,ZH (lo:=0) (D:={ nx:=N,rt:=Q }) (fun i σ H'=>∃ (s6:Option V) (ts:Pls) (zs:List V),σ=[some (.ref sa),some (.int 8),some (.ref p),some (.int b),some (.int st),some (.ref tl),s6,none,none,none,none,none,none]∧Same (cut H [a.t_Lentry]) (cut H' [tl,p,a.t_Lentry])∧PoolAt H' p∧TbD a H'∧H' tl=some (.lst zs)∧TupL (fun t:Str×Addr×List (Int×Int)=>([.str t.1,.ref t.2.1]:List V)) (cut H' [tl,p,a.t_Lentry]) zs ts∧(∀ t∈ts,Rs (cut H' [tl,p,a.t_Lentry]) t.2.1 t.2.2∧Good t.2.2)∧ts.map (·.1)=pnm.take i) ⟨_,[],[],rfl,SG.trans (ZJ fun c o h m=>bG30 _ _ h fun z=>m (by rw[z];simp)),pG30,tb5.but bG30 p5,bG30 _ _ e_tl ntl,.nil,(fun t m=>nomatch m),rfl⟩ ?_ ?_⟩
     · rintro i σ H1 hi ⟨s6,ts,zs,rfl,S,hp,tbb,htl,tz,rk,en⟩;have hi2:i < (1+nt).toNat:=hi
       have lts:ts.length=i:=by
         have:=congrArg List.length en
         rw[List.length_map,List.length_take]at this;have l3:pnm.length=3:=rfl;omega
       have lzs:=tz.1;refine⟨_,rfl,.inl ⟨rfl,_,SqL.of htl⟩,ql (Nat.le_of_ble_eq_true rfl),fun l fl=>?_⟩;generalize hG:upd H1 l _=A1;obtain⟨u1,e1⟩:=qt hG fl;clear hG;have il:i < pnm.length:=by show i < 3;omega
       have hat:atI ([.str "a",.str "zed",.str "home"]:List V) (0+(i:Int))=some (.str pnm[i]):=by
         rw[Int.zero_add];exact zA (j:=i) (by show (pnm.map V.str)[i]?=_;rw[List.getElem?_map,List.getElem?_eq_getElem il];rfl)
       refine⟨_,rfl,.inl ⟨l,_,_,_,rfl,rfl,SqL.of e1,hat,?_⟩⟩;have hS1:SqL K A1 sa (ns.map V.int):=((S.trans (qv _ _)).trans u1).seq hS0;refine⟨_,rfl,_,rfl,.inl ⟨_,_,rfl,rfl,sa,ns,_,rfl,hS1,by omega,fun q A2 fq s2 q2=>?_⟩⟩;refine⟨_,rfl,q,b,rfl,q2,by omega,by omega,fun r rows A3 fr B3 q3 hr good=>?_⟩;refine⟨ql (Nat.le_of_ble_eq_true rfl),fun tt ftt=>?_⟩;generalize hG:upd A3 tt _=A4;obtain⟨u4,e4⟩:=qt hG ftt;clear hG;have e4:A4 tt=some (.tup [.str pnm[i],.ref r]):=e4;have keep:Same H1 A4:=fun c o h=>u4 _ _ (B3 _ _ (s2 _ _ (u1 _ _ h)) (qi (u1 _ _ h) fq));have k3:Same H1 A3:=fun c o h=>B3 _ _ (s2 _ _ (u1 _ _ h)) (qi (u1 _ _ h) fq);have cs3:=ZR (hp.same k3) (tbb.same k3) (k3 _ _ htl);have cs4:=ZR (hp.same keep) (tbb.same keep) (keep _ _ htl);have cs2:=ZR (hp.same (u1.trans s2)) (tbb.same (u1.trans s2)) ((u1.trans s2) _ _ htl);refine⟨tl,_,_,rfl,rfl,keep _ _ htl,qw (by omega),?_⟩;generalize hG:upd A4 tl _=A5;have B5:But tl A4 A5:=fun c o h nc=>by rw[← hG,qh nc];exact h
       have e5:A5 tl=some (.lst (zs++[.ref tt])):=by rw[← hG];exact qc
       have K5:Same (cut A4 [tl,p,a.t_Lentry]) (cut A5 [tl,p,a.t_Lentry]):=ZJ fun c o h m=>B5 _ _ h fun z=>m (by rw[z];simp);have K1:Same (cut H1 [tl,p,a.t_Lentry]) (cut A4 [tl,p,a.t_Lentry]):=ZJ fun c o h m=>keep _ _ h;refine⟨_,ts++[(pnm[i],r,rows)],zs++[.ref tt],rfl,S.trans (K1.trans K5),?_,(tbb.same keep).butL B5 (keep _ _ htl),e5,?_,fun t m=>?_,?_⟩
       · obtain⟨x,y,z,h⟩:=hp.same keep;exact⟨x,y,z,B5 _ _ h (Ne.symm ntl)⟩
       · exact((tz.same (K1.trans K5)).snoc (p:=(pnm[i],r,rows)) (K5 _ _ (cs4.out e4 (fun _ z=>nomatch z) (fun _ z=>nomatch z))))
       · rcases List.mem_append.mp m with m|m
         · exact⟨(rk t m).1.same (K1.trans K5),(rk t m).2⟩
         · rw[List.mem_singleton.mp m];exact⟨(qh3 (hr.same u4) cs4 (cs2.no fr)).same K5,good⟩
       · rw[List.map_append,en,zM (List.getElem?_eq_getElem il)];rfl
     · rintro σ H1 ⟨s6,ts,zs,rfl,S,hp,tbb,htl,tz,rk,en⟩;exact hN _ _ ⟨_,ts,zs,_,rfl,S,hp,tbb,htl,tz,rk,en,by omega,by omega⟩
   rintro _ F0 ⟨s6,ts,zt,nn,rfl,SF,hp0,tb0,htl,tz,rk,en,nn0,nn3⟩;have cF:=qiA hp0 tb0
   have ntlE:tl∉[p,a.t_Lentry]:=fun m=>by
     rcases List.mem_cons.mp m with z|m
     · exact ntl z
     · obtain⟨_,h⟩:=tb0.tb;rw[← List.mem_singleton.mp m,htl]at h;cases h
   have cs10:Same (cut F0 [tl,p,a.t_Lentry]) (cut F0 [p,a.t_Lentry]):=qdN fun c m=>List.mem_cons_of_mem _ m
   have lnt:ts.length=nn:=by
     have:=congrArg List.length en
     rw[List.length_map,List.length_take]at this;have l3:pnm.length=3:=rfl;omega
   have lt0:LT (cut F0 [p,a.t_Lentry]) tl ts:=by
     refine⟨⟨zt,by rw[qH ntlE];exact htl,tz.same cs10⟩,fun t m=>⟨(rk t m).1.same cs10,(rk t m).2⟩,?_,fun t m=>?_,by omega,by omega⟩
     · rw[en];exact List.Pairwise.sublist (List.take_sublist _ _) qkb
     · refine qka _ (List.mem_of_mem_take (i:=nn) ?_);rw[← en];exact List.mem_map.mpr ⟨t,m,rfl⟩
   have hSF:SqL K (cut F0 [p,a.t_Lentry]) sa (ns.map V.int):=(SF.trans cs10).seq hS0;(try unfold qF);(try dsimp only);refine⟨_,rfl,_,_,rfl,.inl ⟨_,SqL.of htl,rfl⟩,.inl ⟨_,_,rfl,rfl,?_⟩⟩;have lzt:zt.length=ts.length:=tz.1;obtain⟨at_,eat⟩:∃ x:Int,x=1+(zt.length:Int):=⟨_,rfl⟩
   rw[← eat];have at0:0≤at_∧at_≤4:=by omega
   clear eat;(try unfold qF);(try dsimp only);refine⟨_,rfl,p,_,rfl,hp0,by decide,by decide,fun md F1 md0 md1 bF1 pF1=>?_⟩;(try unfold qF);(try dsimp only);refine⟨_,rfl,_,rfl,.inl ⟨_,_,rfl,rfl,p,_,rfl,pF1,by decide,by decide,fun sz F2 sz0 sz1 bF2 pF2=>?_⟩⟩;have sz1:sz < 9:=sz1;(try unfold qF);(try dsimp only);refine⟨ql (Nat.le_of_ble_eq_true rfl),fun el fel=>?_⟩;generalize hG:upd F2 el _=F3;obtain⟨uF3,e_el⟩:=qt hG fel;clear hG;have e_el:F3 el=some (.lst []):=e_el;have nel:el≠p:=pF2.ne fel;have tF2:=(tb0.but bF1 hp0).but bF2 pF1;have tF3:=tF2.same uF3;have pF3:=pF2.same uF3
   have SG2:Same (cut F0 [p,a.t_Lentry]) (cut F3 [el,p,a.t_Lentry]):=fun c o h=>by
     by_cases m:c∈[p,a.t_Lentry]
     · rw[qy m]at h;cases h
     rw[qH m]at h;have c1:c≠p:=fun z=>m (by rw[z];simp);have c2:=bF2 _ _ (bF1 _ _ h c1) c1;have c3:c≠el:=qi c2 fel;rw[qH fun z=>(List.mem_cons.mp z).elim c3 m];exact uF3 _ _ c2
   try unfold qF
   try dsimp only
   refine q9 (t:=qiL _ _ _) (fun σ' H'=>∃ (s6:Option V) (ds:List Dr),σ'=[some (.ref sa),some (.int 8),some (.ref p),some (.int b),some (.int st),some (.ref tl),s6,some (.int at_),some (.int md),some (.int sz),some (.ref el),none,none]∧Same (cut F0 [p,a.t_Lentry]) (cut H' [el,p,a.t_Lentry])∧PoolAt H' p∧TbD a H'∧H' el=some (.lst (ds.map fun d=>V.ref d.1))∧(∀ d∈ds,Dn a (cut H' [el,p,a.t_Lentry]) ts d.1 d.2.1 d.2.2.1 d.2.2.2.1 d.2.2.2.2.1 d.2.2.2.2.2)∧(∀ d∈ds,b≤d.2.2.2.2.2∧d.2.2.2.2.2≤b+160)∧(∀ (j:Nat) d,ds[j]?=some d->NmC st j d.2.1)∧ds.length=sz.toNat) (fun N hN=>?_) ?_
   · refine⟨_,rfl,_,rfl,by omega,by omega,ZH (lo:=0) (D:={ nx:=N,rt:=Q }) (fun i σ H'=>∃ (s6:Option V) (ds:List Dr),σ=[some (.ref sa),some (.int 8),some (.ref p),some (.int b),some (.int st),some (.ref tl),s6,some (.int at_),some (.int md),some (.int sz),some (.ref el),none,none]∧Same (cut F0 [p,a.t_Lentry]) (cut H' [el,p,a.t_Lentry])∧PoolAt H' p∧TbD a H'∧H' el=some (.lst (ds.map fun d=>V.ref d.1))∧(∀ d∈ds,Dn a (cut H' [el,p,a.t_Lentry]) ts d.1 d.2.1 d.2.2.1 d.2.2.2.1 d.2.2.2.2.1 d.2.2.2.2.2)∧(∀ d∈ds,b≤d.2.2.2.2.2∧d.2.2.2.2.2≤b+160)∧(∀ (j:Nat) d,ds[j]?=some d->NmC st j d.2.1)∧ds.length=i) ⟨_,[],rfl,SG2,pF3,tF3,e_el,(fun t m=>nomatch m),(fun t m=>nomatch m),(fun j d z=>nomatch z),rfl⟩ ?_ ?_⟩
     · rintro i σ H1 hi ⟨s6,ds,rfl,S,hp,tbb,hel,dn,hes,nmc,ld⟩;have hi2:i < sz.toNat:=hi;have hS1:SqL K H1 sa (ns.map V.int):=(S.trans (qv _ _)).seq hSF;refine⟨_,rfl,.inl ⟨rfl,_,SqL.of hel⟩,_,rfl,_,rfl,_,rfl,.inl ⟨_,_,rfl,rfl,sa,ns,_,rfl,hS1,by omega,fun q A1 fq s1 q1=>?_⟩⟩;refine⟨_,rfl,_,rfl,st,_,rfl,st0,st1,by omega,by omega,fun nm A2 s2 nmk=>?_⟩;rw[Int.zero_add]at nmk;have kA:=s1.trans s2;refine⟨_,rfl,_,rfl,q,tl,nm,b,ts,cut H1 [el,p,a.t_Lentry],rfl,q1.same s2,(qv _ _).trans kA,Q8 fq,qy (by simp),lt0.same S,nmk.nm,b0.1,b0.2,tbb.same kA,fun tt y fo kd W he A3 B3 q3 tb3 ftt ffo ett dnn he0 he1=>?_⟩;have nqp:p≠q:=by obtain⟨_,_,_,h⟩:=hp;exact qi h fq
       have nqe:el≠q:=qi hel fq;have neE:el≠a.t_Lentry:=fun z=>by obtain⟨_,h⟩:=tbb.tb;rw[← z,hel]at h;cases h
       have hel3:A3 el=some (.lst (ds.map fun d=>V.ref d.1)):=B3 _ _ (kA _ _ hel) nqe neE
       have hp3:PoolAt A3 p:=by
         obtain⟨x,y,z,h⟩:=hp;exact⟨x,y,z,B3 _ _ (kA _ _ h) nqp (Ne.symm ntE)⟩
       have cs3:=ZR hp3 tb3 hel3;have cs2:=ZR (hp.same kA) (tbb.same kA) (kA _ _ hel);refine⟨el,_,_,rfl,rfl,hel3,qw (by rw[List.length_map];omega),?_⟩;generalize hG:upd A3 el _=A4;have B4:But el A3 A4:=fun c o h nc=>by rw[← hG,qh nc];exact h
       have e4:A4 el=some (.lst ((ds.map fun d=>V.ref d.1)++[.ref tt])):=by rw[← hG];exact qc
       have K3:Same (cut H1 [el,p,a.t_Lentry]) (cut A3 [el,p,a.t_Lentry]):=ZJ fun c o h m=>B3 _ _ (kA _ _ h) (qi h fq) (fun z=>m (by rw[z];simp));have K4:Same (cut A3 [el,p,a.t_Lentry]) (cut A4 [el,p,a.t_Lentry]):=ZJ fun c o h m=>B4 _ _ h fun z=>m (by rw[z];simp);have K34:=K3.trans K4;refine⟨_,ds++[(tt,nm,y,kd,W,he)],rfl,S.trans K34,?_,tb3.butL B4 hel3,?_,fun d m=>?_,fun d m=>?_,fun j d hj=>?_,by rw[List.length_append,ld];rfl⟩
       · obtain⟨x,y,z,h⟩:=hp3;exact⟨x,y,z,B4 _ _ h (Ne.symm nel)⟩
       · rw[List.map_append];exact e4
       · rcases List.mem_append.mp m with m|m
         · exact(dn d m).same K34
         · rw[List.mem_singleton.mp m];refine(qkH dnn cs3 ett (cs2.no ffo) fun l b' w C dx fs h1 h2 ml=>?_).same K4;rcases List.mem_cons.mp ml with z|ml
           · rw[z,hel3]at h1;injection h1 with h1;injection h1 with h1;have h0:(ds.map fun d=>V.ref d.1)[0]?=some (.ref b'):=by rw[h1];rfl
             obtain⟨d,hd,eb'⟩:=zh h0;cases eb'
             cases dn d (List.mem_of_getElem? hd) with
             | mk z1=>rw[(K3.trans (qv _ _)) _ _ z1]at h2;cases h2
           rcases List.mem_cons.mp ml with z|ml
           · obtain⟨_,_,_,h⟩:=hp3;rw[z,h]at h1;cases h1
           · obtain⟨_,h⟩:=tb3.tb;rw[List.mem_singleton.mp ml,h]at h1;cases h1
       · rcases List.mem_append.mp m with m|m
         · exact hes d m
         · rw[List.mem_singleton.mp m];exact⟨he0,he1⟩
       · by_cases c:j < ds.length
         · rw[List.getElem?_append_left c]at hj;exact nmc j d hj
         · rw[List.getElem?_append_right (by omega)]at hj
           have:j - ds.length=0:=by have:=(List.getElem?_eq_some_iff.mp hj).1;simp at this;omega
           rw[this]at hj;cases hj
           have:j=i:=by omega
           rw[this];exact nmk
     · rintro σ H1 ⟨s6,ds,rfl,h⟩;exact hN _ _ ⟨_,ds,rfl,h⟩
   rintro _ J0 ⟨s6,ds,rfl,SJ,hpJ,tbJ,hel,dn,hes,nmc,ld⟩;have neE:el≠a.t_Lentry:=fun z=>by obtain⟨_,h⟩:=tbJ.tb;rw[← z,hel]at h;cases h
   have cs20:Same (cut J0 [el,p,a.t_Lentry]) (cut J0 [p,a.t_Lentry]):=qdN fun c m=>List.mem_cons_of_mem _ m;have ltJ:LT (cut J0 [p,a.t_Lentry]) tl ts:=lt0.same (SJ.trans cs20);have hSJ:SqL K (cut J0 [p,a.t_Lentry]) sa (ns.map V.int):=(SJ.trans cs20).seq hSF;have nel0:el∉[p,a.t_Lentry]:=fun m=>(List.mem_cons.mp m).elim nel fun m=>neE (List.mem_singleton.mp m)
   have elJ:El a (cut J0 [p,a.t_Lentry]) ts el ds:=by
     refine⟨by rw[qH nel0];exact hel,fun d m=>(dn d m).same cs20,?_,fun d m=>?_,by omega⟩
     · rw[List.nodup_iff_pairwise_ne,List.pairwise_iff_getElem];intro i j hi hj l;rw[List.length_map]at hi hj;rw[List.getElem_map,List.getElem_map];exact(nmc i _ (List.getElem?_eq_getElem hi)).ne (nmc j _ (List.getElem?_eq_getElem hj)) (by omega) (by omega) (by omega)
     · obtain⟨j,hj⟩:=List.getElem?_of_mem m;exact(nmc j d hj).nm
   have nl3:∀ d∈ds,d.2.1.length≤3:=fun d m=>by
     obtain⟨j,hj⟩:=List.getElem?_of_mem m;exact(nmc j d hj).len
   try unfold qF
   try dsimp only
   refine⟨ql (Nat.le_of_ble_eq_true rfl),fun bq fbq=>?_⟩;generalize hG:upd J0 bq _=J1;obtain⟨uJ1,e_bq⟩:=qt hG fbq;clear hG;have e_bq:J1 bq=some (.lst []):=e_bq;have nbq:bq≠p:=hpJ.ne fbq;have pJ1:=hpJ.same uJ1;have tJ1:=tbJ.same uJ1
   have SG3:Same (cut J0 [p,a.t_Lentry]) (cut J1 [bq,p,a.t_Lentry]):=fun c o h=>by
     by_cases m:c∈[p,a.t_Lentry]
     · rw[qy m]at h;cases h
     rw[qH m]at h;have c3:c≠bq:=qi h fbq;rw[qH fun z=>(List.mem_cons.mp z).elim c3 m];exact uJ1 _ _ h
   try unfold qF
   try dsimp only
   refine q9 (t:=qgY _ _ _) (fun σ' H'=>∃ (s6 s12:Option V) (zb:List V) (B:List B3),σ'=[some (.ref sa),some (.int 8),some (.ref p),some (.int b),some (.int st),some (.ref tl),s6,some (.int at_),some (.int md),some (.int sz),some (.ref el),some (.ref bq),s12]∧Same (cut J0 [p,a.t_Lentry]) (cut H' [bq,p,a.t_Lentry])∧PoolAt H' p∧TbD a H'∧H' bq=some (.lst zb)∧TupL tr (cut H' [bq,p,a.t_Lentry]) zb B∧(∀ c∈B,c.1 < ds.length∧c.2.1 < ds.length∧-2000000000≤c.2.2∧c.2.2≤2000000001)∧B.length≤60) (fun N hN=>?_) ?_
   · refine⟨_,rfl,_,_,rfl,rfl,_,rfl,Qg (fun g=>?_) (fun g=>?_)⟩
     · refine⟨_,rfl,el,rfl,⟨_,SqL.of (uJ1 _ _ hel)⟩,fun D fD=>?_⟩;refine zD (K:=K) (a:=el) (xs:=ds.map fun d=>V.ref d.1) (D:=D) (fun i σ H'=>∃ c0 c1 c2:Option V,σ=[c0,c1,c2]∧Same J1 H'∧H' D=some (.lst ((ds.take i).map fun d=>V.int d.2.2.2.2.2))) ⟨none,none,none,rfl,Same.new _ fD,qc⟩ (fun i σ H' _ ⟨_,_,_,_,S,_⟩=>SqL.of (S _ _ (uJ1 _ _ hel))) ?_ ?_
       · rintro i z σ H' hz ⟨c0,c1,c2,rfl,S,hD⟩;obtain⟨d,hd,rfl⟩:=zh hz
         cases dn d (List.mem_of_getElem? hd) with
         | mk z1 =>
         have z2:=S _ _ (uJ1 _ _ ((qv _ _) _ _ z1));refine⟨d.1,_,rfl,SqT.of z2,rfl,_,_,rfl,_,_,rfl,_,_,rfl,rfl,?_⟩;refine⟨_,rfl,_,hD,qw (by rw[List.length_map,List.length_take];omega),_,_,_,rfl,S.put fD _,?_⟩;rw[zM hd,List.map_append];exact qc
       rintro σ J2 ⟨c0,c1,c2,rfl,uJ2,hD⟩;rw[List.length_map,List.take_length]at hD;have hD:J2 D=some (.lst ((ds.map fun d=>d.2.2.2.2.2).map V.int)):=by rw[List.map_map];exact hD
       have nD:D≠p:=pJ1.ne fD;have pJ2:=pJ1.same uJ2;have tJ2:=tJ1.same uJ2;have nDb:D≠bq:=Ne.symm (qi e_bq fD);(try unfold qF);(try dsimp only);refine⟨_,rfl,p,_,rfl,pJ2,by decide,by decide,fun x J3 x0 x1 bJ3 pJ3=>?_⟩
       have hSJ3:SqL K J3 sa (ns.map V.int):=by
         refine Same.seq (fun c o h=>?_) hSJ;by_cases m:c∈[p,a.t_Lentry]
         · rw[qy m]at h;cases h
         rw[qH m]at h;exact bJ3 _ _ (uJ2 _ _ (uJ1 _ _ h)) fun z=>m (by rw[z];simp)
       refine⟨_,rfl,_,_,rfl,.inl ⟨_,hSJ3,rfl⟩,_,rfl,_,_,rfl,rfl,_,rfl,_,_,rfl,rfl,_,_,rfl,_,_,rfl,?_⟩;generalize hnb:(if (_:Int) < (60:Int) then (_:Int) else (60:Int))=nb
       have nb0:nb≤60∧0≤nb:=by
         rw[← hnb];split<;>split<;>omega
       clear hnb;have tJ3:=tJ2.but bJ3 pJ2;have kJ3:Same (cut J1 [bq,p,a.t_Lentry]) (cut J3 [bq,p,a.t_Lentry]):=ZJ fun c o h m=>bJ3 _ _ (uJ2 _ _ h) fun z=>m (by rw[z];simp);refine⟨_,rfl,by omega,by omega,ZH (lo:=0) (D:={ nx:=N,rt:=Q }) (fun i σ H'=>∃ (s6:Option V) (zb:List V) (B:List B3),σ=[some (.ref sa),some (.int 8),some (.ref p),some (.int b),some (.int st),some (.ref tl),s6,some (.int at_),some (.int md),some (.int sz),some (.ref el),some (.ref bq),some (.ref D)]∧Same (cut J0 [p,a.t_Lentry]) (cut H' [bq,p,a.t_Lentry])∧PoolAt H' p∧TbD a H'∧H' bq=some (.lst zb)∧TupL tr (cut H' [bq,p,a.t_Lentry]) zb B∧(∀ c∈B,c.1 < ds.length∧c.2.1 < ds.length∧-2000000000≤c.2.2∧c.2.2≤2000000001)∧B.length=i∧H' D=some (.lst ((ds.map fun d=>d.2.2.2.2.2).map V.int))) ⟨_,[],[],rfl,SG3.trans kJ3,pJ3,tJ3,bJ3 _ _ (uJ2 _ _ e_bq) nbq,.nil,(fun c m=>nomatch m),rfl,bJ3 _ _ hD nD⟩ ?_ ?_⟩
       · rintro i σ H1 hi ⟨s6,zb,B,rfl,S,hp,tbb,hbq,tz,ok,lB,hD1⟩;have hi2:i < nb.toNat:=hi;have lzb:=tz.1;have hS1:SqL K H1 sa (ns.map V.int):=(S.trans (qv _ _)).seq hSJ;refine⟨_,rfl,.inl ⟨rfl,_,SqL.of hbq⟩,_,rfl,_,rfl,_,rfl,.inl ⟨_,_,rfl,rfl,_,rfl,.inl ⟨_,_,rfl,rfl,sa,ns,_,rfl,hS1,by omega,fun q A1 fq s1 q1=>?_⟩⟩⟩;refine⟨_,rfl,_,rfl,q,D,ds.map fun d=>d.2.2.2.2.2,md,rfl,q1,s1 _ _ hD1,qi hD1 fq,by rw[List.length_map];omega,by rw[List.length_map];omega,(fun h m=>by obtain⟨d,m',rfl⟩:=List.mem_map.mp m;have:=hes d m';omega),fun t c A3 B3 q3 ft e3 c1 c2 c3 c4=>?_⟩;rw[List.length_map]at c1 c2;have k3:Same H1 A3:=fun c o h=>B3 _ _ (s1 _ _ h) (qi h fq);have hbq3:=k3 _ _ hbq;have cs3:=ZR (hp.same k3) (tbb.same k3) hbq3;refine⟨bq,_,_,rfl,rfl,hbq3,qw (by omega),?_⟩;generalize hG:upd A3 bq _=A4;have B4:But bq A3 A4:=fun c o h nc=>by rw[← hG,qh nc];exact h
         have e4:A4 bq=some (.lst (zb++[.ref t])):=by rw[← hG];exact qc
         have K3:Same (cut H1 [bq,p,a.t_Lentry]) (cut A3 [bq,p,a.t_Lentry]):=ZJ fun c o h m=>k3 _ _ h;have K4:Same (cut A3 [bq,p,a.t_Lentry]) (cut A4 [bq,p,a.t_Lentry]):=ZJ fun c o h m=>B4 _ _ h fun z=>m (by rw[z];simp);refine⟨_,zb++[.ref t],B++[c],rfl,S.trans (K3.trans K4),?_,(tbb.same k3).butL B4 hbq3,e4,(tz.same (K3.trans K4)).snoc (K4 _ _ (cs3.out e3 (fun _ z=>nomatch z) (fun _ z=>nomatch z))),fun d m=>?_,by rw[List.length_append,lB];rfl,B4 _ _ (k3 _ _ hD1) nDb⟩
         · obtain⟨x,y,z,h⟩:=hp.same k3;exact⟨x,y,z,B4 _ _ h (Ne.symm nbq)⟩
         · rcases List.mem_append.mp m with m|m
           · exact ok d m
           · rw[List.mem_singleton.mp m];exact⟨c1,c2,c3,c4⟩
       · rintro σ H1 ⟨s6,zb,B,rfl,S,hp,tbb,hbq,tz,ok,lB,_⟩;exact hN _ _ ⟨_,_,zb,B,rfl,S,hp,tbb,hbq,tz,ok,by omega⟩
     · exact hN _ _ ⟨_,_,[],[],rfl,SG3,pJ1,tJ1,e_bq,.nil,(fun c m=>nomatch m),Nat.zero_le _⟩
   rintro _ M0 ⟨s6,s12,zb,B,rfl,SM0,hpM,tbM,hbq,tz,ok,lB⟩;have cs30:Same (cut M0 [bq,p,a.t_Lentry]) (cut M0 [p,a.t_Lentry]):=qdN fun c m=>List.mem_cons_of_mem _ m
   have nbq0:bq∉[p,a.t_Lentry]:=fun m=>(List.mem_cons.mp m).elim nbq fun m=>by
     obtain⟨_,h⟩:=tbM.tb;rw[← List.mem_singleton.mp m,hbq]at h;cases h
   try unfold qF
   try dsimp only
   refine⟨_,rfl,_,rfl,_,rfl,_,rfl,ql (Nat.le_of_ble_eq_true rfl),fun r fr=>?_⟩;generalize hG:upd M0 r _=M1;obtain⟨uM1,e_r⟩:=qt hG fr;clear hG;exact kk r p tl el bq ts ds zb B (cut M0 [p,a.t_Lentry]) M1 e_r (hpM.same uM1) ((qv _ _).trans uM1) (qy (by simp)) (ltJ.same (SM0.trans cs30)) (elJ.same (SM0.trans cs30)) (by rw[qH nbq0];exact hbq) (tz.same cs30) ⟨lB,ok⟩ nl3
end
structure Wd (a:Ad) (E H:Hp) (p x td ed bl:Addr) (us:Pls) (es:Es) (zs:List V) (B:List B3):Prop where
 sm:Same E H
 no:∀ b∈[p,x,td,ed,bl],E b=none
 pl:PoolAt H p
 pb:bl≠p
 lo:Lo a H x td ed bl (tv us) (ev es) zs
 tt:∀ u∈us,Tb a E u.2.1 u.2.2
 tg:∀ u∈us,Good u.2.2
 ek:EsOk a E us es
 tb:TupL prB H zs (B.map (nmB (es.map (·.1))))
 bk:∀ b∈B,b.1 < es.length∧b.2.1 < es.length
theorem qjh {ks ls:List Str}{b:B3} (h1:b.1 < ks.length) (h2:b.2.1 < ks.length):nmB (ks++ls) b=nmB ks b:=by
 unfold nmB;rw[List.getD_eq_getElem?_getD,List.getD_eq_getElem?_getD,List.getElem?_append_left h1,List.getElem?_append_left h2,← List.getD_eq_getElem?_getD,← List.getD_eq_getElem?_getD]
section
variable {a:Ad}{E H H':Hp}{p x td ed bl:Addr}{us:Pls}{es:Es}{zs:List V}{B:List B3}
theorem Wd.px (h:Wd a E H p x td ed bl us es zs B):x≠p∧td≠p∧ed≠p:=by
 obtain⟨_,hx⟩:=h.lo.hx;exact⟨PoolAt.nk h.pl hx (fun _ z=>nomatch z),PoolAt.nk h.pl h.lo.ht (fun _ z=>nomatch z),PoolAt.nk h.pl h.lo.he (fun _ z=>nomatch z)⟩
theorem Wd.top (h:Wd a E H p x td ed bl us es zs B):Same E (cut H [p,x,td,ed,bl]):=Same.cut h.sm h.no
theorem Wd.grow {E':Hp} (h:Wd a E H p x td ed bl us es zs B) (s:Same E E') (s':Same E' H) (n:∀ b∈[p,x,td,ed,bl],E' b=none):Wd a E' H p x td ed bl us es zs B:=⟨s',n,h.pl,h.pb,h.lo,fun u m=>(h.tt u m).sm s,h.tg,h.ek.same s,h.tb,h.bk⟩
theorem Wd.same (h:Wd a E H p x td ed bl us es zs B) (s:Same H H'):Wd a E H' p x td ed bl us es zs B:=⟨h.sm.trans s,h.no,h.pl.same s,h.pb,h.lo.sm s,h.tt,h.tg,h.ek,h.tb.same s,h.bk⟩
theorem Wd.step (h:Wd a E H p x td ed bl us es zs B) (s:Same H H'):Wd a (cut H' [p,x,td,ed,bl]) H' p x td ed bl us es zs B:=(h.same s).grow (h.same s).top (qv _ _) fun _ m=>qy m
theorem Wd.pool (h:Wd a E H p x td ed bl us es zs B) (b:But p H H') (q:PoolAt H' p):Wd a E H' p x td ed bl us es zs B:=by
 obtain⟨n1,n2,n3⟩:=h.px;obtain⟨dx,hx⟩:=h.lo.hx;exact⟨fun c o e=>b _ _ (h.sm _ _ e) (qi e (h.no p (by simp))),h.no,q,h.pb,⟨⟨dx,b _ _ hx n1⟩,b _ _ h.lo.ht n2,b _ _ h.lo.he n3,b _ _ h.lo.hb h.pb,h.lo.ne,h.lo.ndt,h.lo.nde⟩,h.tt,h.tg,h.ek,qcc h.tb h.pl b,h.bk⟩
theorem Wd.but {q:Addr} (h:Wd a E H p x td ed bl us es zs B) (b:But q H H') (m:q∈[p,x,td,ed,bl]) (n:q≠p):Same E H'∧PoolAt H' p:=⟨fun c o e=>b _ _ (h.sm _ _ e) (qi e (h.no q m)),by
 obtain⟨u,v,w,e⟩:=h.pl
 exact⟨u,v,w,b _ _ e (Ne.symm n)⟩⟩
theorem j7 {β:Type}{f:β->List V}{q:Addr}{o:HO}{xs:List β} (h:TupL f H zs xs) (b:But q H H') (hq:H q=some o) (n:∀ ys,o≠.tup ys):TupL f H' zs xs:=TupL.butB h b hq n
theorem Wd.put (h:Wd a E H p x td ed bl us es zs B) (b:But ed H H') {nm:Str}{y:Addr}{kd:Kd} (lo:Lo a H' x td ed bl (tv us) (ev es++[(nm,.ref y)]) zs) (en:EnD a E y nm kd) (pls:∀ s∈kd.pls,s∈us.map (·.1)):Wd a E H' p x td ed bl us (es++[(nm,y,kd)]) zs B:=by
 obtain⟨s,q⟩:=h.but b (by simp) h.px.2.2;refine⟨s,h.no,q,h.pb,?_,h.tt,h.tg,fun e m=>?_,?_,fun c m=>?_⟩
 · have:ev (es++[(nm,y,kd)])=ev es++[(nm,V.ref y)]:=List.map_append
   rw[this];exact lo
 · rcases List.mem_append.mp m with m|m
   · exact h.ek e m
   · rw[List.mem_singleton.mp m];exact⟨en,pls⟩
 · have:B.map (nmB ((es++[(nm,y,kd)]).map (·.1)))=B.map (nmB (es.map (·.1))):=List.map_congr_left fun c m=>by
     rw[List.map_append];exact qjh (by rw[List.length_map];exact(h.bk c m).1) (by rw[List.length_map];exact(h.bk c m).2)
   rw[this];exact j7 h.tb b h.lo.he fun _ z=>nomatch z
 · rw[List.length_append];exact⟨Nat.lt_add_right _ (h.bk c m).1,Nat.lt_add_right _ (h.bk c m).2⟩
theorem Wd.clock (h:Wd a E H p x td ed bl us es zs B) (b:But td H H') {vs:Pls} (lo:Lo a H' x td ed bl (tv vs) (ev es) zs) (tt:∀ u∈vs,Tb a E u.2.1 u.2.2) (tg:∀ u∈vs,Good u.2.2) (e:vs.map (·.1)=us.map (·.1)):Wd a E H' p x td ed bl vs es zs B:=by
 obtain⟨s,q⟩:=h.but b (by simp) h.px.2.1;exact⟨s,h.no,q,h.pb,lo,tt,tg,fun c m=>⟨(h.ek c m).1,fun z mz=>by rw[e];exact(h.ek c m).2 z mz⟩,j7 h.tb b h.lo.ht (fun _ z=>nomatch z),h.bk⟩
theorem Wd.tq (h:Wd a E H p x td ed bl us es zs B):Tq a H td us:=⟨h.lo.ht,fun u m=>(h.tt u m).sm h.sm,h.tg,by rw[← zU];exact h.lo.ndt⟩
theorem Wd.esok (h:Wd a E H p x td ed bl us es zs B):EsOk a H us es:=h.ek.same h.sm
theorem Wd.old {G:Hp} (h:Wd a E H p x td ed bl us es zs B) (k:∀ b o,H b=some o->(∀ xs,o≠.tup xs)->G b=none):∀ b∈[p,x,td,ed,bl],G b=none:=fun b m=>by
 simp only[List.mem_cons,List.not_mem_nil,or_false]at m;rcases m with rfl|rfl|rfl|rfl|rfl
 · obtain⟨_,_,_,e⟩:=h.pl;exact k _ _ e fun _ z=>nomatch z
 · obtain⟨_,e⟩:=h.lo.hx;exact k _ _ e fun _ z=>nomatch z
 · exact k _ _ h.lo.ht fun _ z=>nomatch z
 · exact k _ _ h.lo.he fun _ z=>nomatch z
 · exact k _ _ h.lo.hb fun _ z=>nomatch z
theorem Wd.frc {G:Hp}{f:Addr}{rs:List (List (Int×Int))}{C:List B3} (h:Wd a E H p x td ed bl us es zs B) (k:∀ b o,H b=some o->(∀ xs,o≠.tup xs)->G b=none) (s:Same G H') (fr:FrC a G f rs C):FrC a (cut H' [p,x,td,ed,bl]) f rs C:=fr.same (Same.cut s (h.old k))
theorem qjO {y:Addr}{rows:List (Int×Int)}{S:List Addr} (h:Tb a H y rows) (g:Good rows) (n:∀ b∈S,PoolAt H b∨(∃ dx,H b=some (.ins a.c_Log dx (fsL td ed bl)))∨(∃ kv,H b=some (.dK kv))∨∃ (ws:List V) (bs:List (Str×Str×Int)),H b=some (.lst ws)∧TupL prB H ws bs):Tb a (cut H S) y rows:=by
 obtain⟨k,dx,ks,h1,h2,h3⟩:=h;have p0:=jX g;obtain⟨t0,hz0,ht0⟩:=h3.at_ (i:=0) (List.getElem?_eq_getElem p0);refine⟨k,dx,ks,?_,?_,h3.1,fun j z y e1 e2=>?_⟩
 · rw[qH fun m=>?_]
   · exact h1
   · rcases n _ m with ⟨_,_,_,e⟩|⟨_,e⟩|⟨_,e⟩|⟨_,_,e,_⟩
     · rw[h1]at e;cases e
     · rw[h1]at e;injection e with e;injection e with _ _ e;have h:(1:Nat)=3:=congrArg List.length e;cases h
     · rw[h1]at e;cases e
     · rw[h1]at e;cases e
 · rw[qH fun m=>?_]
   · exact h2
   · rcases n _ m with ⟨_,_,_,e⟩|⟨_,e⟩|⟨_,e⟩|⟨ws,bs,e,tw⟩
     · rw[h2]at e;injection e with e;injection e with e;rw[e]at hz0;cases hz0
     · rw[h2]at e;cases e
     · rw[h2]at e;cases e
     · rw[h2]at e;injection e with e;injection e with e;rw[e]at hz0;obtain⟨q,u,hq,eu,hu⟩:=tw.of hz0;cases eu;rw[ht0]at hu;cases hu
 · obtain⟨t,et,ht⟩:=h3.2 j z y e1 e2;refine⟨t,et,?_⟩;rw[qH fun m=>?_]
   · exact ht
   · rcases n _ m with ⟨_,_,_,e⟩|⟨_,e⟩|⟨_,e⟩|⟨_,_,e,_⟩<;>(rw[ht]at e;cases e)
end
theorem qil {l:List Str} (h:l.Nodup) {i j:Nat} (hi:i < l.length) (hj:j < l.length):(l.getD i ("":Str)=l.getD j ("":Str))↔i=j:=by
 rw[List.getD_eq_getElem?_getD,List.getD_eq_getElem?_getD,List.getElem?_eq_getElem hi,List.getElem?_eq_getElem hj];constructor
 · intro e;exact(List.getElem_inj h).mp e
 · rintro rfl;rfl
theorem qiv {ks:List Str}{g i:Nat} (n:i≠g):(ks.eraseIdx g).getD (subG g i) ("":Str)=ks.getD i ("":Str):=by
 rw[List.getD_eq_getElem?_getD,List.getD_eq_getElem?_getD,List.getElem?_eraseIdx];unfold subG;by_cases c:g < i
 · rw[if_pos c,if_neg (by omega),show i - 1+1=i by omega]
 · rw[if_neg c,if_pos (by omega)]
theorem qcf {ks:List Str} (nd:ks.Nodup) {g:Nat} (hg:g < ks.length):∀ {B:List B3},(∀ b∈B,b.1 < ks.length∧b.2.1 < ks.length)->(B.map (nmB ks)).filter (nok (ks.getD g ("":Str)))=(wob g B).map (nmB (ks.eraseIdx g))
 | [],_=>rfl
 | b::B,h=>by
   obtain⟨h1,h2⟩:=h b List.mem_cons_self;have ih:=qcf nd hg fun c m=>h c (List.mem_cons_of_mem _ m)
   have e:nok (ks.getD g ("":Str)) (nmB ks b)=qgN g b:=by
     show (!decide (ks.getD g ("":Str)=ks.getD b.1 ("":Str)) && !decide (ks.getD g ("":Str)=ks.getD b.2.1 ("":Str)))=(!decide (b.1=g) && !decide (b.2.1=g));rw[decide_eq_decide.mpr ((qil nd hg h1).trans eq_comm),decide_eq_decide.mpr ((qil nd hg h2).trans eq_comm)]
   unfold wob at ih ⊢;rw[List.map_cons,List.filter_cons,List.filter_cons,e];by_cases c:qgN g b=true
   · rw[if_pos c,if_pos c,List.map_cons,List.map_cons,ih];congr 1;have c':=c;unfold qgN at c';rw[Bool.and_eq_true,Bool.not_eq_true',Bool.not_eq_true',decide_eq_false_iff_not,decide_eq_false_iff_not]at c';unfold nmB;dsimp only;rw[qiv c'.1,qiv c'.2]
   · rw[if_neg c,if_neg c,ih]
theorem qjK {n g:Nat} (hg:g < n) {B:List B3} (h:∀ b∈B,b.1 < n∧b.2.1 < n):∀ b∈wob g B,b.1 < n - 1∧b.2.1 < n - 1:=fun b m=>by
 obtain⟨c,mc,rfl⟩:=List.mem_map.mp m;obtain⟨mc,ok⟩:=List.mem_filter.mp mc;obtain⟨h1,h2⟩:=h c mc;unfold qgN at ok;rw[Bool.and_eq_true,Bool.not_eq_true',Bool.not_eq_true',decide_eq_false_iff_not,decide_eq_false_iff_not]at ok;unfold subG;dsimp only;split<;>split<;>omega
theorem qiJ (g:Nat) (B:List B3):(wob g B).length≤B.length:=by
 unfold wob;rw[List.length_map];exact List.length_filter_le _ _
theorem qiu {α:Type} (f:α->Str):∀ {l:List α}{g:Nat} (hg:g < l.length),(l.map f).Nodup->l.filter (fun n=>decide (f n≠f l[g]))=l.eraseIdx g
 | x::l,0,_,nd=>by
   rw[List.map_cons,List.nodup_cons]at nd;rw[List.filter_cons,if_neg (by simp)];show l.filter (fun n=>decide (f n≠f x))=l;exact List.filter_eq_self.mpr fun n m=>decide_eq_true fun e=>nd.1 (e▸List.mem_map.mpr ⟨n,m,rfl⟩)
 | x::l,g+1,hg,nd=>by
   rw[List.map_cons,List.nodup_cons]at nd;have hg':g < l.length:=by rw[List.length_cons]at hg;omega
   have n:f x≠f l[g]:=fun e=>nd.1 (e▸List.mem_map.mpr ⟨_,List.getElem_mem hg',rfl⟩);show (x::l).filter (fun n=>decide (f n≠f l[g]))=x::l.eraseIdx g;rw[List.filter_cons,if_pos (decide_eq_true n)];rw[qiu f hg' nd.2]
theorem qep {α β:Type} (f:α->β):∀ (l:List α) (g:Nat),(l.eraseIdx g).map f=(l.map f).eraseIdx g
 | [],_=>rfl
 | _::_,0=>rfl
 | x::l,g+1=>by
   show f x::(l.eraseIdx g).map f=f x::(l.map f).eraseIdx g;rw[qep f l g]
def j6 (us:Pls) (pl:Str) (y:Addr) (rows:List (Int×Int)):Pls:=us.map fun u=>if u.1=pl then (u.1,y,rows) else u
theorem QR (us:Pls) (pl:Str) (y:Addr) (rows:List (Int×Int)):(j6 us pl y rows).map (·.1)=us.map (·.1):=by
 unfold j6;rw[List.map_map]
 exact List.map_congr_left fun u _=>by
   show (if u.1=pl then (u.1,y,rows) else u).1=u.1;split<;>rfl
theorem qiX (us:Pls) (pl:Str) (y:Addr) (rows:List (Int×Int)):tv (j6 us pl y rows)=(tv us).map fun p=>if p.1=pl then (p.1,V.ref y) else p:=by
 unfold j6 tv;rw[List.map_map,List.map_map]
 exact List.map_congr_left fun u _=>by
   show ((if u.1=pl then (u.1,y,rows) else u).1,V.ref (if u.1=pl then (u.1,y,rows) else u).2.1)=if u.1=pl then (u.1,V.ref y) else (u.1,V.ref u.2.1)
   by_cases c:u.1=pl
   · rw[if_pos c,if_pos c]
   · rw[if_neg c,if_neg c]
theorem qiU {ps:List (Str×V)}{pl:Str} (w:V) (h:pl∈ps.map (·.1)):qce (skv ps) (.inr pl) w=skv (ps.map fun p=>if p.1=pl then (p.1,w) else p):=by
 unfold qce;rw[if_pos]
 · unfold skv;rw[List.map_map,List.map_map];refine List.map_congr_left fun p _=>?_;show (if (Sum.inr p.1:Key)=Sum.inr pl then ((Sum.inr p.1:Key),w) else ((Sum.inr p.1:Key),p.2))=((Sum.inr (if p.1=pl then (p.1,w) else p).1:Key),(if p.1=pl then (p.1,w) else p).2);by_cases e:p.1=pl
   · rw[if_pos (by rw[e]),if_pos e]
   · rw[if_neg (fun z=>e (by injection z)),if_neg e]
 · obtain⟨p,m,e⟩:=List.mem_map.mp h;refine List.any_eq_true.mpr ⟨((Sum.inr p.1:Key),p.2),List.mem_map.mpr ⟨p,m,rfl⟩,decide_eq_true ?_⟩;show (Sum.inr p.1:Key)=Sum.inr pl;rw[show p.1=pl from e]
theorem qei {us:Pls}{pl:Str} (y:Addr) (rows:List (Int×Int)) (h:pl∈us.map (·.1)):qce (skv (tv us)) (.inr pl) (.ref y)=skv (tv (j6 us pl y rows)):=by
 rw[qiX];exact qiU _ (by rw[zU];exact h)
theorem qbN {us:Pls}{pl:Str}{y:Addr}{rows:List (Int×Int)}{t:Str×Addr×List (Int×Int)} (h:t∈j6 us pl y rows):(t=(pl,y,rows)∧pl∈us.map (·.1))∨(t∈us∧t.1≠pl):=by
 obtain⟨u,m,rfl⟩:=List.mem_map.mp h;by_cases c:u.1=pl
 · rw[if_pos c,c];exact .inl ⟨rfl,c▸List.mem_map.mpr ⟨u,m,rfl⟩⟩
 · rw[if_neg c];exact .inr ⟨m,c⟩
theorem qiY {us:Pls}{pl:Str} (y:Addr) (rows:List (Int×Int)) (h:pl∈us.map (·.1)):(pl,y,rows)∈j6 us pl y rows:=by
 obtain⟨u,m,e⟩:=List.mem_map.mp h;exact List.mem_map.mpr ⟨u,m,by show (if u.1=pl then (u.1,y,rows) else u)=_;rw[if_pos e,e]⟩
abbrev ZT:List (Int×Int):=[(0,1440),(7,-2880)]
abbrev qjF:List (Int×Int):=[(3,6),(4323,4340)]
theorem qj0 {us:Pls}{pl:Str}{y:Addr} (h:pl∈us.map (·.1)) (n:Int):Sh (j6 us pl y ZT) pl 1443 1460 n↔Mem qjF n:=by
 have key:Mem (shw ZT 1443 1460) n↔Mem qjF n:=by
   have:shw ZT 1443 1460=qjF:=by decide +kernel
   rw[this]
 constructor
 · rintro⟨t,m,e,hm⟩;rcases qbN m with ⟨rfl,_⟩|⟨_,c⟩
   · exact key.mp hm
   · exact absurd e c
 · intro hm;exact⟨_,qiY y ZT h,rfl,key.mpr hm⟩
theorem qeZ:zi qjF:=by
 refine⟨fun w m=>?_,?_⟩
 · simp only[List.mem_cons,List.not_mem_nil,or_false]at m;rcases m with rfl|rfl<;>decide
 · exact .cons (fun w m=>by rw[List.mem_singleton.mp m];decide) (List.pairwise_singleton _ _)
theorem qht {us ts:Pls} (e:us.map key=ts.map key) {pl:Str}{y y':Addr}{rows rows':List (Int×Int)} (h:(pl,rows)∈ts.map key) (nd:(ts.map (·.1)).Nodup):(j6 (j6 us pl y rows') pl y' rows).map key=ts.map key:=by
 rw[← e];unfold j6;rw[List.map_map,List.map_map];refine List.map_congr_left fun u m=>?_;show key (if (if u.1=pl then (u.1,y,rows') else u).1=pl then ((if u.1=pl then (u.1,y,rows') else u).1,y',rows) else (if u.1=pl then (u.1,y,rows') else u))=key u;by_cases c:u.1=pl
 · rw[if_pos c,if_pos c];have mu:key u∈ts.map key:=by rw[← e];exact List.mem_map.mpr ⟨u,m,rfl⟩
   obtain⟨t,mt,et⟩:=List.mem_map.mp h;obtain⟨t',mt',et'⟩:=List.mem_map.mp mu;injection et with e1 e2;injection et' with e3 e4
   have:t=t':=qij nd mt mt' (by rw[e1,e3,c])
   show (u.1,rows)=(u.1,u.2.2);rw[← e2,← e4,this]
 · rw[if_neg c,if_neg c]
def qg0 (K:Frag) (t:Addr):Sp:=fun vs H Q _=>∃ (sa:Addr) (ns:List Int),vs=[.ref sa]∧SqL K H sa (ns.map V.int)∧ns.length≤63∧qkZ H t qin qlj∧∀ H',Q (.bl true) H'
abbrev WsD (ds:List Dr):List (List (Int×Int)):=ds.map (·.2.2.2.2.1)
theorem qdS {a:Ad}{E:Hp}{us ts:Pls}{ds:List Dr}{rs:List (List (Int×Int))} (ek:us.map key=ts.map key) (spd:Spd us (esD ds) rs) (dn:∀ d∈ds,Dn a E ts d.1 d.2.1 d.2.2.1 d.2.2.2.1 d.2.2.2.2.1 d.2.2.2.2.2):rs.length=(WsD ds).length∧∀ (i:Nat) r W,rs[i]?=some r->(WsD ds)[i]?=some W->zi r∧∀ n,Mem r n↔Mem W n:=by
 refine⟨by rw[spd.1,List.length_map,List.length_map],fun i r W h1 h2=>?_⟩;obtain⟨d,hd,rfl⟩:=zh h2;obtain⟨c,m⟩:=spd.2 i r _ h1 (show (esD ds)[i]?=some (d.2.1,d.2.2.1,d.2.2.2.1) by rw[List.getElem?_map,hd];rfl);refine⟨c,fun n=>(m n).trans ((qaD ek _ n).trans ?_)⟩
 cases dn d (List.mem_of_getElem? hd) with
 | mk _ _ _ _ _ z6 _=>exact(z6 n).symm
theorem qjJ {a:Ad}{E:Hp}{ts:Pls}{ds:List Dr} (dn:∀ d∈ds,Dn a E ts d.1 d.2.1 d.2.2.1 d.2.2.2.1 d.2.2.2.2.1 d.2.2.2.2.2):∀ W∈WsD ds,Sd W∧W.length≤100:=fun W m=>by
 obtain⟨d,md,rfl⟩:=List.mem_map.mp m
 cases dn d md with
 | mk _ _ _ z4 z5 _ _=>exact⟨z4,z5⟩
theorem qgT {a:Ad}{E H1 H2:Hp}{p x td ed bl el:Addr}{us ts:Pls}{ds:List Dr}{zs:List V}{B:List B3} (sE:Same E H1) (np:E p=none) (pl:PoolAt H1 p) (hE:El a E ts el ds) (bok:BOk ds.length B) (fx:H1 x=none) (ftd:H1 td=none) (fed:H1 ed=none) (fbl:H1 bl=none) (S2:Same H1 H2) (lg:Lg a H2 x td ed bl us (esD ds) zs B) (ek:us.map key=ts.map key):Wd a (cut H2 [p,x,td,ed,bl]) H2 p x td ed bl us (esD ds) zs B∧Same E (cut H2 [p,x,td,ed,bl]):=by
 have SE:Same E (cut H2 [p,x,td,ed,bl]):=Same.cut (sE.trans S2) fun b m=>by
   simp only[List.mem_cons,List.not_mem_nil,or_false]at m;rcases m with rfl|rfl|rfl|rfl|rfl
   · exact np
   · exact Same.none sE fx
   · exact Same.none sE ftd
   · exact Same.none sE fed
   · exact Same.none sE fbl
 refine⟨⟨qv _ _,fun b m=>qy m,pl.same S2,PoolAt.ne pl fbl,lg.lo,fun u m=>qjO (td:=td) (ed:=ed) (bl:=bl) (lg.tt u m) (lg.tg u m) fun b mb=>?_,lg.tg,fun e m=>?_,lg.tb,fun b m=>?_⟩,SE⟩
 · simp only[List.mem_cons,List.not_mem_nil,or_false]at mb;rcases mb with rfl|rfl|rfl|rfl|rfl
   · exact .inl (pl.same S2)
   · exact .inr (.inl lg.lo.hx)
   · exact .inr (.inr (.inl ⟨_,lg.lo.ht⟩))
   · exact .inr (.inr (.inl ⟨_,lg.lo.he⟩))
   · exact .inr (.inr (.inr ⟨zs,_,lg.lo.hb,lg.tb⟩))
 · obtain⟨d,md,rfl⟩:=List.mem_map.mp m
   cases hE.dn d md with
   | mk _ z2 _ _ _ _ z7=>exact⟨z2.same SE,fun s ms=>by rw[jV ek];exact z7 s ms⟩
 · obtain⟨h1,h2,_⟩:=bok.2 b m;rw[List.length_map];exact⟨h1,h2⟩
theorem Wd.max {a:Ad}{E H:Hp}{p x td ed bl:Addr}{us:Pls}{es:Es}{zs:List V}{B:List B3} (h:Wd a E H p x td ed bl us es zs B):Wd a (cut H [p,x,td,ed,bl]) H p x td ed bl us es zs B:=h.grow h.top (qv _ _) fun _ m=>qy m
theorem Wd.rs {a:Ad}{E H:Hp}{p x td ed bl o:Addr}{us:Pls}{es:Es}{zs:List V}{B:List B3}{R:List (Int×Int)} (h:Wd a E H p x td ed bl us es zs B) (r:Rs H o R) (n:o∉[p,x,td,ed,bl]):Rs (cut H [p,x,td,ed,bl]) o R:=by
 obtain⟨ws,h1,h2⟩:=r;refine⟨ws,by rw[qH n];exact h1,h2.1,fun j z y e1 e2=>?_⟩;obtain⟨t,et,ht⟩:=h2.2 j z y e1 e2;refine⟨t,et,?_⟩;rw[qH fun m=>?_]
 · exact ht
 · simp only[List.mem_cons,List.not_mem_nil,or_false]at m;rcases m with rfl|rfl|rfl|rfl|rfl
   · obtain⟨_,_,_,e⟩:=h.pl;rw[e]at ht;cases ht
   · obtain⟨_,e⟩:=h.lo.hx;rw[e]at ht;cases ht
   · rw[h.lo.ht]at ht;cases ht
   · rw[h.lo.he]at ht;cases ht
   · rw[h.lo.hb]at ht;cases ht
theorem Wd.topX {a:Ad}{E H:Hp}{p x td ed bl:Addr}{us:Pls}{es:Es}{zs:List V}{B:List B3} (h:Wd a E H p x td ed bl us es zs B) {X:List Addr} (n:∀ b∈X,E b=none):Same E (cut H (X++[p,x,td,ed,bl])):=Same.cut h.sm fun b m=>(List.mem_append.mp m).elim (n b) (h.no b)
theorem Wd.maxX {a:Ad}{E H:Hp}{p x td ed bl:Addr}{us:Pls}{es:Es}{zs:List V}{B:List B3} (h:Wd a E H p x td ed bl us es zs B) {X:List Addr} (n:∀ b∈X,E b=none):Wd a (cut H (X++[p,x,td,ed,bl])) H p x td ed bl us es zs B:=h.grow (h.topX n) (qv _ _) fun _ m=>qy (List.mem_append.mpr (.inr m))
theorem Wd.frcX {a:Ad}{E H H':Hp}{p x td ed bl:Addr}{us:Pls}{es:Es}{zs:List V}{B:List B3}{G:Hp}{f:Addr}{rs:List (List (Int×Int))}{C:List B3}{X:List Addr} (h:Wd a E H p x td ed bl us es zs B) (k:∀ b o,H b=some o->(∀ xs,o≠.tup xs)->G b=none) (n:∀ b∈X,∃ xs,H b=some (.lst xs)) (s:Same G H') (fr:FrC a G f rs C):FrC a (cut H' (X++[p,x,td,ed,bl])) f rs C:=fr.same (Same.cut s fun b m=>(List.mem_append.mp m).elim (fun m=>by obtain⟨_,e⟩:=n b m;exact k _ _ e fun _ z=>nomatch z) (h.old k b))
theorem qfk {a:Ad}{E:Hp}{us ts:Pls}{ds:List Dr}{rs:List (List (Int×Int))} (ek:us.map key=ts.map key) {nm:Str}{y:Addr}{t:Str×Addr×List (Int×Int)} (nd:(ts.map (·.1)).Nodup) (mt:t∈ts) {lo hi:Int} (spd:Spd us (esD ds++[(nm,y,.bt t.1 lo hi)]) rs) (dn:∀ d∈ds,Dn a E ts d.1 d.2.1 d.2.2.1 d.2.2.2.1 d.2.2.2.2.1 d.2.2.2.2.2):rs.length=(WsD ds++[bwn t.2.2 lo hi]).length∧∀ (i:Nat) r W,rs[i]?=some r->(WsD ds++[bwn t.2.2 lo hi])[i]?=some W->zi r∧∀ n,Mem r n↔Mem W n:=by
 have l1:(esD ds).length=ds.length:=List.length_map _;have l2:(WsD ds).length=ds.length:=List.length_map _;refine⟨by rw[spd.1,List.length_append,List.length_append,l1,l2];rfl,fun i r W h1 h2=>?_⟩;by_cases c:i < ds.length
 · rw[List.getElem?_append_left (by omega)]at h2;obtain⟨d,hd,rfl⟩:=zh h2;obtain⟨cc,m⟩:=spd.2 i r _ h1 (show (esD ds++[(nm,y,.bt t.1 lo hi)])[i]?=some (d.2.1,d.2.2.1,d.2.2.2.1) by rw[List.getElem?_append_left (by omega),List.getElem?_map,hd];rfl);refine⟨cc,fun n=>(m n).trans ((qaD ek _ n).trans ?_)⟩
   cases dn d (List.mem_of_getElem? hd) with
   | mk _ _ _ _ _ z6 _=>exact(z6 n).symm
 · rw[List.getElem?_append_right (by omega),l2]at h2;have e0:i - ds.length=0:=by have:=(List.getElem?_eq_some_iff.mp h2).1;simp only[List.length_cons,List.length_nil]at this;omega
   rw[e0]at h2;cases h2;obtain⟨cc,m⟩:=spd.2 i r (nm,y,.bt t.1 lo hi) h1 (by rw[List.getElem?_append_right (by omega),l1,e0];rfl);exact⟨cc,fun n=>(m n).trans ((qaD ek _ n).trans (mem_okw.trans (qdq nd mt)).symm)⟩
theorem qkE {H:Hp}{S:List Addr}{s:Addr}{Ws:List (List (Int×Int))}{qs:List Addr}{E:Hp} (h:H s=some (.lst (qs.map V.ref))) (n:s∉S) (l:qs.length=Ws.length) (k:∀ (i:Nat) q W,qs[i]?=some q->Ws[i]?=some W->Rs E q W) (se:Same E (cut H S)) (ok:∀ W∈Ws,Sd W∧W.length≤100):Fs (cut H S) s Ws:=⟨⟨qs,by rw[qH n];exact h,l,fun i q W e1 e2=>(k i q W e1 e2).same se⟩,ok⟩
theorem Wd.fresh {a:Ad}{E H:Hp}{p x td ed bl b:Addr}{us:Pls}{es:Es}{zs:List V}{B:List B3} (h:Wd a E H p x td ed bl us es zs B) (f:H b=none):b∉[p,x,td,ed,bl]:=fun m=>by
 simp only[List.mem_cons,List.not_mem_nil,or_false]at m;rcases m with rfl|rfl|rfl|rfl|rfl
 · obtain⟨_,_,_,e⟩:=h.pl;rw[e]at f;cases f
 · obtain⟨_,e⟩:=h.lo.hx;rw[e]at f;cases f
 · rw[h.lo.ht]at f;cases f
 · rw[h.lo.he]at f;cases f
 · rw[h.lo.hb]at f;cases f
theorem qjN {a:Ad}{H:Hp}{y:Addr}{rows:List (Int×Int)}{S:List Addr} (h:Tb a H y rows) (g:Good rows) (n1:∀ b∈S,∀ dx k,H b≠some (.ins a.c_Table dx (qjE k))) (n2:∀ b∈S,∀ ws t r,H b=some (.lst ws)->ws[0]?=some (.ref t)->H t≠some (.tup (pr r))) (n3:∀ b∈S,∀ xs,H b≠some (.tup xs)):Tb a (cut H S) y rows:=by
 obtain⟨k,dx,ks,h1,h2,h3⟩:=h;have p0:=jX g;obtain⟨t0,hz0,ht0⟩:=h3.at_ (i:=0) (List.getElem?_eq_getElem p0);refine⟨k,dx,ks,?_,?_,h3.1,fun j z y e1 e2=>?_⟩
 · rw[qH fun m=>n1 _ m _ _ h1];exact h1
 · rw[qH fun m=>n2 _ m _ _ _ h2 hz0 ht0];exact h2
 · obtain⟨t,et,ht⟩:=h3.2 j z y e1 e2;exact⟨t,et,by rw[qH fun m=>n3 _ m _ ht];exact ht⟩
section
variable {a:Ad}{E H H':Hp}{p x td ed bl:Addr}{us:Pls}{es:Es}{zs:List V}{B:List B3}
def NoT (H:Hp) (b:Addr):Prop:=∃ ws,H b=some (.lst ws)∧∀ t xs,ws[0]?=some (V.ref t)->H t≠some (.tup xs)
theorem Wd.tbX (h:Wd a E H p x td ed bl us es zs B) {X:List Addr} (nX:∀ b∈X,NoT H b) {y:Addr}{rows:List (Int×Int)} (g:Good rows) (T:Tb a H y rows):Tb a (cut H (X++[p,x,td,ed,bl])) y rows:=by
 refine qjN T g (fun b m dx k e=>?_) (fun b m ws t r e1 e2 e3=>?_) (fun b m xs e=>?_)
 · rcases List.mem_append.mp m with m|m
   · obtain⟨_,e',_⟩:=nX b m;rw[e']at e;cases e
   simp only[List.mem_cons,List.not_mem_nil,or_false]at m;rcases m with rfl|rfl|rfl|rfl|rfl
   · obtain⟨_,_,_,e'⟩:=h.pl;rw[e']at e;cases e
   · obtain⟨_,e'⟩:=h.lo.hx;rw[e']at e;injection e with e;injection e with _ _ e;have h:(3:Nat)=1:=congrArg List.length e;cases h
   · rw[h.lo.ht]at e;cases e
   · rw[h.lo.he]at e;cases e
   · rw[h.lo.hb]at e;cases e
 · rcases List.mem_append.mp m with m|m
   · obtain⟨_,e',k'⟩:=nX b m;rw[e']at e1;cases e1;exact k' _ _ e2 e3
   simp only[List.mem_cons,List.not_mem_nil,or_false]at m;rcases m with rfl|rfl|rfl|rfl|rfl
   · obtain⟨_,_,_,e'⟩:=h.pl;rw[e']at e1;injection e1 with e1;injection e1 with e1;rw[← e1]at e2;cases e2
   · obtain⟨_,e'⟩:=h.lo.hx;rw[e']at e1;cases e1
   · rw[h.lo.ht]at e1;cases e1
   · rw[h.lo.he]at e1;cases e1
   · rw[h.lo.hb]at e1;injection e1 with e1;injection e1 with e1;rw[← e1]at e2;obtain⟨q,u,hq,eu,hu⟩:=h.tb.of e2;cases eu;rw[hu]at e3;cases e3
 · rcases List.mem_append.mp m with m|m
   · obtain⟨_,e',_⟩:=nX b m;rw[e']at e;cases e
   simp only[List.mem_cons,List.not_mem_nil,or_false]at m;rcases m with rfl|rfl|rfl|rfl|rfl
   · obtain⟨_,_,_,e'⟩:=h.pl;rw[e']at e;cases e
   · obtain⟨_,e'⟩:=h.lo.hx;rw[e']at e;cases e
   · rw[h.lo.ht]at e;cases e
   · rw[h.lo.he]at e;cases e
   · rw[h.lo.hb]at e;cases e
theorem Wd.butX (h:Wd a E H p x td ed bl us es zs B) {L:Addr}{xs:List V} (b:But L H H') (n:L∉[p,x,td,ed,bl]) (hE:E L=none) (hL:H L=some (.lst xs)):Wd a E H' p x td ed bl us es zs B:=by
 have ne:∀ c∈[p,x,td,ed,bl],c≠L:=fun c m e=>n (e▸m);refine⟨fun c o e=>b _ _ (h.sm _ _ e) (qi e hE),h.no,?_,h.pb,⟨?_,b _ _ h.lo.ht (ne _ (by simp)),b _ _ h.lo.he (ne _ (by simp)),b _ _ h.lo.hb (ne _ (by simp)),h.lo.ne,h.lo.ndt,h.lo.nde⟩,h.tt,h.tg,h.ek,TupL.butB h.tb b hL (fun _ z=>nomatch z),h.bk⟩
 · obtain⟨u,v,w,e⟩:=h.pl;exact⟨u,v,w,b _ _ e (ne _ (by simp))⟩
 · obtain⟨dx,e⟩:=h.lo.hx;exact⟨dx,b _ _ e (ne _ (by simp))⟩
theorem Wd.freshX (h:Wd a E H p x td ed bl us es zs B) {X:List Addr} (k:∀ b∈X,∃ o,H b=some o) {b:Addr} (f:H b=none):b∉X++[p,x,td,ed,bl]:=fun m=>by
 rcases List.mem_append.mp m with m|m
 · obtain⟨_,e⟩:=k b m;rw[f]at e;cases e
 · exact h.fresh f m
theorem Wd.drop (h:Wd a E H p x td ed bl us es zs B) {g:Nat} (hg:g < es.length) {bl':Addr}{zs':List V} (fb:H bl'=none) (k:∀ b o,H b=some o->b≠x->b≠ed->H' b=some o) (lo:Lo a H' x td ed bl' (tv us) ((ev es).filter fun n=>decide (n.1≠(es.map (·.1)).getD g ("":Str))) zs') (tb:TupL prB H' zs' ((B.map (nmB (es.map (·.1)))).filter (nok ((es.map (·.1)).getD g ("":Str))))):Wd a E H' p x td ed bl' us (es.eraseIdx g) zs' (wob g B):=by
 obtain⟨n1,_,n3⟩:=h.px;have nd:(es.map (·.1)).Nodup:=by rw[← jp];exact h.lo.nde
 have hg':g < (ev es).length:=by rw[List.length_map];exact hg
 have en:(es.map (·.1)).getD g ("":Str)=(ev es)[g].1:=by
   rw[← jp,List.getD_eq_getElem?_getD,List.getElem?_map,List.getElem?_eq_getElem hg'];rfl
 have e1:((ev es).filter fun n=>decide (n.1≠(es.map (·.1)).getD g ("":Str)))=ev (es.eraseIdx g):=by
   rw[en,qiu (fun n:Str×V=>n.1) hg' h.lo.nde];exact(qep _ es g).symm
 rw[e1]at lo;refine⟨fun c o e=>k _ _ (h.sm _ _ e) (qi e (h.no x (by simp))) (qi e (h.no ed (by simp))),fun b m=>?_,?_,PoolAt.ne h.pl fb,lo,h.tt,h.tg,fun e m=>h.ek e (List.mem_of_mem_eraseIdx m),?_,fun b m=>?_⟩
 · simp only[List.mem_cons,List.not_mem_nil,or_false]at m;rcases m with rfl|rfl|rfl|rfl|rfl
   · exact h.no _ (by simp)
   · exact h.no _ (by simp)
   · exact h.no _ (by simp)
   · exact h.no _ (by simp)
   · exact Same.none h.sm fb
 · obtain⟨u,v,w,e⟩:=h.pl;exact⟨u,v,w,k _ _ e (Ne.symm n1) (Ne.symm n3)⟩
 · rw[qep];rw[qcf nd (by rw[List.length_map];exact hg) fun b m=>by rw[List.length_map];exact h.bk b m]at tb;exact tb
 · have:=qjK hg h.bk b m
   rw[List.length_eraseIdx,if_pos hg];exact this
theorem Wd.bind (h:Wd a E H p x td ed bl us es zs B) (b:But bl H H') {t:Addr}{i:Nat}{m:Int} (lo:Lo a H' x td ed bl (tv us) (ev es) (zs++[.ref t])) (ht:H' t=some (.tup (prB (nmB (es.map (·.1)) (i,i,m))))) (hi:i < es.length):Wd a E H' p x td ed bl us es (zs++[.ref t]) (B++[(i,i,m)]):=by
 obtain⟨s,q⟩:=h.but b (by simp) h.pb;refine⟨s,h.no,q,h.pb,lo,h.tt,h.tg,h.ek,?_,fun c m=>?_⟩
 · rw[List.map_append];exact(TupL.butB h.tb b h.lo.hb (fun _ z=>nomatch z)).snoc ht
 · rcases List.mem_append.mp m with m|m
   · exact h.bk c m
   · rw[List.mem_singleton.mp m];exact⟨hi,hi⟩
end
def Pw (us:Pls) (es:Es) (Ws:List (List (Int×Int))):Prop:=es.length=Ws.length∧∀ (i:Nat) e W,es[i]?=some e->Ws[i]?=some W->∀ n,MK us e.2.2 n↔Mem W n
theorem Pw.told {us:Pls}{es:Es}{Ws rs:List (List (Int×Int))} (h:Pw us es Ws) (s:Spd us es rs):rs.length=Ws.length∧∀ (i:Nat) r W,rs[i]?=some r->Ws[i]?=some W->zi r∧∀ n,Mem r n↔Mem W n:=⟨s.1.trans h.1,fun i r W e1 e2=>by
 have l:i < es.length:=by rw[h.1];exact(List.getElem?_eq_some_iff.mp e2).1
 obtain⟨c,m⟩:=s.2 i r _ e1 (List.getElem?_eq_getElem l)
 exact⟨c,fun n=>(m n).trans (h.2 i _ W (List.getElem?_eq_getElem l) e2 n)⟩⟩
theorem Pw.er {us:Pls}{es:Es}{Ws:List (List (Int×Int))} (h:Pw us es Ws) (g:Nat):Pw us (es.eraseIdx g) (Ws.eraseIdx g):=⟨by rw[List.length_eraseIdx,List.length_eraseIdx,h.1],fun i e W e1 e2=>by
 rw[List.getElem?_eraseIdx]at e1 e2;by_cases c:i < g
 · rw[if_pos c]at e1 e2;exact h.2 _ _ _ e1 e2
 · rw[if_neg c]at e1 e2;exact h.2 _ _ _ e1 e2⟩
theorem snoc_get {α:Type}{l:List α}{x y:α}{i:Nat} (h:(l++[x])[i]?=some y):(i < l.length∧l[i]?=some y)∨(i=l.length∧y=x):=by
 by_cases c:i < l.length
 · rw[List.getElem?_append_left c]at h;exact .inl ⟨c,h⟩
 · rw[List.getElem?_append_right (by omega)]at h;have e0:i - l.length=0:=by have:=(List.getElem?_eq_some_iff.mp h).1;simp only[List.length_cons,List.length_nil]at this;omega
   rw[e0]at h;cases h;exact .inr ⟨by omega,rfl⟩
theorem Pw.snoc {us:Pls}{es:Es}{Ws:List (List (Int×Int))} (h:Pw us es Ws) {e:Str×Addr×Kd}{W:List (Int×Int)} (k:∀ n,MK us e.2.2 n↔Mem W n):Pw us (es++[e]) (Ws++[W]):=⟨by rw[List.length_append,List.length_append,h.1];rfl,fun i f V e1 e2=>by
 have l:=h.1;rcases snoc_get e1 with ⟨c,e1⟩|⟨c,rfl⟩
 · rcases snoc_get e2 with ⟨_,e2⟩|⟨c',_⟩
   · exact h.2 i f V e1 e2
   · omega
 · rcases snoc_get e2 with ⟨c',e2⟩|⟨_,rfl⟩
   · omega
   · exact k⟩
theorem qlf {a:Ad}{E:Hp}{us ts:Pls}{ds:List Dr} (ek:us.map key=ts.map key) (dn:∀ d∈ds,Dn a E ts d.1 d.2.1 d.2.2.1 d.2.2.2.1 d.2.2.2.2.1 d.2.2.2.2.2):Pw us (esD ds) (WsD ds):=⟨by rw[List.length_map,List.length_map],fun i e W e1 e2=>by
 obtain⟨d,hd,rfl⟩:=zh e2;rw[List.getElem?_map,hd]at e1;cases e1
 cases dn d (List.mem_of_getElem? hd) with
 | mk _ _ _ _ _ z6 _=>exact fun n=>(qaD ek _ n).trans (z6 n).symm⟩
theorem qie {a:Ad}{E:Hp}{us ts:Pls}{ds:List Dr} (ek:us.map key=ts.map key) {nm:Str}{y:Addr}{t:Str×Addr×List (Int×Int)} (nd:(ts.map (·.1)).Nodup) (mt:t∈ts) {lo hi:Int} (dn:∀ d∈ds,Dn a E ts d.1 d.2.1 d.2.2.1 d.2.2.2.1 d.2.2.2.2.1 d.2.2.2.2.2):Pw us (esD ds++[(nm,y,.bt t.1 lo hi)]) (WsD ds++[bwn t.2.2 lo hi]) :=
 (qlf ek dn).snoc fun n=>(qaD ek _ n).trans (mem_okw.trans (qdq nd mt)).symm
structure Ls (E H:Hp) (L:Addr) (Ws:List (List (Int×Int))):Prop where
 ex:∃ qs:List Addr,H L=some (.lst (qs.map V.ref))∧qs.length=Ws.length∧∀ (i:Nat) q W,qs[i]?=some q->Ws[i]?=some W->Rs E q W
 ok:∀ W∈Ws,Sd W∧W.length≤100
theorem Ls.mv {E E' H H':Hp}{L:Addr}{Ws:List (List (Int×Int))} (h:Ls E H L Ws) (s:Same E E') (k:∀ o,H L=some o->H' L=some o):Ls E' H' L Ws:=⟨let ⟨qs,h1,h2,h3⟩:=h.ex;⟨qs,k _ h1,h2,fun i q W e1 e2=>(h3 i q W e1 e2).same s⟩,h.ok⟩
theorem Ls.fs {E H:Hp}{L:Addr}{Ws:List (List (Int×Int))} (h:Ls E H L Ws) (s:Same E H):Fs H L Ws:=⟨let ⟨qs,h1,h2,h3⟩:=h.ex;⟨qs,h1,h2,fun i q W e1 e2=>(h3 i q W e1 e2).same s⟩,h.ok⟩
theorem Ls.noT {E H:Hp}{L:Addr}{Ws:List (List (Int×Int))} (h:Ls E H L Ws) (s:Same E H):NoT H L:=by
 obtain⟨qs,h1,h2,h3⟩:=h.ex;refine⟨_,h1,fun t xs e k=>?_⟩;obtain⟨q,hq,eq⟩:=zh e;cases eq;have l:0 < Ws.length:=by rw[← h2];exact(List.getElem?_eq_some_iff.mp hq).1
 obtain⟨zs,z1,_⟩:=h3 0 _ _ hq (List.getElem?_eq_getElem l);rw[s _ _ z1]at k;cases k
theorem qli {E:Hp}{qs:List Addr}{Ws:List (List (Int×Int))} (l:qs.length=Ws.length) (k:∀ (i:Nat) q W,qs[i]?=some q->Ws[i]?=some W->Rs E q W) (g:Nat):(qs.eraseIdx g).length=(Ws.eraseIdx g).length∧∀ (i:Nat) q W,(qs.eraseIdx g)[i]?=some q->(Ws.eraseIdx g)[i]?=some W->Rs E q W:=⟨by rw[List.length_eraseIdx,List.length_eraseIdx,l],fun i q W e1 e2=>by
 rw[List.getElem?_eraseIdx]at e1 e2;by_cases c:i < g
 · rw[if_pos c]at e1 e2;exact k _ _ _ e1 e2
 · rw[if_neg c]at e1 e2;exact k _ _ _ e1 e2⟩
theorem qjl {E:Hp}{qs:List Addr}{Ws:List (List (Int×Int))} (l:qs.length=Ws.length) (k:∀ (i:Nat) q W,qs[i]?=some q->Ws[i]?=some W->Rs E q W) {q:Addr}{W:List (Int×Int)} (r:Rs E q W):(qs++[q]).length=(Ws++[W]).length∧∀ (i:Nat) q' W',(qs++[q])[i]?=some q'->(Ws++[W])[i]?=some W'->Rs E q' W':=⟨by rw[List.length_append,List.length_append,l];rfl,fun i q' W' e1 e2=>by
 rcases snoc_get e1 with ⟨c,e1⟩|⟨c,rfl⟩
 · rcases snoc_get e2 with ⟨_,e2⟩|⟨c',_⟩
   · exact k i q' W' e1 e2
   · omega
 · rcases snoc_get e2 with ⟨c',e2⟩|⟨_,rfl⟩
   · omega
   · exact r⟩
theorem qhT {a:Ad}{E:Hp}{us:Pls}{pl:Str}{y:Addr}{rows:List (Int×Int)} (h:∀ u∈us,Tb a E u.2.1 u.2.2) (k:Tb a E y rows):∀ u∈j6 us pl y rows,Tb a E u.2.1 u.2.2:=fun u m=>by
 rcases qbN m with ⟨rfl,_⟩|⟨m,_⟩
 · exact k
 · exact h u m
theorem qhU {us:Pls}{pl:Str}{y:Addr}{rows:List (Int×Int)} (h:∀ u∈us,Good u.2.2) (k:Good rows):∀ u∈j6 us pl y rows,Good u.2.2:=fun u m=>by
 rcases qbN m with ⟨rfl,_⟩|⟨m,_⟩
 · exact k
 · exact h u m
theorem Jb:Good ZT:=⟨by decide,⟨1440,rfl⟩,by unfold Asc;simp,fun r m=>by
 simp only[List.mem_cons,List.not_mem_nil,or_false]at m
 rcases m with rfl|rfl<;>decide⟩
theorem qhr {us:Pls}{es:Es}{rs:List (List (Int×Int))}{nm:Str}{y y2:Addr}{pl:Str} (h:pl∈us.map (·.1)) (s:Spd (j6 us pl y2 ZT) (es++[(nm,y,.bt pl 1443 1460)]) rs):rs.length=es.length+1∧rs[es.length]?=some qjF:=by
 have l:rs.length=es.length+1:=s.1.trans (by rw[List.length_append];rfl);refine⟨l,?_⟩;have hi:es.length < rs.length:=by omega
 rw[List.getElem?_eq_getElem hi];congr 1;obtain⟨c,m⟩:=s.2 es.length _ (nm,y,.bt pl 1443 1460) (List.getElem?_eq_getElem hi) (by rw[List.getElem?_append_right (Nat.le_refl _),Nat.sub_self];rfl);exact qaR c qeZ fun n=>(m n).trans (qj0 h n)
section
variable {P:Program}{w:World}{K:Frag}{mg:Str->Option Value}{base:Heap}
theorem qkm {a:Ad} (T:Txt K mg a) (hB:qgR mg base):FnOk P w K mg base CX0 11 a.f_ai a.fd_ai ["_law_script"] (qg0 K a.t_Lentry):=by
 have G_W:FnOk P w K mg base CX0 10 a.f_W a.fd_W ["_law_script","_law_most"] (qcp K a):=qfY T hB;have G_X:=qjb (P:=P) (w:=w) (base:=base) T;have G_i:=qdz (P:=P) (w:=w) (base:=base) T;have G_u:=qbz (P:=P) (w:=w) (base:=base) T;have G_t:=JF (P:=P) (w:=w) (base:=base) T;have G_B:=qaA (P:=P) (w:=w) (base:=base) T;have G_a:=ZP (P:=P) (w:=w) (base:=base) T;have G_l:=Qq (P:=P) (w:=w) (base:=base) T;have G_f:=qhg (P:=P) (w:=w) (base:=base) T;have G_z:=jU (P:=P) (w:=w) (base:=base) T;have G_d:=qem (P:=P) (w:=w) (base:=base) T;have G_ac:=qdC (P:=P) (w:=w) (base:=base) T;have G_Z:=qdA (P:=P) (w:=w) (base:=base) T;have G_b:=zG (P:=P) (w:=w) (base:=base) T;have G_p:=qaB (P:=P) (w:=w) (base:=base) T;have G_A:=jf (P:=P) (w:=w) (base:=base) T;refine T.d_ai.F.ok sc_law (fun vs H Q E h=>?_) (fun cdv A outer s H vs Q E hr h=>?_)
 · obtain⟨sa,ns,rfl,hS,l63,tb,kk⟩:=h;rfl
 · obtain⟨sa,ns,rfl,hS,l63,tb,kk⟩:=h;have hU:=hr.units;have h_W:Room (10) _:=hr.mono (by decide);have h_X:Room (8) _:=hr.mono (by decide);have h_i:Room (9) _:=hr.mono (by decide);have h_u:Room (3) _:=hr.mono (by decide);have h_t:Room (2) _:=hr.mono (by decide);have h_B:Room (4) _:=hr.mono (by decide);have h_a:Room (1) _:=hr.mono (by decide);have h_l:Room (5+1) _:=hr.mono (by decide);have h_f:Room (5) _:=hr.mono (by decide);have h_z:Room (6+1) _:=hr.mono (by decide);have h_d:Room (4) _:=hr.mono (by decide);have h_ac:Room (3) _:=hr.mono (by decide);have h_Z:Room (1) _:=hr.mono (by decide);have h_b:Room (3+1) _:=hr.mono (by decide);have h_p:Room (1) _:=hr.mono (by decide);have h_A:Room (2) _:=hr.mono (by decide)
   refine⟨_,(@qd _ _ _ _ _ (by exact(JB (qj G_W h_W rfl T.d_W.m T.d_W.k T.d_W.b .nil qm (qa (pv 0) (qa qe qb))) (zK rfl (qr (qq (i:=1) (sc_law.nd) rfl (Or.inl rfl)) (qr (qq (i:=2) (sc_law.nd) rfl (Or.inl rfl)) (qr (qq (i:=3) (sc_law.nd) rfl (Or.inl rfl)) (qr (qq (i:=4) (sc_law.nd) rfl (Or.inl rfl)) zg)))))))
     (by exact(@qd _ _ _ _ _ (by exact(qz (i:=5) sc_law.nd rfl (Or.inl rfl) (qj G_X h_X rfl T.d_X.m T.d_X.k T.d_X.b .nil qm (qa (pv 2) (qa (pv 3) (qa (pv 4) qb))))))
     (by exact(@qd _ _ _ _ _ (by exact(qau (i:=6) sc_law.nd rfl (Or.inl rfl) rfl (CompOk.def ["_law_entry_here","_law_found","_law_here"] [none,none,none]) (qX (pv 3)) (fun _ _ _ _ _=>(show PG _ _ (qhC K 3 _) from (zK rfl (qr (qq (i:=0) (show List.Nodup (["_law_entry_here","_law_found","_law_here"]:List Str) by decide +kernel) rfl (Or.inl rfl)) (qr (qq (i:=1) (show List.Nodup (["_law_entry_here","_law_found","_law_here"]:List Str) by decide +kernel) rfl (Or.inl rfl)) (qr (qq (i:=2) (show List.Nodup (["_law_entry_here","_law_found","_law_here"]:List Str) by decide +kernel) rfl (Or.inl rfl)) zg)))))) (fun _ _ _ _ _=>Qa) (fun _ _ _ _ _=>(pv 1))))
     (by exact(@qd _ _ _ _ _ (by exact(qz (i:=7) sc_law.nd rfl (Or.inl rfl) (qj G_i h_i rfl T.d_i.m T.d_i.k T.d_i.b .nil qm (qa (pv 5) qb))))
     (by exact(@qd _ _ _ _ _ (by exact(qS (PW.pt (qa1 (zB (zo (qj G_f h_f rfl T.d_f.m T.d_f.k T.d_f.b .nil qm (qa (pv 7) (qa (pv 6) (qa (pv 4) qb)))))) (jd (zB (zo (qj G_f h_f rfl T.d_f.m T.d_f.k T.d_f.b .nil qm (qa (qj G_i h_i rfl T.d_i.m T.d_i.k T.d_i.b .nil qm (qa (pv 5) qb)) (qa (pv 6) (qa (pv 4) qb)))))))))
       (qf (qE qcJ))
       qA))
     (by exact(@qd _ _ _ _ _ (by exact(JB (qI (r:=rIx K) qx (pv 2) (qj G_a h_a rfl T.d_a.m T.d_a.k T.d_a.b .nil qm (qa (pv 1) (qa (qk qK (by rfl) T.n_len qG (qa (pv 2) qb)) qb))) (fun _ _=>rfl)) (zK rfl (qr (qq (i:=8) (sc_law.nd) rfl (Or.inl rfl)) (qr (qq (i:=9) (sc_law.nd) rfl (Or.inl rfl)) zg)))))
     (by exact(@qd _ _ _ _ _ (by exact(qD (qL (pv 5) T.cl_Log T.d_u.mt G_u h_u T.d_u.b .nil qm (qa (zL T.M_Between G_l h_l rfl T.g_Between T.d_l.b .nil qm (qa Qf (qa (pv 8) (qa qe (qa qe qb))))) qb))))
     (by exact(@qd _ _ _ _ _ (by exact(qz (i:=10) sc_law.nd rfl (Or.inl rfl) (qB Qx (pv 6) (qT (qa (qj G_p h_p rfl T.d_p.m T.d_p.k T.d_p.b .nil qm (qa (pv 9) (qa qe (qa qe qb)))) qb)))))
     (by exact(@qd _ _ _ _ _ (by exact(qS (zB (zo (qj G_f h_f rfl T.d_f.m T.d_f.k T.d_f.b .nil qm (qa (qj G_i h_i rfl T.d_i.m T.d_i.k T.d_i.b .nil qm (qa (pv 5) qb)) (qa (pv 10) (qa (pv 4) qb))))))
       (qf (qE qcJ))
       qA))
     (by exact(@qd _ _ _ _ _ (by exact(qD (qL (pv 5) T.cl_Log T.d_t.mt G_t h_t T.d_t.b .nil qm (qa (pv 8) (qa (zL T.M_Table G_z h_z rfl T.g_Table T.d_z.b .nil qm (qa (qT (qa (qQ (qa qe (qa qe qb))) (qa (qQ (qa qe (qa (jj Qi qe) qb))) qb))) qb)) qb)))))
     (by exact(@qd _ _ _ _ _ (by exact(qS (zB (zo (qj G_f h_f rfl T.d_f.m T.d_f.k T.d_f.b .nil qm (qa (pv 7) (qa (pv 6) (qa (pv 4) qb))))))
       (qf (qE qcJ))
       qA))
     (by exact(@qd _ _ _ _ _ (by exact(@qS _ _ _ _ _ _ _ _ (by exact(zB (zo (qj G_d h_d rfl T.d_d.m T.d_d.k T.d_d.b .nil qm (qa (qI (r:=rIx K) qx (zr (qj G_i h_i rfl T.d_i.m T.d_i.k T.d_i.b .nil qm (qa (pv 5) qb)) T.cl_Frame T.d_A.mt G_A h_A T.d_A.b .nil qm) (jj Qi qe) (fun _ _=>rfl)) (qa (qT (qa (qQ (qa qe (qa qe qb))) (qa (qQ (qa qe (qa qe qb))) qb))) qb))))))
       (by exact(qf (qE qcJ)))
       (by exact qA)))
     (by exact(@qd _ _ _ _ _ (by exact(qD (qL (pv 5) T.cl_Log T.d_t.mt G_t h_t T.d_t.b .nil qm (qa (pv 8) (qa (zL T.M_Table G_z h_z rfl T.g_Table T.d_z.b .nil qm (qa (zC (r:=qg4 K) zl (by rfl) T.n_list qR (qa (pv 9) qb)) qb)) qb)))))
     (by exact(@qd _ _ _ _ _ (by exact(qz (i:=11) sc_law.nd rfl (Or.inl rfl) (zC (r:=qg4 K) zl (by rfl) T.n_list qR (qa (pv 4) qb))))
     (by exact(@qd _ _ _ _ _ (by exact(qS (qu (qel hU) (pv 3) (qT qb) (qC _))
       (qd (qz (i:=12) sc_law.nd rfl (Or.inl rfl) (qj G_a h_a rfl T.d_a.m T.d_a.k T.d_a.b .nil qm (qa (pv 1) (qa (qk qK (by rfl) T.n_len qG (qa (pv 3) qb)) qb))))
       (qd (qD (qL (pv 5) T.cl_Log T.d_ac.mt G_ac h_ac T.d_ac.b .nil qm (qa (qN (qI (r:=rIx K) qx (qI (r:=rIx K) qx (pv 3) (pv 12) (fun _ _=>rfl)) qe (fun _ _=>rfl)) rfl) qb)))
       (qd (qD (Zk PySem.F.plainAttrs_list PySem.F.slot_list_pop PySem.F.type_list_pop qho (pv 10) (qa (pv 12) qb)))
       (qf (qz (i:=11) sc_law.nd rfl (Or.inl rfl) (qj G_Z h_Z rfl T.d_Z.m T.d_Z.k T.d_Z.b .nil qm (qa (pv 4) (qa (pv 12) qb))))))))
       qA))
     (by exact(@qd _ _ _ _ _ (by exact(qD (qL (pv 5) T.cl_Log T.d_u.mt G_u h_u T.d_u.b .nil qm (qa (zL T.M_Entry G_b h_b rfl T.g_Entry T.d_b.b .nil qm (qa Qf qb)) qb))))
     (by exact(@qd _ _ _ _ _ (by exact(qD (qL (pv 5) T.cl_Log T.d_B.mt G_B h_B T.d_B.b .nil qm (qa Qf (qa Qf (qa (jj Qi qe) qb))))))
     (by exact(@qd _ _ _ _ _ (by exact(qD (Zk PySem.F.plainAttrs_list PySem.F.slot_list_append PySem.F.type_list_append zc (pv 10) (qa (qT (qa (qQ (qa qe (qa (qB qcL qe qe) qb))) qb)) qb))))
     (by exact(@qd _ _ _ _ _ (by exact(qD (Zk PySem.F.plainAttrs_list PySem.F.slot_list_append PySem.F.type_list_append zc (pv 11) (qa (qQ (qa (qB zu (qk qK (by rfl) T.n_len qG (qa (pv 10) qb)) qe) (qa (qB zu (qk qK (by rfl) T.n_len qG (qa (pv 10) qb)) qe) (qa (jj Qi qe) qb)))) qb))))
     (by exact(qf (qE (ZF (qj G_f h_f rfl T.d_f.m T.d_f.k T.d_f.b .nil qm (qa (qj G_i h_i rfl T.d_i.m T.d_i.k T.d_i.b .nil qm (qa (pv 5) qb)) (qa (pv 10) (qa (pv 11) qb)))) (jQ (qj G_f h_f rfl T.d_f.m T.d_f.k T.d_f.b .nil qm (qa (pv 7) (qa (pv 6) (qa (pv 4) qb)))))))))))))))))))))))))))))))))))))))))))))),?_⟩
   try dsimp only [zw,Cx.nox]
   refine⟨_,rfl,sa,ns,rfl,hS,l63,tb,fun r p tl el bq ts ds zb B E H1 hr pl sE np lt hE hb tzb bok nl3=>?_⟩;refine⟨r,_,rfl,SqT.of hr,rfl,_,_,rfl,_,_,rfl,_,_,rfl,_,_,rfl,rfl,?_⟩;(try unfold qF);(try dsimp only);refine⟨_,rfl,_,rfl,_,rfl,tl,el,bq,ts,ds,zb,B,rfl,lt.same sE,hE.same sE,sE _ _ hb,tzb.same sE,bok,fun x td ed bl us zs H2 fx ftd fed fbl S2 lg ek=>?_⟩;obtain⟨W2,SE2⟩:=qgT sE np pl hE bok fx ftd fed fbl S2 lg ek;clear lg fx ftd fed fbl hr;have n8:=hE.n8;have b60:=bok.1;have hel2:H2 el=some (.lst (ds.map fun d=>V.ref d.1)):=S2 _ _ (sE _ _ hE.at_);(try unfold qF);(try dsimp only);refine⟨_,rfl,el,rfl,⟨_,SqL.of hel2⟩,fun D fD=>?_⟩;refine zD (K:=K) (a:=el) (xs:=ds.map fun d=>V.ref d.1) (D:=D) (fun i σ H'=>∃ (c0 c1 c2:Option V) (qs:List Addr),σ=[c0,c1,c2]∧Same H2 H'∧H' D=some (.lst (qs.map V.ref))∧qs.length=i∧∀ (j:Nat) q W,qs[j]?=some q->(WsD ds)[j]?=some W->Rs E q W) ⟨none,none,none,[],rfl,Same.new _ fD,qc,rfl,fun j q W z=>nomatch z⟩ (fun i σ H' _ ⟨_,_,_,_,_,S,_⟩=>SqL.of (S _ _ hel2)) ?_ ?_
   · rintro i z σ H' hz ⟨c0,c1,c2,qs,rfl,S,hD,lq,rq⟩;obtain⟨d,hd,rfl⟩:=zh hz;have il:=(List.getElem?_eq_some_iff.mp hd).1
     obtain⟨fo,z1,z3⟩:∃ fo,E d.1=some (.tup [.ref d.2.2.1,.ref fo,.int d.2.2.2.2.2])∧Rs E fo d.2.2.2.2.1:=by
       cases hE.dn d (List.mem_of_getElem? hd) with
       | mk z1 _ z3=>exact⟨_,z1,z3⟩
     refine⟨d.1,_,rfl,SqT.of (S _ _ (S2 _ _ (sE _ _ z1))),rfl,_,_,rfl,_,_,rfl,_,_,rfl,rfl,?_⟩;refine⟨_,rfl,_,hD,qw (by rw[List.length_map];omega),_,_,_,qs++[fo],rfl,S.put fD _,by rw[List.map_append];exact qc,by rw[List.length_append,lq];rfl,fun j q W h1 h2=>?_⟩;by_cases c:j < qs.length
     · rw[List.getElem?_append_left c]at h1;exact rq j q W h1 h2
     · have ej:j=qs.length:=by
         have:=(List.getElem?_eq_some_iff.mp h1).1
         rw[List.length_append]at this;simp only[List.length_cons,List.length_nil]at this;omega
       subst ej;rw[List.getElem?_append_right (Nat.le_refl _),Nat.sub_self]at h1;cases h1;rw[List.getElem?_map,lq,hd]at h2;cases h2;exact z3
   rintro σ H3 ⟨c0,c1,c2,qs,rfl,S3,hD,lq,rq⟩;rw[List.length_map]at lq;have W3:=W2.step S3;have T23:Same (cut H2 [p,x,td,ed,bl]) (cut H3 [p,x,td,ed,bl]):=(W2.same S3).top;have F3:Fs (cut H3 [p,x,td,ed,bl]) D (WsD ds):=qkE hD (W2.fresh fD) (by rw[lq,List.length_map]) rq (SE2.trans T23) (qjJ hE.dn);have SE3:=SE2.trans T23;clear W2 hD rq lq hel2;(try unfold qF);(try dsimp only);refine⟨_,rfl,x,td,ed,bl,us,esD ds,zs,B,rfl,W3.lo,W3.tq,W3.esok,by rw[List.length_map];omega,W3.tb,W3.bk,by omega,fun f rs G H4 ff S4 SG old fr spd=>?_⟩;have W4:=W3.step S4;have T34:Same (cut H3 [p,x,td,ed,bl]) (cut H4 [p,x,td,ed,bl]):=(W3.same S4).top;have C4:=W3.frc old SG fr;have F4:=F3.same T34;have SE4:=SE3.trans T34;have TP:=qdS ek spd hE.dn;clear SG old fr W3 F3;(try unfold qF);(try dsimp only);have sm4:=SE4.trans (qv H4 [p,x,td,ed,bl]);refine⟨_,rfl,_,rfl,_,rfl,f,D,bq,rs,WsD ds,B,zb,rfl,(C4).same (qv _ _),(F4).same (qv _ _),TP.1,TP.2,sm4 _ _ hb,tzb.same sm4,fun H5 S5=>⟨true,rfl,?_⟩⟩;have X5:=W4.same S5;have T5:=X5.top;have W5:=X5.max;have SE5:=SE4.trans T5;have F5:=F4.same T5;have C5:=C4.same T5;clear X5 W4 SE4 F4 C4;refine q8 rfl ?_;refine⟨_,rfl,x,td,ed,bl,us,esD ds,zs,B,rfl,W5.lo,W5.tq,W5.esok,by rw[List.length_map];omega,W5.tb,W5.bk,by omega,fun f2 rs2 G6 H6 ff6 S6 SG6 old6 fr6 spf2=>?_⟩;have C_f2:=W5.frc old6 SG6 fr6;clear old6 SG6 fr6 ff6;have X6:=W5.same S6;have T6:=X6.top;have W6:=X6.max;have SE6:=SE5.trans T6;have F6:=F5.same T6;have C6:=C5.same T6;clear X6 W5 SE5 F5 C5;have TP2:=qdS ek spf2 hE.dn;have sm6:=SE6.trans (qv H6 [p,x,td,ed,bl]);refine⟨_,rfl,_,rfl,f2,D,bq,rs2,WsD ds,B,zb,rfl,(C_f2).same (qv _ _),(F6).same (qv _ _),TP2.1,TP2.2,sm6 _ _ hb,tzb.same sm6,fun H7 S7=>⟨true,rfl,?_⟩⟩;have X7:=W6.same S7;have T7:=X7.top;have W7:=X7.max;have SE7:=SE6.trans T7;have F7:=F6.same T7;have C7:=C6.same T7;clear X7 W6 SE6 F6 C6;clear C_f2 TP2 spf2;refine q8 rfl ?_;(try unfold qF);(try dsimp only);have kn:=jV ek;obtain⟨zt,hz,tz⟩:=lt.ex;have lz:=tz.1;have n0:=lt.n0;have n3:=lt.n3;have sm7:=SE7.trans (qv H7 [p,x,td,ed,bl]);refine⟨_,rfl,_,rfl,_,rfl,_,_,rfl,.inl ⟨_,SqL.of (sm7 _ _ hz),rfl⟩,p,_,rfl,W7.pl,by omega,by omega,fun d H8 d0 d1 B8 p8=>?_⟩;have X8:=W7.pool B8 p8;have T8:=X8.top;have W8:=X8.max;have SE8:=SE7.trans T8;have F8:=F7.same T8;have C8:=C7.same T8;clear X8 W7 SE7 F7 C7;have sm8:=SE8.trans (qv H8 [p,x,td,ed,bl]);obtain⟨dn,rfl⟩:=Int.eq_ofNat_of_zero_le d0;have dl:dn < ts.length:=by omega
   obtain⟨tt0,ht0,ht⟩:=tz.at_ (List.getElem?_eq_getElem dl);have mt:ts[dn]∈ts:=List.getElem_mem dl;generalize ts[dn]=t at ht mt;refine .inl ⟨tl,_,_,_,rfl,rfl,SqL.of (sm8 _ _ hz),zA ht0,?_⟩;refine⟨tt0,_,rfl,SqT.of (sm8 _ _ ht),rfl,_,_,rfl,_,_,rfl,rfl,?_⟩;obtain⟨rR,good⟩:=lt.rk t mt;have okp:=lt.nm t mt;have tin:t.1∈us.map (·.1):=by rw[kn];exact List.mem_map.mpr ⟨t,mt,rfl⟩
   try unfold qF
   try dsimp only
   obtain⟨dx8,hx8⟩:=W8.lo.hx;refine⟨_,rfl,x,dx8,_,rfl,hx8,rfl,?_⟩;refine⟨_,rfl,fun y dy fy fdy ney=>⟨y,a.c_Between,dy,"yyyyyyyy",t.1,1443,1460,rfl,qc,(by decide +kernel),okp,⟨by decide,by decide⟩,⟨by decide,by decide⟩,T.cl_Between,T.n_Between_name,T.n_Between_place,T.n_Between_low,T.n_Between_high,fun H9 By e_y=>⟨rfl,?_⟩⟩⟩;have S9:Same H8 H9:=qW fy fdy By;have ny:y∉[p,x,td,ed,bl]:=W8.fresh fy;have X9:=W8.same S9;have T9:=X9.top;have W9:=X9.max;have SE9:=SE8.trans T9;have F9:=F8.same T9;have C9:=C8.same T9;clear X9 W8 SE8 F8 C8;have en:EnD a (cut H9 [p,x,td,ed,bl]) y "yyyyyyyy" (.bt t.1 1443 1460):=.bt (by rw[qH ny];exact e_y) ⟨by decide,by decide⟩ ⟨by decide,by decide⟩;have pls:∀ s∈(Kd.bt t.1 1443 1460).pls,s∈us.map (·.1):=fun s m=>by rw[List.mem_singleton.mp m];exact tin
   have nin:("yyyyyyyy":Str)∉(ev (esD ds)).map (·.1):=by
     rw[jp,ZI];intro m;obtain⟨d,md,e⟩:=List.mem_map.mp m
     have:=nl3 d md
     rw[e]at this;exact absurd this (by decide +kernel)
   refine⟨x,td,ed,bl,tv us,ev (esD ds),zs,y,"yyyyyyyy",.bt t.1 1443 1460,rfl,W9.lo,en.same (qv _ _),(by rw[zU];exact pls),nin,by rw[List.length_map,List.length_map];omega,fun H10 B10 L10=>?_⟩;have X10:=W9.put B10 L10 en pls;have T10:=X10.top;have W10:=X10.max;have SE10:=SE9.trans T10;have F10:=F9.same T10;have C10:=C9.same T10;clear X10 W9 SE9 F9 C9;clear en pls nin e_y By S9 ny;have sm10:=SE10.trans (qv H10 [p,x,td,ed,bl]);(try unfold qF);(try dsimp only);refine⟨_,rfl,_,rfl,t.2.1,t.2.2,1443,1460,rfl,rR.same sm10,good,fun o H11 fo S11 Ro=>?_⟩;have no_:o∉[p,x,td,ed,bl]:=W10.fresh fo;have X11:=W10.same S11;have T11:=X11.top;have W11:=X11.max;have SE11:=SE10.trans T11;have F11:=F10.same T11;have C11:=C10.same T11;clear X11 W10 SE10 F10 C10;have Ro11:=W11.rs Ro no_;clear Ro fo no_;refine⟨ql (Nat.le_of_ble_eq_true rfl),fun l fl=>?_⟩;generalize hG:upd H11 l _=H12;obtain⟨S12,e12⟩:=qt hG fl;clear hG;have X12:=W11.same S12;have T12:=X12.top;have W12:=X12.max;have SE12:=SE11.trans T12;have F12:=F11.same T12;have C12:=C11.same T12;clear X12 W11 SE11 F11 C11;have Ro12:=Ro11.same T12;obtain⟨qs,hqs,lqs,rqs⟩:=F12.ex;have lqs8:qs.length=ds.length:=by rw[lqs,List.length_map]
   refine .inr (.inl ⟨D,l,_,_,rfl,rfl,(qv _ _) _ _ hqs,e12,ql (by rw[List.length_map];simp only[List.length_cons,List.length_nil];omega),fun L fL=>?_⟩);generalize hG:upd H12 L _=H13;obtain⟨S13,eL⟩:=qt hG fL;clear hG;have nL:L∉[p,x,td,ed,bl]:=W12.fresh fL;have eL:H13 L=some (.lst ((qs++[o]).map V.ref)):=by rw[List.map_append];exact eL
   clear e12 fl hqs;have X13:=W12.same S13;have T13:=X13.topX (X:=[L]) (fun b m=>by rw[List.mem_singleton.mp m];exact Q8 fL);have W13:=X13.maxX (X:=[L]) (fun b m=>by rw[List.mem_singleton.mp m];exact Q8 fL);have SE13:=SE12.trans T13;have F13:=F12.same T13;have C13:=C12.same T13;clear X13 W12 SE12 F12 C12
   have rq13:∀ (i:Nat) q W,(qs++[o])[i]?=some q->(WsD ds++[bwn t.2.2 1443 1460])[i]?=some W->Rs (cut H13 ([L]++[p,x,td,ed,bl])) q W:=fun i q W h1 h2=>by
     by_cases c:i < qs.length
     · rw[List.getElem?_append_left c]at h1;rw[List.getElem?_append_left (by omega)]at h2;exact(rqs i q W h1 h2).same T13
     · rw[List.getElem?_append_right (by omega)]at h1;rw[List.getElem?_append_right (by omega)]at h2;rw[← lqs]at h2
       have:i - qs.length=0:=by have:=(List.getElem?_eq_some_iff.mp h1).1;simp only[List.length_cons,List.length_nil]at this;omega
       rw[this]at h1 h2;cases h1;cases h2;exact Ro12.same T13
   have lq2:(qs++[o]).length=(WsD ds++[bwn t.2.2 1443 1460]).length:=by rw[List.length_append,List.length_append,lqs];rfl
   have ok2:∀ W∈WsD ds++[bwn t.2.2 1443 1460],Sd W∧W.length≤100:=fun W m=>by
     rcases List.mem_append.mp m with m|m
     · exact qjJ hE.dn W m
     · rw[List.mem_singleton.mp m];exact⟨qd4 good _ _,Nat.le_trans (qaS good _ _) (by decide)⟩
   clear rqs Ro12 Ro11 lqs;(try unfold qF);(try dsimp only);refine⟨_,rfl,x,td,ed,bl,us,(esD ds++[(("yyyyyyyy":Str),y,Kd.bt t.1 1443 1460)]:Es),zs,B,rfl,W13.lo,W13.tq,W13.esok,by rw[List.length_append,List.length_map];simp only[List.length_cons,List.length_nil];omega,W13.tb,W13.bk,by omega,fun f3 rs3 G14 H14 ff14 S14 SG14 old14 fr14 spf3=>?_⟩;have C_f3:=W13.frcX (X:=[L]) old14 (fun b m=>by rw[List.mem_singleton.mp m];exact⟨_,eL⟩) SG14 fr14;clear old14 SG14 fr14 ff14;have X14:=W13.same S14;have T14:=X14.topX (X:=[L]) (fun b m=>qy (List.mem_append.mpr (.inl m)));have W14:=X14.maxX (X:=[L]) (fun b m=>qy (List.mem_append.mpr (.inl m)));have SE14:=SE13.trans T14;have F14:=F13.same T14;have C14:=C13.same T14;clear X14 W13 SE13 F13 C13;have eL14:=S14 _ _ eL;have TP3:=qfk ek lt.nd mt spf3 hE.dn;have FL14:Fs H14 L (WsD ds++[bwn t.2.2 1443 1460]):=⟨⟨qs++[o],eL14,lq2,fun i q W h1 h2=>((rq13 i q W h1 h2).same T14).same (qv _ _)⟩,ok2⟩
   have sm14:=SE14.trans (qv H14 ([L]++[p,x,td,ed,bl]));refine⟨_,rfl,_,rfl,f3,L,bq,rs3,WsD ds++[bwn t.2.2 1443 1460],B,zb,rfl,C_f3.same (qv _ _),FL14,TP3.1,TP3.2,sm14 _ _ hb,tzb.same sm14,fun H15 S15=>⟨true,rfl,?_⟩⟩;have X15:=W14.same S15;have T15:=X15.topX (X:=[L]) (fun b m=>qy (List.mem_append.mpr (.inl m)));have W15:=X15.maxX (X:=[L]) (fun b m=>qy (List.mem_append.mpr (.inl m)));have SE15:=SE14.trans T15;have F15:=F14.same T15;have C15:=C14.same T15;clear X15 W14 SE14 F14 C14;have rq15:=fun i q W h1 h2=>((rq13 i q W h1 h2).same T14).same T15;have eL15:=S15 _ _ eL14;clear FL14 TP3 C_f3 spf3 rq13 eL14 eL;refine q8 rfl ?_;(try unfold qF);(try dsimp only);have Q15:Ls (cut H15 ([L]++[p,x,td,ed,bl])) H15 L (WsD ds++[bwn t.2.2 1443 1460]):=⟨⟨qs++[o],eL15,lq2,rq15⟩,ok2⟩
   clear rq15 eL15
   have neL:L≠p∧L≠x∧L≠td∧L≠ed∧L≠bl:=by
     refine⟨?_,?_,?_,?_,?_⟩<;>(rintro rfl;exact nL (by simp))
   have lus:us.length=ts.length:=by
     have:=congrArg List.length kn
     rw[List.length_map,List.length_map]at this;exact this
   have pw2:Pw us (esD ds++[(("yyyyyyyy":Str),y,Kd.bt t.1 1443 1460)]:Es) (WsD ds++[bwn t.2.2 1443 1460]):=qie ek lt.nd mt hE.dn;obtain⟨dx15,hx15⟩:=W15.lo.hx;refine⟨_,rfl,x,dx15,_,rfl,hx15,rfl,_,rfl,ql (Nat.le_of_ble_eq_true rfl),fun t1 ft1=>?_⟩;generalize hG:upd H15 t1 _=A1;obtain⟨s1,e1⟩:=qt hG ft1;clear hG;refine⟨_,rfl,ql (Nat.le_of_ble_eq_true rfl),fun t2 ft2=>?_⟩;generalize hG:upd A1 t2 _=A2;obtain⟨s2,e2⟩:=qt hG ft2;clear hG;refine⟨ql (Nat.le_of_ble_eq_true rfl),fun r2 fr2=>?_⟩;generalize hG:upd A2 r2 _=A3;obtain⟨s3,e3⟩:=qt hG fr2;clear hG;refine fun y2 dy fy fdy ney=>⟨y2,dy,r2,ZT,rfl,qc,Rs.same ⟨_,e3,((TupL.nil.snoc (p:=(0,1440)) (s3 _ _ (s2 _ _ e1))).snoc (p:=(7,-2880)) (s3 _ _ e2))⟩ (up2 fy fdy),Jb,fun H16 BY tby=>⟨rfl,?_⟩⟩
   have S16:Same H15 H16:=((s1.trans s2).trans s3).trans (qW fy fdy BY);have X16:=W15.same S16;have T16:=X16.topX (X:=[L]) (fun b m=>qy (List.mem_append.mpr (.inl m)));have W16:=X16.maxX (X:=[L]) (fun b m=>qy (List.mem_append.mpr (.inl m)));have SE16:=SE15.trans T16;have F16:=F15.same T16;have C16:=C15.same T16;have Q16:=Q15.mv T16 (S16 _);clear X16 W15 SE15 F15 C15 Q15
   have tb16:=W16.tbX (X:=[L]) (fun b m=>by rw[List.mem_singleton.mp m];exact Q16.noT (qv _ _)) Jb tby;refine⟨x,td,ed,bl,tv us,ev (esD ds++[(("yyyyyyyy":Str),y,Kd.bt t.1 1443 1460)]:Es),zs,t.1,.ref y2,rfl,W16.lo,okp,.inr ⟨tv (j6 us t.1 y2 ZT),(by rw[zU];exact tin),(by rw[List.length_map];omega),qei y2 ZT tin,(by rw[zU,zU];exact QR _ _ _ _),fun H17 BT LT=>?_⟩⟩;have X17:=W16.clock BT LT (qhT W16.tt tb16) (qhU W16.tg Jb) (QR _ _ _ _);have T17:=X17.topX (X:=[L]) (fun b m=>qy (List.mem_append.mpr (.inl m)));have W17:=X17.maxX (X:=[L]) (fun b m=>qy (List.mem_append.mpr (.inl m)));have SE17:=SE16.trans T17;have F17:=F16.same T17;have C17:=C16.same T17;have Q17:=Q16.mv T17 (fun o e=>BT _ _ e neL.2.2.1);clear X17 W16 SE16 F16 C16 Q16;clear tby BY LT BT tb16 e1 e2 e3 s1 s2 s3 ft1 ft2 fr2 fy fdy ney;(try unfold qF);(try dsimp only);have sm17:=SE17.trans (qv H17 ([L]++[p,x,td,ed,bl]));refine⟨_,rfl,_,rfl,_,rfl,f,D,bq,rs,WsD ds,B,zb,rfl,(C17).same (qv _ _),(F17).same (qv _ _),TP.1,TP.2,sm17 _ _ hb,tzb.same sm17,fun H18 S18=>⟨true,rfl,?_⟩⟩;have X18:=W17.same S18;have T18:=X18.topX (X:=[L]) (fun b m=>qy (List.mem_append.mpr (.inl m)));have W18:=X18.maxX (X:=[L]) (fun b m=>qy (List.mem_append.mpr (.inl m)));have SE18:=SE17.trans T18;have F18:=F17.same T18;have C18:=C17.same T18;have Q18:=Q17.mv T18 (S18 _);clear X18 W17 SE17 F17 C17 Q17;refine q8 rfl ?_;(try unfold qF);(try dsimp only);refine⟨_,rfl,x,td,ed,bl,(j6 us t.1 y2 ZT),(esD ds++[(("yyyyyyyy":Str),y,Kd.bt t.1 1443 1460)]:Es),zs,B,rfl,W18.lo,W18.tq,W18.esok,by rw[List.length_append,List.length_map];simp only[List.length_cons,List.length_nil];omega,W18.tb,W18.bk,by omega,fun f4 rs4 G19 H19 ff19 S19 SG19 old19 fr19 spf4=>?_⟩;have C_f4:=W18.frcX (X:=[L]) old19 (fun b m=>by rw[List.mem_singleton.mp m];exact Q18.ex.elim fun _ h=>⟨_,h.1⟩) SG19 fr19;clear old19 SG19 fr19 ff19;have X19:=W18.same S19;have T19:=X19.topX (X:=[L]) (fun b m=>qy (List.mem_append.mpr (.inl m)));have W19:=X19.maxX (X:=[L]) (fun b m=>qy (List.mem_append.mpr (.inl m)));have SE19:=SE18.trans T19;have F19:=F18.same T19;have C19:=C18.same T19;have Q19:=Q18.mv T19 (S19 _);clear X19 W18 SE18 F18 C18 Q18;obtain⟨ln4,due4⟩:=qhr tin spf4;obtain⟨⟨zss4,bs4,⟨k4,kb4,qs4,⟨dx4,hf4⟩,L4,hb4⟩,lz4,tz4,tb4⟩,n4,m4,b4⟩:=C_f4.same (qv _ _);refine⟨f4,dx4,_,rfl,hf4,rfl,f4,k4,kb4,qs4,zss4,rfl,⟨dx4,hf4⟩,L4,by rw[L4.len,lz4];exact n4,fun d4 qs5 H20 fd4 fqs S20 L5=>?_⟩;have X20:=W19.same S20;have T20:=X20.topX (X:=[L]) (fun b m=>qy (List.mem_append.mpr (.inl m)));have W20:=X20.maxX (X:=[L]) (fun b m=>qy (List.mem_append.mpr (.inl m)));have SE20:=SE19.trans T20;have F20:=F19.same T20;have C20:=C19.same T20;have Q20:=Q19.mv T20 (S20 _);clear X20 W19 SE19 F19 C19 Q19;have l5:qs5.length=(esD ds).length+1:=by rw[L5.len,lz4,ln4]
   have i5:(esD ds).length < qs5.length:=by omega
   have i5z:(esD ds).length < zss4.length:=by rw[← L5.len];exact i5
   have hq5:=L5.each _ _ _ (List.getElem?_eq_getElem i5) (List.getElem?_eq_getElem i5z);have tq5:=(tz4 _ _ _ (List.getElem?_eq_getElem i5z) due4).same S20
   have hix5:atI (qs5.map V.ref) (-1)=some (.ref qs5[(esD ds).length]):=by
     have e:ixN (qs5.map V.ref).length (-1)=some (esD ds).length:=by
       unfold ixN;rw[List.length_map,l5];simp;omega
     unfold atI;rw[e];show (qs5.map V.ref)[(esD ds).length]?=_;rw[List.getElem?_map,List.getElem?_eq_getElem i5];rfl
   refine⟨_,rfl,.inl ⟨d4,_,_,_,rfl,rfl,SqL.of L5.at_,hix5,?_⟩⟩;generalize qs5[(esD ds).length]=q5 at hq5;generalize zss4[(esD ds).length]=z5 at hq5 tq5;refine⟨ql (Nat.le_of_ble_eq_true rfl),fun t1 ft1=>?_⟩;generalize hG:upd H20 t1 _=A1;obtain⟨s1,e1⟩:=qt hG ft1;clear hG;refine⟨ql (Nat.le_of_ble_eq_true rfl),fun t2 ft2=>?_⟩;generalize hG:upd A1 t2 _=A2;obtain⟨s2,e2⟩:=qt hG ft2;clear hG;refine⟨ql (Nat.le_of_ble_eq_true rfl),fun r2 fr2=>?_⟩;generalize hG:upd A2 r2 _=A3;obtain⟨s3,e3⟩:=qt hG fr2;clear hG;have s123:=(s1.trans s2).trans s3;refine .inr (.inl ⟨_,_,rfl,qgK (g:=g2) (xs:=qjF) (s123 _ _ hq5) e3 (tq5.same s123) ((TupL.nil.snoc (p:=(3,6)) (s3 _ _ (s2 _ _ e1))).snoc (p:=(4323,4340)) (s3 _ _ e2)) (fun _=>Nat.le_of_ble_eq_true rfl) (by decide),fun H21 S'=>⟨true,rfl,?_⟩⟩);have S21:=s123.trans S';clear S' s123 e1 e2 e3 s1 s2 s3 ft1 ft2 fr2 hix5 hq5 tq5 L5 l5 i5 i5z fd4 fqs L4 hb4 hf4 tz4 tb4 lz4 n4 m4 b4 due4 ln4 spf4 C_f4;have X21:=W20.same S21;have T21:=X21.topX (X:=[L]) (fun b m=>qy (List.mem_append.mpr (.inl m)));have W21:=X21.maxX (X:=[L]) (fun b m=>qy (List.mem_append.mpr (.inl m)));have SE21:=SE20.trans T21;have F21:=F20.same T21;have C21:=C20.same T21;have Q21:=Q20.mv T21 (S21 _);clear X21 W20 SE20 F20 C20 Q20;refine q8 rfl ?_;(try unfold qF);(try dsimp only);have sm21:=SE21.trans (qv H21 ([L]++[p,x,td,ed,bl]));obtain⟨dx21,hx21⟩:=W21.lo.hx;obtain⟨kz,hkz,tkz⟩:=rR.same sm21;refine⟨_,rfl,x,dx21,_,rfl,hx21,rfl,_,rfl,_,rfl,t.2.1,_,rfl,.inl (SqL.of hkz),fun r3 fr3=>?_⟩;generalize hG:upd H21 r3 _=A1;obtain⟨s1,e1⟩:=qt hG fr3;clear hG;refine fun y3 dy fy fdy ney=>⟨y3,dy,r3,t.2.2,rfl,qc,Rs.same ⟨kz,e1,tkz.same s1⟩ (up2 fy fdy),good,fun H22 BY tby=>⟨rfl,?_⟩⟩
   have S22:Same H21 H22:=s1.trans (qW fy fdy BY);have X22:=W21.same S22;have T22:=X22.topX (X:=[L]) (fun b m=>qy (List.mem_append.mpr (.inl m)));have W22:=X22.maxX (X:=[L]) (fun b m=>qy (List.mem_append.mpr (.inl m)));have SE22:=SE21.trans T22;have F22:=F21.same T22;have C22:=C21.same T22;have Q22:=Q21.mv T22 (S22 _);clear X22 W21 SE21 F21 C21 Q21
   have tb22:=W22.tbX (X:=[L]) (fun b m=>by rw[List.mem_singleton.mp m];exact Q22.noT (qv _ _)) good tby;have tin2:t.1∈(j6 us t.1 y2 ZT).map (·.1):=by rw[QR];exact tin
   refine⟨x,td,ed,bl,tv (j6 us t.1 y2 ZT),ev (esD ds++[(("yyyyyyyy":Str),y,Kd.bt t.1 1443 1460)]:Es),zs,t.1,.ref y3,rfl,W22.lo,okp,.inr ⟨tv (j6 (j6 us t.1 y2 ZT) t.1 y3 t.2.2),(by rw[zU];exact tin2),(by rw[List.length_map];unfold j6;rw[List.length_map];omega),qei y3 t.2.2 tin2,(by rw[zU,zU];exact QR _ _ _ _),fun H23 BT LT=>?_⟩⟩;have X23:=W22.clock BT LT (qhT W22.tt tb22) (qhU W22.tg good) (QR _ _ _ _);have T23:=X23.topX (X:=[L]) (fun b m=>qy (List.mem_append.mpr (.inl m)));have W23:=X23.maxX (X:=[L]) (fun b m=>qy (List.mem_append.mpr (.inl m)));have SE23:=SE22.trans T23;have F23:=F22.same T23;have C23:=C22.same T23;have Q23:=Q22.mv T23 (fun o e=>BT _ _ e neL.2.2.1);clear X23 W22 SE22 F22 C22 Q22;clear tby BY LT BT tb22 e1 s1 fr3 fy fdy ney hkz tkz;have ek3:(j6 (j6 us t.1 y2 ZT) t.1 y3 t.2.2).map key=ts.map key:=qht ek (List.mem_map.mpr ⟨t,mt,rfl⟩) lt.nd;have pw3:=qie ek3 lt.nd mt hE.dn (nm:="yyyyyyyy") (y:=y) (lo:=1443) (hi:=1460);have lu3:(j6 (j6 us t.1 y2 ZT) t.1 y3 t.2.2).length≤3:=by unfold j6;rw[List.length_map,List.length_map];omega
   generalize (j6 (j6 us t.1 y2 ZT) t.1 y3 t.2.2)=us3 at *;clear tin2 pw2;(try unfold qF);(try dsimp only);have sm23:=SE23.trans (qv H23 ([L]++[p,x,td,ed,bl]));refine⟨_,rfl,bq,_,rfl,.inl (SqL.of (sm23 _ _ hb)),fun O fO=>?_⟩;generalize hG:upd H23 O _=H24;obtain⟨S24,eO⟩:=qt hG fO;clear hG;have nO:O∉[p,x,td,ed,bl]:=W23.fresh fO
   have nOL:O≠L:=by
     rintro rfl;obtain⟨_,h1,_⟩:=Q23.ex;rw[h1]at fO;cases fO
   have X24:=W23.same S24;have T24:=X24.topX (X:=[L,O]) (fun b m=>by rcases List.mem_cons.mp m with rfl|m;exact qy (by simp);rw[List.mem_singleton.mp m];exact Q8 fO);have W24:=X24.maxX (X:=[L,O]) (fun b m=>by rcases List.mem_cons.mp m with rfl|m;exact qy (by simp);rw[List.mem_singleton.mp m];exact Q8 fO);have SE24:=SE23.trans T24;have F24:=F23.same T24;have C24:=C23.same T24;have Q24:=Q23.mv T24 (S24 _);clear X24 W23 SE23 F23 C23 Q23;clear fO;(try unfold qF);(try dsimp only);have Wn:∀ W∈WsD ds++[bwn t.2.2 1443 1460],Sd W∧W.length≤100:=Q24.ok;refine q9 (t:=qgY _ _ _) (fun σ' H'=>∃ (s12:Option V) (O bl2:Addr) (es2:Es) (zs2:List V) (B2:List B3) (Ws2:List (List (Int×Int))) (wsO:List V),σ'=[some (.ref sa),some (.ref p),some (.ref tl),some (.ref el),some (.ref bq),some (.ref x),some (.ref D),some (.ref f),some (.str t.1),some (.ref t.2.1),some (.ref L),some (.ref O),s12]∧Wd a (cut H' ([L,O]++[p,x,td,ed,bl2])) H' p x td ed bl2 us3 es2 zs2 B2∧Same E (cut H' ([L,O]++[p,x,td,ed,bl2]))∧Fs (cut H' ([L,O]++[p,x,td,ed,bl2])) D (WsD ds)∧FrC a (cut H' ([L,O]++[p,x,td,ed,bl2])) f rs B∧Ls (cut H' ([L,O]++[p,x,td,ed,bl2])) H' L Ws2∧H' O=some (.lst wsO)∧TupL tr H' wsO B2∧Pw us3 es2 Ws2∧es2.length≤9∧B2.length≤60∧("zzzzzzzz":Str)∉es2.map (·.1)∧L∉[p,x,td,ed,bl2]∧O∉[p,x,td,ed,bl2]∧O≠L) (fun N hN=>?_) ?_
   · have sm24:=SE24.trans (qv H24 ([L,O]++[p,x,td,ed,bl]))
     have nz:("zzzzzzzz":Str)∉(esD ds++[(("yyyyyyyy":Str),y,Kd.bt t.1 1443 1460)]:Es).map (·.1):=by
       rw[List.map_append,ZI];intro m;rcases List.mem_append.mp m with m|m
       · obtain⟨d,md,e⟩:=List.mem_map.mp m
         have:=nl3 d md
         rw[e]at this;exact absurd this (by decide +kernel)
       · exact absurd (List.mem_singleton.mp m) (show ¬ (("zzzzzzzz":Str)="yyyyyyyy") by decide +kernel)
     have hel:=sm24 _ _ hE.at_;have l9:(esD ds++[(("yyyyyyyy":Str),y,Kd.bt t.1 1443 1460)]:Es).length≤9:=by rw[List.length_append,List.length_map];simp only[List.length_cons,List.length_nil];omega
     refine⟨_,rfl,ql (Nat.le_of_ble_eq_true rfl),fun l0 fl0=>?_⟩;generalize hG:upd H24 l0 _=H25;obtain⟨S25,el0⟩:=qt hG fl0;clear hG;have hel:=S25 _ _ hel;have eO:=S25 _ _ eO;refine⟨el,l0,_,rfl,rfl,SqL.of hel,SqL.of el0,_,rfl,?_⟩;have X25:=W24.same S25;have T25:=X25.topX (X:=[L,O]) (fun b m=>qy (List.mem_append.mpr (.inl m)));have W25:=X25.maxX (X:=[L,O]) (fun b m=>qy (List.mem_append.mpr (.inl m)));have SE25:=SE24.trans T25;have F25:=F24.same T25;have C25:=C24.same T25;have Q25:=Q24.mv T25 (S25 _);clear X25 W24 SE24 F24 C24 Q24;have sm25:=SE25.trans (qv H25 ([L,O]++[p,x,td,ed,bl]));by_cases d0:ds=[]
     · refine q8 (by rw[d0];rfl) (hN _ _ ⟨_,O,bl,_,zs,B,_,zb,rfl,W25,SE25,F25,C25,Q25,eO,tzb.same sm25,pw3,l9,by omega,nz,nL,nO,nOL⟩)
     have dp:0 < ds.length:=by
       cases ds with
       | nil=>exact absurd rfl d0
       | cons _ _=>exact Nat.zero_lt_succ _
     refine Jc (by cases ds with|nil=>exact absurd rfl d0|cons _ _=>rfl) ?_;refine⟨_,rfl,_,rfl,_,_,rfl,.inl ⟨_,SqL.of hel,rfl⟩,p,_,rfl,W25.pl,by rw[List.length_map];omega,by rw[List.length_map];omega,fun gn H26 g0 g1 Bp pq=>?_⟩;rw[List.length_map]at g1;obtain⟨gi,rfl⟩:=Int.eq_ofNat_of_zero_le g0;have gl:gi < ds.length:=by omega
     clear g0 g1;have X26:=W25.pool Bp pq;have T26:=X26.topX (X:=[L,O]) (fun b m=>qy (List.mem_append.mpr (.inl m)));have W26:=X26.maxX (X:=[L,O]) (fun b m=>qy (List.mem_append.mpr (.inl m)));have SE26:=SE25.trans T26;have F26:=F25.same T26;have C26:=C25.same T26;have Q26:=Q25.mv T26 (fun o e=>Bp _ _ e neL.1);clear X26 W25 SE25 F25 C25 Q25;have sm26:=SE26.trans (qv H26 ([L,O]++[p,x,td,ed,bl]));obtain⟨dx26,hx26⟩:=W26.lo.hx;have eO:=Bp _ _ eO fun e=>nO (e▸by simp);have hel:=sm26 _ _ hE.at_;obtain⟨ttg,yg,fog,Cg,dxg,fsg,heg,ag,hg1,hg2,hg3,hg4,hg5⟩:=qjs hE T gl;have gl2:gi < (esD ds++[(("yyyyyyyy":Str),y,Kd.bt t.1 1443 1460)]:Es).length:=by rw[List.length_append,List.length_map];omega
     have eng:((esD ds++[(("yyyyyyyy":Str),y,Kd.bt t.1 1443 1460)]:Es).map (·.1)).getD gi ("":Str)=(ds.map (·.2.1)).getD gi ("":Str):=by
       rw[List.map_append,ZI,List.getD_eq_getElem?_getD,List.getD_eq_getElem?_getD,List.getElem?_append_left (by rw[List.length_map];exact gl)]
     rw[← eng]at hg5
     have memg:(((esD ds++[(("yyyyyyyy":Str),y,Kd.bt t.1 1443 1460)]:Es).map (·.1)).getD gi ("":Str),V.ref ((esD ds++[(("yyyyyyyy":Str),y,Kd.bt t.1 1443 1460)]:Es)[gi]).2.1)∈ev (esD ds++[(("yyyyyyyy":Str),y,Kd.bt t.1 1443 1460)]:Es):=by
       refine List.mem_map.mpr ⟨_,List.getElem_mem gl2,?_⟩;rw[List.getD_eq_getElem?_getD,List.getElem?_map,List.getElem?_eq_getElem gl2];rfl
     have lzs:zs.length≤100:=by
       have:=W26.tb.1
       rw[List.length_map]at this;omega
     refine⟨_,rfl,x,dx26,_,rfl,hx26,rfl,_,rfl,_,rfl,.inl ⟨el,_,_,_,rfl,rfl,SqL.of hel,ag,.inr (.inl ⟨_,_,_,_,rfl,rfl,SqT.of (sm26 _ _ hg1),rfl,yg,Cg,dxg,fsg,_,rfl,sm26 _ _ hg2,hg3,hg4,hg5,?_⟩)⟩⟩;refine⟨x,td,ed,bl,tv us3,ev (esD ds++[(("yyyyyyyy":Str),y,Kd.bt t.1 1443 1460)]:Es),zs,(((esD ds++[(("yyyyyyyy":Str),y,Kd.bt t.1 1443 1460)]:Es).map (·.1)).getD gi ("":Str),V.ref ((esD ds++[(("yyyyyyyy":Str),y,Kd.bt t.1 1443 1460)]:Es)[gi]).2.1),B.map (nmB ((esD ds++[(("yyyyyyyy":Str),y,Kd.bt t.1 1443 1460)]:Es).map (·.1))),rfl,W26.lo,memg,W26.tb,lzs,fun bl2 zs2 H27 fb2 k2 lo2 tb2=>?_⟩
     have nL2:L∉[p,x,td,ed,bl2]:=fun m=>by
       simp only[List.mem_cons,List.not_mem_nil,or_false]at m;rcases m with m|m|m|m|m
       · exact neL.1 m
       · exact neL.2.1 m
       · exact neL.2.2.1 m
       · exact neL.2.2.2.1 m
       · obtain⟨_,h1,_⟩:=Q26.ex;rw[m,fb2]at h1;cases h1
     have k3:∀ b o,H26 b=some o->b∉[p,x,td,ed,bl]->H27 b=some o:=fun b o e m=>k2 b o e (fun z=>m (z▸by simp)) (fun z=>m (z▸by simp))
     have nO2:O∉[p,x,td,ed,bl2]:=fun m=>by
       simp only[List.mem_cons,List.not_mem_nil,or_false]at m;rcases m with m|m|m|m|m
       · exact nO (by rw[m];simp)
       · exact nO (by rw[m];simp)
       · exact nO (by rw[m];simp)
       · exact nO (by rw[m];simp)
       · rw[m,fb2]at eO;cases eO
     have eO:=k3 _ _ eO nO;have X27:=W26.drop gl2 fb2 k2 lo2 tb2;have T27:=X27.topX (X:=[L,O]) (fun b m=>qy (List.mem_append.mpr (.inl m)));have W27:=X27.maxX (X:=[L,O]) (fun b m=>qy (List.mem_append.mpr (.inl m)));have SE27:=SE26.trans T27;have F27:=F26.same T27;have C27:=C26.same T27;have Q27:=Q26.mv T27 (fun o e=>k3 _ _ e nL);clear X27 W26 SE26 F26 C26 Q26;clear hg1 hg2 hg3 hg4 hg5 ag memg k2 k3 lo2 tb2 fb2 eng;(try unfold qF);(try dsimp only);have QW:=Q27.ok;obtain⟨qs9,h91,h92,h93⟩:=Q27.ex;have lq9:gi < qs9.length:=by rw[h92,List.length_append,List.length_map];omega
     refine⟨_,rfl,.inl ⟨rfl,_,SqL.of h91⟩,_,rfl,L,_,_,gi,_,rfl,rfl,h91,by omega,by omega,by rw[seqIndex_of (by omega) (by rw[List.length_map];omega)];rfl,by rw[List.getElem?_map,List.getElem?_eq_getElem lq9];rfl,?_⟩;generalize hG:upd H27 L _=H28;have BL:But L H27 H28:=by rw[← hG];exact(But.refl _ _).put _
     have e9:H28 L=some (.lst ((qs9.eraseIdx gi).map V.ref)):=by rw[← hG,qep];exact qc
     clear hG;have X28:=W27.butX BL nL2 (qy (by simp)) h91;have T28:=X28.topX (X:=[L,O]) (fun b m=>qy (List.mem_append.mpr (.inl m)));have W28:=X28.maxX (X:=[L,O]) (fun b m=>qy (List.mem_append.mpr (.inl m)));have SE28:=SE27.trans T28;have F28:=F27.same T28;have C28:=C27.same T28;have LQ:=qli h92 (fun i q W e1 e2=>(h93 i q W e1 e2).same T28) gi;have Q28:Ls (cut H28 ([L,O]++[p,x,td,ed,bl2])) H28 L ((WsD ds++[bwn t.2.2 1443 1460]).eraseIdx gi):=⟨⟨_,e9,LQ.1,LQ.2⟩,fun W m=>QW W (List.mem_of_mem_eraseIdx m)⟩
     clear X28 W27 SE27 F27 C27 Q27;have sm28:=SE28.trans (qv H28 ([L,O]++[p,x,td,ed,bl2]));clear LQ h91 h92 h93 BL e9;(try unfold qF);(try dsimp only);refine⟨_,rfl,_,rfl,bq,zb,B,gi,rfl,sm28 _ _ hb,tzb.same sm28,by omega,fun O2 ws H29 fO2 S29 hO2 tO2=>?_⟩;have nO3:O2∉[p,x,td,ed,bl2]:=W28.fresh fO2
     have nOL2:O2≠L:=by
       rintro rfl;obtain⟨_,h1,_⟩:=Q28.ex;rw[h1]at fO2;cases fO2
     have X29:=W28.same S29;have T29:=X29.topX (X:=[L,O2]) (fun b m=>by rcases List.mem_cons.mp m with rfl|m;exact qy (by simp);rw[List.mem_singleton.mp m];exact Q8 fO2);have W29:=X29.maxX (X:=[L,O2]) (fun b m=>by rcases List.mem_cons.mp m with rfl|m;exact qy (by simp);rw[List.mem_singleton.mp m];exact Q8 fO2);have SE29:=SE28.trans T29;have F29:=F28.same T29;have C29:=C28.same T29;have Q29:=Q28.mv T29 (S29 _);clear X29 W28 SE28 F28 C28 Q28;exact hN _ _ ⟨_,O2,bl2,(esD ds++[(("yyyyyyyy":Str),y,Kd.bt t.1 1443 1460)]:Es).eraseIdx gi,zs2,wob gi B,_,ws,rfl,W29,SE29,F29,C29,Q29,hO2,tO2,pw3.er gi,Nat.le_trans (by rw[List.length_eraseIdx];split<;>omega) l9,Nat.le_trans (qiJ _ _) b60,fun m=>nz (by obtain⟨e,me,ee⟩:=List.mem_map.mp m;exact List.mem_map.mpr ⟨e,List.mem_of_mem_eraseIdx me,ee⟩),nL2,nO3,nOL2⟩
   clear W24 SE24 F24 C24 Q24 pw3 Wn nL nO nOL neL;rintro _ H40 ⟨s12,O,bl2,es2,zs2,B2,Ws2,wsO,rfl,W40,SE40,F40,C40,Q40,eO,tO,pw,l9,b60',nz,nL,nO,nOL⟩
   have neL:L≠p∧L≠x∧L≠td∧L≠ed∧L≠bl2:=by
     refine⟨?_,?_,?_,?_,?_⟩<;>(rintro rfl;exact nL (by simp))
   have neO:O≠p∧O≠x∧O≠td∧O≠ed∧O≠bl2:=by
     refine⟨?_,?_,?_,?_,?_⟩<;>(rintro rfl;exact nO (by simp))
   try unfold qF
   try dsimp only
   obtain⟨dx40,hx40⟩:=W40.lo.hx;refine⟨_,rfl,x,dx40,_,rfl,hx40,rfl,?_⟩;refine fun yz dy fy fdy ney=>⟨yz,a.c_Entry,dy,"zzzzzzzz",rfl,qc,(by decide +kernel),T.cl_Entry,T.n_Entry_name,fun H41 By e_y=>⟨rfl,?_⟩⟩
   have S41:Same H40 H41:=qW fy fdy By
   have ny:yz∉([L,O]++[p,x,td,ed,bl2]):=fun m=>by
     rcases List.mem_append.mp m with m|m
     · rcases List.mem_cons.mp m with m|m
       · obtain⟨_,h1,_⟩:=Q40.ex;rw[m,h1]at fy;cases fy
       · rw[List.mem_singleton.mp m,eO]at fy;cases fy
     · exact W40.fresh fy m
   have eO:=S41 _ _ eO;have tO:=tO.same S41;have X41:=W40.same S41;have T41:=X41.topX (X:=[L,O]) (fun b m=>qy (List.mem_append.mpr (.inl m)));have W41:=X41.maxX (X:=[L,O]) (fun b m=>qy (List.mem_append.mpr (.inl m)));have SE41:=SE40.trans T41;have F41:=F40.same T41;have C41:=C40.same T41;have Q41:=Q40.mv T41 (S41 _);clear X41 W40 SE40 F40 C40 Q40;have en:EnD a (cut H41 ([L,O]++[p,x,td,ed,bl2])) yz "zzzzzzzz" .any:=.any (by rw[qH ny];exact e_y);have nin:("zzzzzzzz":Str)∉(ev es2).map (·.1):=by rw[jp];exact nz
   have pn:∀ s∈Kd.any.pls,s∈us3.map (·.1):=fun s m=>nomatch m;refine⟨x,td,ed,bl2,tv us3,ev es2,zs2,yz,"zzzzzzzz",.any,rfl,W41.lo,en.same (qv _ _),(by rw[zU];exact pn),nin,by rw[List.length_map];omega,fun H42 B42 L42=>?_⟩;have eO:=B42 _ _ eO neO.2.2.2.1;have tO:=j7 tO B42 W41.lo.he (fun _ z=>nomatch z);have X42:=W41.put B42 L42 en pn;have T42:=X42.topX (X:=[L,O]) (fun b m=>qy (List.mem_append.mpr (.inl m)));have W42:=X42.maxX (X:=[L,O]) (fun b m=>qy (List.mem_append.mpr (.inl m)));have SE42:=SE41.trans T42;have F42:=F41.same T42;have C42:=C41.same T42;have Q42:=Q41.mv T42 (fun o e=>B42 _ _ e neL.2.2.2.1);clear X42 W41 SE41 F41 C41 Q41;clear en nin e_y By S41 ny fy fdy ney;(try unfold qF);(try dsimp only);obtain⟨dx42,hx42⟩:=W42.lo.hx
   have lzs2:zs2.length≤60:=by
     have:=W42.tb.1
     rw[List.length_map]at this;omega
   have mz:(("zzzzzzzz":Str),V.ref yz)∈ev (es2++[(("zzzzzzzz":Str),yz,Kd.any)]:Es):=List.mem_map.mpr ⟨_,List.mem_append.mpr (.inr (List.mem_singleton.mpr rfl)),rfl⟩
   have nmz:((es2++[(("zzzzzzzz":Str),yz,Kd.any)]:Es).map (·.1)).getD es2.length ("":Str)="zzzzzzzz":=by
     rw[List.map_append,List.getD_eq_getElem?_getD,List.getElem?_append_right (by rw[List.length_map];exact Nat.le_refl _),List.length_map,Nat.sub_self];rfl
   refine⟨_,rfl,x,dx42,_,rfl,hx42,rfl,_,rfl,x,td,ed,bl2,tv us3,ev (es2++[(("zzzzzzzz":Str),yz,Kd.any)]:Es),zs2,(("zzzzzzzz":Str),V.ref yz),(("zzzzzzzz":Str),V.ref yz),-3,rfl,W42.lo,mz,mz,by decide,by decide,by omega,fun tz vz H43 ftz B43 etz L43=>?_⟩;have eO:=B43 _ _ eO neO.2.2.2.2;have tO:=j7 tO B43 W42.lo.hb (fun _ z=>nomatch z);have X43:=W42.bind (i:=es2.length) (m:=-3) B43 L43 (by unfold nmB;dsimp only;rw[nmz];exact etz) (by rw[List.length_append];exact Nat.lt_succ_self _);have T43:=X43.topX (X:=[L,O]) (fun b m=>qy (List.mem_append.mpr (.inl m)));have W43:=X43.maxX (X:=[L,O]) (fun b m=>qy (List.mem_append.mpr (.inl m)));have SE43:=SE42.trans T43;have F43:=F42.same T43;have C43:=C42.same T43;have Q43:=Q42.mv T43 (fun o e=>B43 _ _ e neL.2.2.2.2);clear X43 W42 SE42 F42 C42 Q42;clear mz etz ftz;(try unfold qF);(try dsimp only);have QW:=Q43.ok;obtain⟨qs8,h81,h82,h83⟩:=Q43.ex
   have XL:∀ b∈[L,O],∃ o,H43 b=some o:=fun b m=>by
     rcases List.mem_cons.mp m with rfl|m
     · exact⟨_,h81⟩
     · rw[List.mem_singleton.mp m];exact⟨_,eO⟩
   refine⟨_,rfl,.inl ⟨rfl,_,SqL.of h81⟩,_,_,rfl,rfl,⟨by decide,by decide,by decide⟩,ql (Nat.le_of_ble_eq_true rfl),fun t1 ft1=>?_⟩;generalize hG:upd H43 t1 _=A1;obtain⟨s1,e1⟩:=qt hG ft1;clear hG;refine⟨ql (Nat.le_of_ble_eq_true rfl),fun r2 fr2=>?_⟩;generalize hG:upd A1 r2 _=H44;obtain⟨s2,e2⟩:=qt hG fr2;clear hG;have S44:=s1.trans s2;have nt1:=W43.freshX XL ft1;have nr2:=(W43.same s1).freshX (fun b m=>(XL b m).elim fun o e=>⟨o,s1 _ _ e⟩) fr2;have h81:=S44 _ _ h81;have eO:=S44 _ _ eO;have tO:=tO.same S44;have R2:Rs (cut H44 ([L,O]++[p,x,td,ed,bl2])) r2 [(0,1000000000)]:=⟨_,by rw[qH nr2];exact e2,TupL.nil.snoc (p:=(0,1000000000)) (by rw[qH nt1];exact s2 _ _ e1)⟩
   have X44:=W43.same S44;have T44:=X44.topX (X:=[L,O]) (fun b m=>qy (List.mem_append.mpr (.inl m)));have W44:=X44.maxX (X:=[L,O]) (fun b m=>qy (List.mem_append.mpr (.inl m)));have SE44:=SE43.trans T44;have F44:=F43.same T44;have C44:=C43.same T44;have Q44:=Q43.mv T44 (S44 _);clear X44 W43 SE43 F43 C43 Q43;have h83:=fun i q W e1 e2=>(h83 i q W e1 e2).same T44;clear nt1 nr2 XL ft1 fr2 s1 s2 e1 e2;have l8:qs8.length=es2.length:=h82.trans pw.1.symm;refine⟨L,_,_,rfl,rfl,h81,qw (by rw[List.length_map];omega),?_⟩;generalize hG:upd H44 L _=H45;have BL:But L H44 H45:=by rw[← hG];exact(But.refl _ _).put _
   have e9:H45 L=some (.lst ((qs8++[r2]).map V.ref)):=by rw[← hG,List.map_append];exact qc
   clear hG;have eO:=BL _ _ eO nOL;have tO:=j7 tO BL h81 (fun _ z=>nomatch z);have X45:=W44.butX BL nL (qy (by simp)) h81;have T45:=X45.topX (X:=[L,O]) (fun b m=>qy (List.mem_append.mpr (.inl m)));have W45:=X45.maxX (X:=[L,O]) (fun b m=>qy (List.mem_append.mpr (.inl m)));have SE45:=SE44.trans T45;have F45:=F44.same T45;have C45:=C44.same T45;have LQ:=qjl h82 (fun i q W e1 e2=>(h83 i q W e1 e2).same T45) (R2.same T45);have Q45:Ls (cut H45 ([L,O]++[p,x,td,ed,bl2])) H45 L (Ws2++[[(0,1000000000)]]):=⟨⟨_,e9,LQ.1,LQ.2⟩,fun W m=>(List.mem_append.mp m).elim (QW W) (fun m=>by rw[List.mem_singleton.mp m];exact⟨qd3 (by decide),by decide⟩)⟩
   clear X45 W44 SE44 F44 C44 Q44;clear LQ R2 BL h81 h82 h83 QW;(try unfold qF);(try dsimp only)
   have el:(((((qs8++[r2]).map V.ref).length:Nat):Int) - 1)=((es2.length:Nat):Int):=by
     rw[List.length_map,List.length_append,l8];simp only[List.length_cons,List.length_nil];omega
   refine⟨_,rfl,.inl ⟨rfl,_,SqL.of eO⟩,_,rfl,_,_,rfl,.inl ⟨_,SqL.of e9,rfl⟩,_,_,rfl,rfl,_,rfl,_,_,rfl,.inl ⟨_,SqL.of e9,rfl⟩,_,_,rfl,rfl,_,rfl,ql (Nat.le_of_ble_eq_true rfl),fun tt ftt=>?_⟩;generalize hG:upd H45 tt _=H46;obtain⟨S46,ett⟩:=qt hG ftt;clear hG;have ett:H46 tt=some (.tup (tr (es2.length,es2.length,-3))):=by rw[ett,el]<;>rfl
   have eO:=S46 _ _ eO;have tO:=(tO.same S46).snoc ett;have X46:=W45.same S46;have T46:=X46.topX (X:=[L,O]) (fun b m=>qy (List.mem_append.mpr (.inl m)));have W46:=X46.maxX (X:=[L,O]) (fun b m=>qy (List.mem_append.mpr (.inl m)));have SE46:=SE45.trans T46;have F46:=F45.same T46;have C46:=C45.same T46;have Q46:=Q45.mv T46 (S46 _);clear X46 W45 SE45 F45 C45 Q45;have lO:=tO.1;rw[List.length_append,List.length_append]at lO;simp only[List.length_cons,List.length_nil]at lO;refine⟨O,_,_,rfl,rfl,eO,qw (by omega),?_⟩;generalize hG:upd H46 O _=H47;have BL:But O H46 H47:=by rw[← hG];exact(But.refl _ _).put _
   have e8:H47 O=some (.lst (wsO++[.ref tt])):=by rw[← hG];exact qc
   clear hG;have tO:=j7 tO BL eO (fun _ z=>nomatch z);have X47:=W46.butX BL nO (qy (by simp)) eO;have T47:=X47.topX (X:=[L,O]) (fun b m=>qy (List.mem_append.mpr (.inl m)));have W47:=X47.maxX (X:=[L,O]) (fun b m=>qy (List.mem_append.mpr (.inl m)));have SE47:=SE46.trans T47;have F47:=F46.same T47;have C47:=C46.same T47;have Q47:=Q46.mv T47 (fun o e=>BL _ _ e (Ne.symm nOL));clear X47 W46 SE46 F46 C46 Q46;clear BL eO ett ftt e9 el lO;(try unfold qF);(try dsimp only);refine⟨_,rfl,x,td,ed,bl2,us3,(es2++[(("zzzzzzzz":Str),yz,Kd.any)]:Es),(zs2++[.ref tz]),(B2++[(es2.length,es2.length,-3)]),rfl,W47.lo,W47.tq,W47.esok,by rw[List.length_append];simp only[List.length_cons,List.length_nil];omega,W47.tb,W47.bk,by rw[List.length_append];simp only[List.length_cons,List.length_nil];omega,fun f5 rs5 G48 H48 ff48 S48 SG48 old48 fr48 spf5=>?_⟩;have C_f5:=W47.frcX (X:=[L,O]) old48 (fun b m=>by rcases List.mem_cons.mp m with rfl|m;exact Q47.ex.elim fun _ h=>⟨_,h.1⟩;rw[List.mem_singleton.mp m];exact⟨_,e8⟩) SG48 fr48;clear old48 SG48 fr48 ff48;have X48:=W47.same S48;have T48:=X48.topX (X:=[L,O]) (fun b m=>qy (List.mem_append.mpr (.inl m)));have W48:=X48.maxX (X:=[L,O]) (fun b m=>qy (List.mem_append.mpr (.inl m)));have SE48:=SE47.trans T48;have F48:=F47.same T48;have C48:=C47.same T48;have Q48:=Q47.mv T48 (S48 _);clear X48 W47 SE47 F47 C47 Q47;have pw5:Pw us3 (es2++[(("zzzzzzzz":Str),yz,Kd.any)]:Es) (Ws2++[[(0,1000000000)]]):=pw.snoc fun n=>mem1.symm;have TP5:=pw5.told spf5;have e8:=S48 _ _ e8;have tO:=tO.same S48;refine⟨_,rfl,_,rfl,f5,L,O,rs5,_,_,_,rfl,C_f5.same (qv _ _),Q48.fs (qv _ _),TP5.1,TP5.2,e8,tO,fun H49 S49=>⟨true,rfl,Jc rfl ?_⟩⟩;have X49:=W48.same S49;have T49:=X49.topX (X:=[L,O]) (fun b m=>qy (List.mem_append.mpr (.inl m)));have W49:=X49.maxX (X:=[L,O]) (fun b m=>qy (List.mem_append.mpr (.inl m)));have SE49:=SE48.trans T49;have F49:=F48.same T49;have C49:=C48.same T49;have Q49:=Q48.mv T49 (S49 _);clear X49 W48 SE48 F48 C48 Q48;have sm49:=SE49.trans (qv H49 ([L,O]++[p,x,td,ed,bl2]));refine⟨_,rfl,_,rfl,_,rfl,f,D,bq,rs,WsD ds,B,zb,rfl,C49.same (qv _ _),F49.same (qv _ _),TP.1,TP.2,sm49 _ _ hb,tzb.same sm49,fun H50 S50=>kk _⟩
end
theorem len_0 {p:List Value->Prop} (h:p []):∀ us:List Value,us.length=0->p us:=fun us hl=>by
 cases us with
 | nil=>exact h
 | cons a t=>cases hl
theorem len_1 {p:List Value->Prop} (h:∀ a,p [a]):∀ us:List Value,us.length=1->p us:=fun us hl=>by
 cases us with
 | nil=>cases hl
 | cons a t=>exact len_0 (p:=fun t=>p (a::t)) (h a) t (Nat.succ.inj hl)
theorem len_2 {p:List Value->Prop} (h:∀ a b,p [a,b]):∀ us:List Value,us.length=2->p us:=fun us hl=>by
 cases us with
 | nil=>cases hl
 | cons a t=>exact len_1 (p:=fun t=>p (a::t)) (h a) t (Nat.succ.inj hl)
theorem len_3 {p:List Value->Prop} (h:∀ a b c,p [a,b,c]):∀ us:List Value,us.length=3->p us:=fun us hl=>by
 cases us with
 | nil=>cases hl
 | cons a t=>exact len_2 (p:=fun t=>p (a::t)) (h a) t (Nat.succ.inj hl)
theorem len_4 {p:List Value->Prop} (h:∀ a b c d,p [a,b,c,d]):∀ us:List Value,us.length=4->p us:=fun us hl=>by
 cases us with
 | nil=>cases hl
 | cons a t=>exact len_3 (p:=fun t=>p (a::t)) (h a) t (Nat.succ.inj hl)
theorem len_5 {p:List Value->Prop} (h:∀ a b c d e,p [a,b,c,d,e]):∀ us:List Value,us.length=5->p us:=fun us hl=>by
 cases us with
 | nil=>cases hl
 | cons a t=>exact len_4 (p:=fun t=>p (a::t)) (h a) t (Nat.succ.inj hl)
theorem mkDf {K:Frag}{h:Heap}{mg:Str->Option Value} (X:K.In h) (G:h.Ns mainGlobals mg) {x:Str}{st:Stmt}{ps:List Str}{f:Addr}{oc:Value}{od an:Option Addr}{osl:Array (Option Value)}{kV doc pm cdv ct:Value} (a:nsIn K mainGlobals x=some (some (.ref f))) (l:K.lookup f=some ⟨oc,od,.func (fnOf x x (QI st) (zX st) (qg st) .none kV doc pm an cdv ct),osl⟩) (c:codeIn K cdv x=true) (k:keepIn K (.ref f)=true) (hb:∀ (kV doc pm:Value) (an:Option Addr) (cdv ct:Value) (us:List Value),us.length=ps.length->bindArgs (fnOf x x (QI st) (zX st) (qg st) .none kV doc pm an cdv ct) ⟨us,[]⟩=pure (ps.zip us)):Df K mg x st ps f (fnOf x x (QI st) (zX st) (qg st) .none kV doc pm an cdv ct):=⟨qeu l c k,(qeu l c k).binds hb,PySem.W.mg_of X G a,k⟩
theorem mkDm {K:Frag}{C:Addr}{x q:Str}{st:Stmt}{ps:List Str}{f:Addr}{oc:Value}{od an:Option Addr}{osl:Array (Option Value)}{kV doc pm cdv ct:Value} (m:qgP K C x f) (l:K.lookup f=some ⟨oc,od,.func (fnOf x q (QI st) (zX st) (qg st) .none kV doc pm an cdv ct),osl⟩) (c:codeIn K cdv q=true) (k:keepIn K (.ref f)=true) (hb:∀ (kV doc pm:Value) (an:Option Addr) (cdv ct:Value) (us:List Value),us.length=ps.length->bindArgs (fnOf x q (QI st) (zX st) (qg st) .none kV doc pm an cdv ct) ⟨us,[]⟩=pure (ps.zip us)):DfM K C x q st ps f (fnOf x q (QI st) (zX st) (qg st) .none kV doc pm an cdv ct):=⟨qeu l c k,(qeu l c k).binds hb,m⟩
theorem all2 {l:PySem.W.OpenLaw}{w:World}{K:Frag}{h:Heap}{mg:Str->Option Value}{fa:Addr} (X:K.In h) (G:h.Ns mainGlobals mg) (hfa:mg "law"=some (.ref fa)) {a:Ad} (T:Txt K mg a)
   : ∃ fd:FuncData,(∀ (s:Shared) (v:Value),BindsTo s fd ⟨[v],[]⟩ [("_law_script",v)])∧∀ base:Heap,K.In base->base.Ns mainGlobals mg->qgR mg base->FnOk l.prog w K mg base CX0 11 fa fd ["_law_script"] (qg0 K a.t_Lentry):=by
 have e:=hfa.symm.trans T.d_ai.m;obtain⟨oc,od,kV,doc,pm,an,cdv,ct,osl,e2,lk,hcd⟩:=T.d_ai.F.ex;cases e;exact⟨a.fd_ai,fun s v=>by rw[e2];exact .of_eq rfl,fun base _ _ hB=>qkm T hB⟩
theorem walk {l:PySem.W.OpenLaw}{q:Program}{loose:List Str}{XP:(Str->Option Value)->Heap->Prop}{YP:World->Heap->Prop}{d:DefRec}{K:Params->Frag}{t:Addr} (hn:l.most=some 63) (hdf:d.params.defaults=[])
   (hY:∀ (w:World) (h:Heap),YP w h->(K w.params).In h∧(∀ u∈[t],h.get? u=some (PySem.W.tabObj #[]))∧(∀ u∈[t],isCodeTable h u)∧∀ u∈[t],(K w.params).lookup u=none)
   (F:∀ (w:World) (mg:Str->Option Value) (fa:Addr) (h:Heap),(K w.params).In h->h.Ns mainGlobals mg->mg d.name=some (.ref fa) ->
     ∃ fd:FuncData,(∀ (s:Shared) (u:Value),BindsTo s fd ⟨[u],[]⟩ [("_law_script",u)])∧∀ base:Heap,(K w.params).In base->base.Ns mainGlobals mg->qgR mg base->FnOk l.prog w (K w.params) mg base CX0 11 fa fd ["_law_script"] (qg0 (K w.params) t)) :
   PySem.W.WalkO q loose XP YP l.row.toRowW d [] (fun f vs=>PySem.call f vs) :=
 L2.walk_ofT (ts:=[t]) (n:=63) (k:=11) (x:="_law_script") (CX:=fun _=>CX0) (sp:=fun w=>qg0 (K w.params) t) hn (by decide) hdf ⟨rfl,by decide,by decide,rfl⟩ hY F (fun _ _ a ns hl _ hT hS=>⟨a,ns,rfl,hS,hl,⟨#[],hT t List.mem_cons_self,True.intro,.inl rfl⟩,fun _=>rfl⟩) fun _ _ _ _ _ z=>z
end K42
open PySem PySem.W PyProof.Rows
namespace PySem.W.Fast
def tw7792377874562979896:=0
def tw4307271212751348752:=0
def tw5342671676530258803:=0
def tw3191875797702548972:=0
def tw1368333889261596667:=0
def tw2300173505689782157:=0
def tw13594356975725802298:=0
def tw12566915683028100682:=0
def tw2559285992809520556:=0
def tw8609235355198678800:=0
def tw16334675850916501599:=0
def tw1860481239685146584:=0
def tw3616555048522541725:=0
def tw15035759114825906436:=0
def tw15349828056659998306:=0
def tw8422454218208224573:=0
def tw1203671822704692471:=0
def tw13452559061226907523:=0
def tw17375718180977594978:=0
def tw2852551723299247351:=0
def tw6940245462364198881:=0
def tw4043286301013542533:=0
def tw9323675586601635326:=0
def tw2694768557047935309:=0
def tw18347020663295619617:=0
def tw4662458055229321249:=0
def tw4619215065657246957:=0
def tw5257391960887156080:=0
def tw11026934854017930285:=0
def tw13946785369942055096:=0
def tw3319254451679557784:=0
def tw10116132115692418539:=0
def tw3862716623403033674:=0
def tw17317311075826668925:=0
def tw7531448449509267959:=0
def tw13265168995641027512:=0
def tw13858431326524795014:=0
def tw17848102673399234603:=0
def tw191610889411243788:=0
def tw1574286621509276201:=0
def tw10996914771525003285:=0
def tw12729454081000172091:=0
def tw463233388057789674:=0
def tw17836382984285850743:=0
def tw8476963916235889870:=0
def tw9910885692681406652:=0
def tw10585264506756226072:=0
def tw16424838646580230832:=0
def tw4972639151019525080:=0
def tw3158725286472962217:=0
def tw12191566784098753766:=0
def tw572743219351259991:=0
def tw5034775280371314544:=0
def tw4465022825942577403:=0
def tw8063903913277177473:=0
def tw11895394800245970722:=0
def tw14768474070331751273:=0
def tw12577982824904015880:=0
def tw5417823504315053597:=0
def tw2595554595913397709:=0
def tw5975174906532170068:=0
def tw4317317304495205220:=0
def tw15319939998965081003:=0
def tw8534671639041123965:=0
def tw11163639618197552365:=0
def tw7225761828771843533:=0
def tw1412602824999174060:=0
def tw1775924657015849563:=0
def tw12557043365310308749:=0
def tw204927821056628280:=0
def tw9517702651017328567:=0
def tw8608472095872616567:=0
def tw12473643723215892173:=0
def tw4059792323800695149:=0
def tw12591463768271259504:=0
def tw14616510741260712773:=0
def tw16989431631787264157:=0
def tw8417489574477301048:=0
def tw6628015916957836598:=0
def tw13553108650602795921:=0
def tw12949097255452379715:=0
def tw1595158398624103022:=0
def tw6934808355997325549:=0
def tw10084930480648077230:=0
def tw15333633131993126513:=0
def tw17211472142367916636:=0
def tw1899967172485325779:=0
def tw4093992270553429006:=0
def tw13448204063165925739:=0
def tw9030537213007411499:=0
def tw17621793814054916658:=0
def tw1669630354509037496:=0
def tw14057234124906205747:=0
def tw11785960547170645758:=0
def tw7615094734394838262:=0
def tw4738687085864747549:=0
def tw16442906475562832295:=0
def tw13735616202099726966:=0
def tw11018529459031711688:=0
def tw15760367151860259759:=0
def tw13800037422568244106:=0
def tw18013014244075099061:=0
def tw10065538818859744595:=0
def tw11120797468963115377:=0
def tw714542902115557094:=0
def tw6886710428915074947:=0
def tw17587914811661048562:=0
def tw1226536371068718349:=0
def tw10934902366289977753:=0
def tw5517960412762010393:=0
def tw1487351234364264993:=0
def tw289780024603692102:=0
def tw11611481321572315711:=0
def tw7180540007069401200:=0
def tw15191492678798136209:=0
def tw4769125808733846444:=0
def tw11630234529133759719:=0
def tw8650886884132192236:=0
def tw12902847560547848050:=0
def tw14201289052610137103:=0
def tw14121215702149705918:=0
def tw12638232573863349965:=0
def tw5074608654141635301:=0
def tw8602015342159752573:=0
def tw11277073592938079618:=0
def tw17309169260686164180:=0
def tw4310424722226816986:=0
def tw4232087018440413956:=0
def tw1555588804205192457:=0
def tw3336719345933415812:=0
def tw10780407091763968924:=0
def tw14465149914807914698:=0
def tw10534245310550142794:=0
def tw9258775029206660747:=0
def tw1707660175093546931:=0
def tw7082290204190061819:=0
def tw2283607294492631351:=0
def tw16631142345964240571:=0
def tw17001659886843334247:=0
def tw617997344893577217:=0
def tw2316589324835058794:=0
def tw4168813509332792950:=0
def tw14017826933693639449:=0
def tw17885595682437704612:=0
def tw5481256576876065973:=0
def tw8175334694430847819:=0
def tw4725701876307868021:=0
def tw6099137986991317262:=0
def tw9324757745031595978:=0
def tw15093824957561582093:=0
def tw14221550247578208541:=0
def tw1020524600447895669:=0
def tw17397964170925905577:=0
def tw4937230212791412368:=0
def tw17037923363717120318:=0
def tw152572742603619727:=0
def tw16644879058141074532:=0
def tw931057743863560818:=0
def tw2182600415785791677:=0
def tw18343677920760638980:=0
def tw3782303470033660537:=0
def tw18354559033975537429:=0
def tw16577601316400016593:=0
def tw7267834722111664977:=0
def tw10801999707059164461:=0
def tw9293200297295185158:=0
def tw14857704510010962561:=0
def tw6123937285212328363:=0
def tw8356818211226844711:=0
def tw3643408608584523415:=0
def tw3470590665736433081:=0
def tw18348813150843896764:=0
def tw11404124766840574986:=0
def tw7242255607838532007:=0
def tw17505387411832066695:=0
def tw14919173595998705071:=0
def tw16941516856320529927:=0
def tw1820950734410272211:=0
def tw10764037581558807158:=0
def tw5295532909363486671:=0
def tw6164275065937595420:=0
def tw13273767381411392064:=0
def tw18393249838469266464:=0
def tw2330279441609001390:=0
def tw12169225444334498897:=0
def tw1455868996424801492:=0
def tw13202604815538479160:=0
def tw7433440837485920246:=0
def tw13927483822893009846:=0
def tw10462456948166057645:=0
def tw2502181469439312620:=0
def tw8966991303231160437:=0
def tw4330773687048766015:=0
def tw699192929157451480:=0
def tw7527845001243217613:=0
def tw274758648980373698:=0
def tw7121728169297728532:=0
def tw190673121494726827:=0
def tw8359735830673878489:=0
def tw7338487219557789026:=0
def tw10160386624615660190:=0
def tw5040335260688466317:=0
def tw4085160646492764877:=0
def tw18097649584835171517:=0
def tw16042587076239680699:=0
def tw12749305894167062507:=0
def tw6939580635065062857:=0
def tw17899767995492545097:=0
def tw16288782856783073426:=0
def tw9240487369164242314:=0
def tw52895565096868051:=0
def tw159046798095420388:=0
def tw13137266136679291251:=0
def tw7815119369052718721:=0
def tw3765696448635496298:=0
def tw17323141418892295052:=0
def tw1524100995341786678:=0
def tw6865581128752693243:=0
def tw7635591556488854875:=0
def tw15663746115094966543:=0
def tw9571811383038628863:=0
def tw2203597877586651977:=0
def tw5811713660926640818:=0
def tw3702167239000874662:=0
def tw6172916593858576934:=0
def tw5446394698320921048:=0
def tw9876599362255193391:=0
def tw7092316379150055016:=0
def tw2541224999385464449:=0
def tw12291923651279950216:=0
def tw5911863979239123945:=0
def tw1589578772207965268:=0
def tw17073762220185311547:=0
def tw16499286380644077933:=0
def tw13585668549857291513:=0
def tw3298151151860220331:=0
def tw10538084787549344788:=0
def tw3444062741285127378:=0
def tw2547089649587543988:=0
def tw7377940954138770489:=0
def tw17672872360036149035:=0
def tw9047991647599705607:=0
def tw3746441020665719132:=0
def tw6656981169187669295:=0
def tw7883098324916749036:=0
def tw1660524685012577949:=0
def tw8095812620297487694:=0
def tw8279089768501041765:=0
def tw10142228966073982285:=0
def tw4548778333460909424:=0
def tw6188761399846823716:=0
def tw13274147327687880597:=0
def tw2894256059946141887:=0
def tw10280489816611437240:=0
def tw5118628499221379278:=0
def tw1482393971075620894:=0
def tw15780569906798656260:=0
def tw1515715993919898280:=0
def tw8319766737943444771:=0
end PySem.W.Fast
set_option maxHeartbeats 0 in
theorem PySem.Challenge.cw_foldlog_k42_frames_of_logs_holds : PySem.Challenge.rw_foldlog_k42_frames_of_logs.Holds := by
 w_on;o_law;km_head;(case hw=>w_witness2)
 k_fill
 refine K42.walk (t:=918) (l:=PySem.Challenge.rw_foldlog_k42_frames_of_logs) rfl rfl (fun w h Y=>⟨PySem.W.km_in_of Y,PySem.W.km_tabs_of Y,fun u m=>by cases List.mem_singleton.mp m;exact((PySem.W.codeHd_of_K (c:=920) (PySem.W.km_in_of Y) (by kernel_rfl)).tab (PySem.W.km_tabs_of Y 918 (List.mem_singleton.mpr rfl))).isCodeTable,fun u m=>by cases List.mem_singleton.mp m;kernel_rfl⟩) ?F
 case F =>
   intro w mg fa h KX G hmg;refine' K42.all2 KX G hmg (a:=⟨920,918,_,_,_,_,_,_,_,_,_,_,_,_,_,_,_,_,_,_,_,_,_,_,_,_,_,_,_,_,_,_,_,_,_,_,_,_,_,_,_,_,_,_,_,_,_,_,_,_,_,_,_,_,_,_,_,_,_,_,_,_,_,_,_,_,_,_,_,_,_,_,_,_,_,_,_,_,_,_,_,_,_,_,_,_,_,_,_,_,_,_,_,_,_,_,_,_,_,_,_,_,_,_,_,_,_,_,_,_,_,_,_,_,_,_,_,_,_,_,_,_,_,_,_,_,_,_,_,_,_,_,_,_,_,_,_,_,_,_,_,_,_,_,_,_,_,_,_,_,_,_,_,_,_,_,_,_,_,_,_,_,_,_,_,_,_⟩) ?T
   case T =>
     constructor
     all_goals try dsimp only
     all_goals try refine' PySem.W.mg_of KX G ?_
     all_goals try refine' PySem.W.mg_none_of KX G ?_
     all_goals try refine' ⟨_,PySem.W.mg_of KX G ?_⟩
     all_goals try k_is
     all_goals try refine' K42.mkDf KX G ?_ ?_ ?_ ?_ (fun _ _ _ _ _ _=>by first|exact K42.len_0 rfl|exact K42.len_1 fun _=>rfl|exact K42.len_2 fun _ _=>rfl|exact K42.len_3 fun _ _ _=>rfl|exact K42.len_4 fun _ _ _ _=>rfl|exact K42.len_5 fun _ _ _ _ _=>rfl)
     all_goals try refine' K42.mkDm ⟨?_,?_,?_⟩ ?_ ?_ ?_ (fun _ _ _ _ _ _=>by first|exact K42.len_0 rfl|exact K42.len_1 fun _=>rfl|exact K42.len_2 fun _ _=>rfl|exact K42.len_3 fun _ _ _=>rfl|exact K42.len_4 fun _ _ _ _=>rfl|exact K42.len_5 fun _ _ _ _ _=>rfl)
     all_goals try refine' L2.xIsa_of ?_ ?_ ?_
     all_goals try refine' L2.XMro.of ?_ ?_
     all_goals try refine' L2.xIn_of ?_ ?_
     all_goals try refine' ⟨⟨L2.xIn_of ?_ ?_,?_,?_,?_,?_,?_,?_⟩,?_,?_,?_⟩
     all_goals try refine' ⟨⟨?_,?_,?_,?_⟩,?_,?_,?_,?_⟩
     all_goals try refine' ⟨?_,?_,?_,?_⟩
     all_goals try refine' ⟨?_,?_,?_⟩
     all_goals try refine' ⟨?_,?_⟩
     all_goals try (first|k_is|rfl)
     all_goals try (first|k_is|rfl)
     all_goals try (first|k_is|rfl)
     all_goals decide
