import PyProof.Rows.All
import OpenK.KLine
import Wide.FinOn
import KE.KSortTup
import KE.KDictOf
import KE.LcSums
import KE.KIntText
import KE.KNestM
import KE.KRevSl
import KE.KFromBytes
import KE.KItemsList
import KE.KIsAll
import KE.KEqDict
import KE.KLam
import KE.KRevIter
import KE.KMinKey
import PySem.Challenge.RW_foldlog_k32_joint_entries
set_option maxHeartbeats 4000000
set_option Elab.async false
set_option linter.all false
set_option maxRecDepth 100000
namespace L2
open PySem PySem.Spec PyProof.Rows
open PySem.W (instObj methodObj Frag lookIn plainGet hasDictIn findIn handedIn plainGet_of isFn plainOver takerIn makesIn emptyDict keepIn kia_one kitx_list kitx_dict callWith_K fnOf)
abbrev Key:=Sum Int Str
def qdZ:Key->Value->Bool
 | .inl k,v=>Value.isInt k v
 | .inr x,v=>Value.isStrOf x v
def qm8 (w:World):Key->Int
 | .inl k=>hashInt k
 | .inr x=>hashStr w x
theorem ze:∀ {k:Key}{v:Value},qdZ k v=true->(∃ i t,k=Sum.inl i∧v=Value.int i t)∨(∃ x t,k=Sum.inr x∧v=Value.str x t)
 | .inl i,v,h=>by
   obtain⟨t,e⟩:=Value.isInt_shape (k:=i) (v:=v) h;exact .inl ⟨i,t,rfl,e⟩
 | .inr x,v,h=>by
   obtain⟨t,e⟩:=Value.isStrOf_shape (x:=x) (v:=v) h;exact .inr ⟨x,t,rfl,e⟩
theorem qgS (i:Int) (t:Tok):qdZ (.inl i) (.int i t)=true:=by simp[qdZ,Value.isInt]
theorem qgR (x:Str) (t:Tok):qdZ (.inr x) (.str x t)=true:=by simp[qdZ,Value.isStrOf]
theorem qlf (a b:Int):decide ((Sum.inl a:Key)=Sum.inl b)=(a == b):=by
 by_cases e:a=b
 · subst e;simp
 · have h:¬ (Sum.inl a:Key)=Sum.inl b:=fun q=>e (Sum.inl.inj q);rw[decide_eq_false h];exact(beq_eq_false_iff_ne.mpr e).symm
theorem qlc (a b:Str):decide ((Sum.inr a:Key)=Sum.inr b)=decide (a=b):=by
 by_cases e:a=b
 · subst e;simp
 · have h:¬ (Sum.inr a:Key)=Sum.inr b:=fun q=>e (Sum.inr.inj q);rw[decide_eq_false h,decide_eq_false e]
theorem qle (a:Int) (b:Str):decide ((Sum.inl a:Key)=Sum.inr b)=false:=decide_eq_false (fun q=>nomatch q)
theorem qld (a:Str) (b:Int):decide ((Sum.inr a:Key)=Sum.inl b)=false:=decide_eq_false (fun q=>nomatch q)
def qP (prog:Program) (w:World):PySem.KeyKind prog w Key where
 is:=qdZ
 hash:=qm8 w
 inj:=fun v a b ha hb=>by
   rcases ze ha with ⟨i,t,rfl,rfl⟩|⟨x,t,rfl,rfl⟩
   · rcases ze hb with ⟨j,u,rfl,e⟩|⟨y,u,rfl,e⟩
     · injection e with e1 _;rw[e1]
     · exact nomatch e
   · rcases ze hb with ⟨j,u,rfl,e⟩|⟨y,u,rfl,e⟩
     · exact nomatch e
     · injection e with e1 _;rw[e1]
 byValue:=fun k v h=>by
   rcases ze h with ⟨i,t,rfl,rfl⟩|⟨x,t,rfl,rfl⟩<;>rfl
 pyHash:=fun hv h=>by
   rcases ze hv with ⟨i,t,rfl,rfl⟩|⟨x,t,rfl,rfl⟩
   · exact wpAny_pyHash_int h
   · exact wpAny_pyHash_str h
 eqBool:=fun hu hv h=>by
   rcases ze hu with ⟨i,t,rfl,rfl⟩|⟨x,t,rfl,rfl⟩
   · rcases ze hv with ⟨j,u,rfl,rfl⟩|⟨y,u,rfl,rfl⟩
     · rw[qlf]at h;exact wpAny_eqBool_int h
     · rw[qle]at h;exact SeqAt.EqAt.int_str i t y u _ _ _ _ h
   · rcases ze hv with ⟨j,u,rfl,rfl⟩|⟨y,u,rfl,rfl⟩
     · rw[qld]at h;exact SeqAt.EqAt.str_int x t j u _ _ _ _ h
     · rw[qlc]at h;exact wpAny_eqBool_str h
 «strs»:=fun k x t v h=>by
   rcases ze h with ⟨i,u,rfl,e⟩|⟨y,u,rfl,e⟩
   · exact nomatch e
   · injection e with e1 _;subst e1;cases v<;>rfl
theorem qdV (prog:Program) (w:World) (i:Int) (t:Tok):(qP prog w).is (.inl i) (.int i t)=true:=qgS i t
theorem qdU (prog:Program) (w:World) (x:Str) (t:Tok):(qP prog w).is (.inr x) (.str x t)=true:=qgR x t
inductive V where
 | non|bl (b:Bool)|int (i:Int)|str (x:Str)|byt (b:Array UInt8)|flt (b:UInt64)|ref (a:Addr)|ty (n:String)
 deriving DecidableEq
def RelV:V->Value->Prop
 | .non,u=>u=Value.none
 | .bl b,u=>u=Value.bool b
 | .int i,u=>∃ t,u=Value.int i t
 | .str x,u=>∃ t,u=Value.str x t
 | .byt b,u=>∃ t,u=Value.bytes b t
 | .flt b,u=>∃ t,u=Value.float b t
 | .ref a,u=>u=Value.ref a
 | .ty n,u=>u=Value.type n
abbrev Vals:List V->List Value->Prop:=Paired RelV
theorem Vals.length {xs:List V}{us:List Value} (r:Vals xs us):xs.length=us.length:=Paired.length r
theorem Vals.get:∀ {xs:List V}{us:List Value}{i:Nat}{x:V},Vals xs us->xs[i]?=some x->∃ u,us[i]?=some u∧RelV x u
 | _,_,_,_,.nil,e=>by simp at e
 | _,_,0,_,.cons r _,e=>by simp at e;subst e;exact⟨_,rfl,r⟩
 | _,_,i+1,x,.cons _ t,e=>by
   obtain⟨u,h1,h2⟩:=Vals.get (i:=i) (x:=x) t (by simpa using e);exact⟨u,by simpa using h1,h2⟩
theorem Vals.set {x:V}{u:Value} (r:RelV x u):∀ {xs:List V}{us:List Value} (i:Nat),Vals xs us->Vals (xs.set i x) (us.set i u)
 | _,_,_,.nil=>.nil
 | _,_,0,.cons _ t=>.cons r t
 | _,_,i+1,.cons q t=>.cons q (Vals.set r i t)
theorem Vals.append:∀ {xs ys:List V}{us ws:List Value},Vals xs us->Vals ys ws->Vals (xs++ys) (us++ws)
 | _,_,_,_,.nil,s=>s
 | _,_,_,_,.cons r t,s=>.cons r (Vals.append t s)
theorem Vals.take:∀ {xs:List V}{us:List Value} (n:Nat),Vals xs us->Vals (xs.take n) (us.take n)
 | _,_,0,_=>.nil
 | _,_,_+1,.nil=>.nil
 | _,_,n+1,.cons r t=>.cons r (Vals.take n t)
theorem Vals.drop:∀ {xs:List V}{us:List Value} (n:Nat),Vals xs us->Vals (xs.drop n) (us.drop n)
 | _,_,0,r=>r
 | _,_,_+1,.nil=>.nil
 | _,_,n+1,.cons _ t=>Vals.drop n t
def RelO:Option V->Option Value->Prop
 | some v,some u=>RelV v u
 | none,none=>True
 | _,_=>False
def KV {κ:Type}:List (κ×V)->List (κ×Value)->Prop:=Paired fun (p:κ×V) (q:κ×Value)=>p.1=q.1∧RelV p.2 q.2
def kV:Key->V
 | .inl i=>.int i
 | .inr x=>.str x
inductive HO where
   | lst (xs:List V)
   | tup (xs:List V)
   | dK (kvs:List (Key×V))|dT (kvs:List (List Key×V))
   | set (S:Int->Bool) (n:Nat)
   | ins (C dx:Addr) (fs:List (Str×V))
   | own (x:Addr)
   | xd (fs:List (Str×V))
   | met (f x:Addr)
   | rng (lo hi:Int)
   | frz (o:Obj) (u:HO)
   | tbl (ps:Array Value)
   | ext (φ:Heap->Prop)
abbrev Hp:=Addr->Option HO
def upd (H:Hp) (a:Addr) (o:HO):Hp:=fun b=>if b=a then some o else H b
theorem qc {H:Hp}{a:Addr}{o:HO}:upd H a o a=some o:=by unfold upd;rw[if_pos rfl]
theorem qj {H:Hp}{a b:Addr}{o:HO} (h:b≠a):upd H a o b=H b:=by unfold upd;rw[if_neg h]
theorem Qm {H:Hp}{a b:Addr}{o u:HO} (h:H a=some o) (h':H b=some u) (d:o≠u):a≠b:=by
 intro e;subst e;rw[h]at h';exact d (Option.some.inj h')
theorem qi {H:Hp}{a b:Addr}{o:HO} (h:H a=some o) (h':H b=none):a≠b:=by
 intro e;subst e;rw[h]at h';cases h'
section
variable (P:Program) (w:World)
def ObjOk (H:Hp) (h:Heap) (a:Addr):HO->Prop
 | .lst xs=>xs.length≤sizeLine∧∃ (its:List Value) (n:Nat),Vals xs its∧h.get? a=some { cls:=.type "list",data:=.seq its.toArray n }
 | .tup xs=>xs.length≤sizeLine∧∃ its:List Value,Vals xs its∧IsTup h a its.toArray
 | .dK kvs=>kvs.length≤sizeLine∧(a == sysModules)=false∧∃ vs,KV kvs vs∧h.DictOf (qP P w) a vs
 | .dT kvs=>kvs.length≤sizeLine∧(a == sysModules)=false∧∃ xs:List (List Key×Addr×Value),
     Paired (fun (p:List Key×V) (q:List Key×Addr×Value)=>p.1=q.1∧H q.2.1=some (.tup (p.1.map kV))∧RelV p.2 q.2.2) kvs xs ∧
     ∃ o es ep,h.get? a=some o∧o.ExactDict∧o.data=.dict es ep∧es.toList=xs.map (entryOfKey (tupleKind (qP P w)))∧(xs.map (·.1)).Nodup
 | .set S n=>h.SetOf (intKind P w) a S n
 | .ins C dx fs=>H dx=some (.own a)∧fs.length≤1000∧dx≠a∧h.get? a=some (instObj C dx) ∧
     ∃ mA,h.Ns1 dx mA∧(∀ f,RelO (fs.lookup f) (mA f))∧PySem.Within mA (fs.map (·.1))
 | .own _=>∃ o,h.get? a=some o
 | .xd fs=>∃ mA,h.Ns1 a mA∧∀ f,RelO (fs.lookup f) (mA f)
 | .rng lo hi=>∃ t u v,h.get? a=some { cls:=.type "range",data:=.fields #[.int lo t,.int hi u,.int 1 v] }
 | .frz o u=>h.get? a=some o∧ObjOk H h a u
 | .tbl ps=>h.get? a=some { cls:=.none,data:=.fields ps }
 | .met f x=>h.get? a=some (methodObj (.ref f) (.ref x))
 | .ext φ=>φ h∧(∃ o,h.get? a=some o)∧∀ h1 h2:Heap,φ h1->(∀ o,h1.get? a=some o->h2.get? a=some o)->φ h2
def HOk (H:Hp) (h:Heap):Prop:=∀ a o,H a=some o->ObjOk P w H h a o
end
section
variable {P:Program}{w:World}{H H':Hp}{h h':Heap}{a:Addr}{o:HO}
theorem ObjOk.lt (x:ObjOk P w H h a o):a < h.objs.size:=by
 cases o with
 | lst xs=>obtain⟨_,_,_,_,e⟩:=x;exact Heap.lt_size e
 | tup xs=>obtain⟨_,_,_,p⟩:=x;exact p.lt
 | dK kvs=>obtain⟨_,_,_,_,o,_,_,e,_⟩:=x;exact Heap.lt_size e
 | dT kvs=>obtain⟨_,_,_,_,o,_,_,e,_⟩:=x;exact Heap.lt_size e
 | set S n=>obtain⟨o,_,_,_,e,_⟩:=x;exact Heap.lt_size e
 | ins C dx fs=>obtain⟨_,_,_,e,_⟩:=x;exact Heap.lt_size e
 | own y=>obtain⟨_,e⟩:=x;exact Heap.lt_size e
 | xd fs=>obtain⟨_,⟨_,_,_,e,_⟩,_⟩:=x;exact Heap.lt_size e
 | rng lo hi=>obtain⟨_,_,_,e⟩:=x;exact Heap.lt_size e
 | frz ob u=>obtain⟨e,_⟩:=x;exact Heap.lt_size e
 | tbl ps=>exact Heap.lt_size (show h.get? a=some _ from x)
 | met f y=>exact Heap.lt_size (show h.get? a=some _ from x)
 | ext φ=>obtain⟨_,⟨_,e⟩,_⟩:=x;exact Heap.lt_size e
theorem Paired.mapP {α β:Type}{F G:α->β->Prop}:∀ {l₁:List α}{l₂:List β},Paired F l₁ l₂->(∀ a b,F a b->G a b)->Paired G l₁ l₂
 | _,_,.nil,_=>.nil
 | _,_,.cons r t,f=>.cons (f _ _ r) (Paired.mapP t f)
theorem ObjOk.stay (x:ObjOk P w H h a o) (k:∀ b u,(b=a∨H b=some (.own a))->h.get? b=some u->h'.get? b=some u)
   (ho:∀ b,H b=some (.own a)->H' b=some (.own a)) (ht:∀ b xs,H b=some (.tup xs)->H' b=some (.tup xs)):ObjOk P w H' h' a o:=by
 induction o with
 | lst xs=>obtain⟨z,its,n,r,e⟩:=x;exact⟨z,its,n,r,k _ _ (.inl rfl) e⟩
 | tup xs=>obtain⟨z,its,r,ob,e,c⟩:=x;exact⟨z,its,r,ob,k _ _ (.inl rfl) e,c⟩
 | dK kvs=>obtain⟨z,y,vs,r,ob,es,ep,e,c⟩:=x;exact⟨z,y,vs,r,ob,es,ep,k _ _ (.inl rfl) e,c⟩
 | dT kvs =>
   obtain⟨z,y,xs,r,ob,es,ep,e,c⟩:=x;exact⟨z,y,xs,Paired.mapP r fun p q z=>⟨z.1,ht _ _ z.2.1,z.2.2⟩,ob,es,ep,k _ _ (.inl rfl) e,c⟩
 | set S n=>obtain⟨ob,es,ep,t,e,c⟩:=x;exact⟨ob,es,ep,t,k _ _ (.inl rfl) e,c⟩
 | ins C dx fs =>
   obtain⟨d,z,ne,e,mA,⟨od,es,ep,e2,c⟩,r⟩:=x;exact⟨ho _ d,z,ne,k _ _ (.inl rfl) e,mA,⟨od,es,ep,k _ _ (.inr d) e2,c⟩,r⟩
 | own y=>obtain⟨ob,e⟩:=x;exact⟨ob,k _ _ (.inl rfl) e⟩
 | xd fs=>obtain⟨mA,⟨od,es,ep,e,c⟩,r⟩:=x;exact⟨mA,⟨od,es,ep,k _ _ (.inl rfl) e,c⟩,r⟩
 | rng lo hi=>obtain⟨t,u,v,e⟩:=x;exact⟨t,u,v,k _ _ (.inl rfl) e⟩
 | frz ob u ih=>obtain⟨e,q⟩:=x;exact⟨k _ _ (.inl rfl) e,ih q⟩
 | tbl ps =>
   have e:h.get? a=some { cls:=.none,data:=.fields ps }:=x;show h'.get? a=some { cls:=.none,data:=.fields ps };exact k a _ (.inl rfl) e
 | met f y =>
   have e:h.get? a=some (methodObj (.ref f) (.ref y)):=x;show h'.get? a=some (methodObj (.ref f) (.ref y));exact k a _ (.inl rfl) e
 | ext φ=>obtain⟨p,⟨o,e⟩,st⟩:=x;exact⟨st _ _ p fun o q=>k _ _ (.inl rfl) q,⟨o,k _ _ (.inl rfl) e⟩,st⟩
theorem HOk.lt (x:HOk P w H h) (e:H a=some o):a < h.objs.size:=(x a o e).lt
theorem HOk.fresh (x:HOk P w H h) (e:h.objs.size≤a):H a=none:=by
 cases q:H a with
 | none=>rfl
 | some u=>exact absurd (Nat.lt_of_lt_of_le (x.lt q) e) (Nat.lt_irrefl _)
theorem HOk.kept (x:HOk P w H h) (k:∀ b u,h.get? b=some u->h'.get? b=some u):HOk P w H h':=fun a o e =>
 (x a o e).stay (fun b u _ q=>k b u q) (fun _ q=>q) fun _ _ q=>q
theorem HOk.laid (x:HOk P w H h) (k:∀ b u,h.get? b=some u->h'.get? b=some u) (hp:h.objs.size≤a) (new:ObjOk P w (upd H a o) h' a o):HOk P w (upd H a o) h':=fun b u e=>by
 have hn:=x.fresh hp;by_cases hb:b=a
 · subst hb;rw[qc]at e;cases e;exact new
 · rw[qj hb]at e;exact(x b u e).stay (fun c v _ q=>k c v q) (fun c q=>by rw[qj (qi q hn)];exact q) fun c xs q=>by rw[qj (qi q hn)];exact q
end
def Rd (H:Hp) (a:Addr) (u:HO):Prop:=H a=some u∨∃ o,H a=some (.frz o u)
theorem Rd.ok {P:Program}{w:World}{H:Hp}{h:Heap}{a:Addr}{u:HO} (r:Rd H a u) (x:HOk P w H h):ObjOk P w H h a u:=by
 rcases r with r|⟨o,r⟩
 · exact x a u r
 · obtain⟨_,q⟩:=x a _ r;exact q
def Mut:Option HO->Prop
 | some (.lst _)=>True
 | some (.dK _)=>True
 | some (.dT _)=>True
 | some (.set _ _)=>True
 | some (.ins _ _ _)=>True
 | some (.ext _)=>True
 | _=>False
section
variable {P:Program}{w:World}{H:Hp}{h h':Heap}{x e:Addr}{o':HO}
theorem HOk.write (ok:HOk P w H h) (mu:Mut (H x)) (he:e=x∨H e=some (.own x)) (k:∀ b u,b≠e->h.get? b=some u->h'.get? b=some u) (heo:∃ u,h'.get? e=some u)
   (new:ObjOk P w (upd H x o') h' x o'):HOk P w (upd H x o') h':=fun b u q=>by
 have nown:∀ c y,H c=some (.own y)->c≠x:=fun c y r z=>by subst z;rw[r]at mu;exact mu
 have ntup:∀ c xs,H c=some (.tup xs)->c≠x:=fun c xs r z=>by subst z;rw[r]at mu;exact mu
 by_cases hb:b=x
 · subst hb;rw[qc]at q;cases q;exact new
 · rw[qj hb]at q;by_cases hbe:b=e
   · have q':H b=some (.own x):=by
       rcases he with z|z
       · exact absurd (hbe.trans z) hb
       · rw[hbe];exact z
     rw[q]at q';cases q';obtain⟨v,hv⟩:=heo;exact⟨v,by rw[hbe];exact hv⟩
   · refine(ok b u q).stay (fun c v hc r=>k c v ?_ r) (fun c r=>by rw[qj (nown c b r)];exact r) fun c xs r=>by rw[qj (ntup c xs r)];exact r
     rcases hc with rfl|hc
     · exact hbe
     · rintro rfl;rcases he with z|z
       · exact nown c b hc z
       · rw[hc]at z;cases z;exact hb rfl
end
structure Un (fs ex:List Addr) (H H':Hp) (h h':Heap):Prop where
 keep:∀ b o,h.get? b=some o->H b=none->b∉fs->b∉ex->h'.get? b=some o
 slot:∀ b o,h.get? b=some o->H b=none->b∈fs->b∉ex->∃ sl,h'.get? b=some { o with slots:=sl }
 free:∀ b o,h.get? b=some o->H b=none->b∉ex->H' b=none
 there:∀ b o,h.get? b=some o->b∉ex->∃ o',h'.get? b=some o'
 tups:∀ b xs,H b=some (.tup xs)->H' b=some (.tup xs)
 frzs:∀ b o u,H b=some (.frz o u)->H' b=some (.frz o u)
 tbls:∀ b ps,H b=some (.tbl ps)->∃ more,H' b=some (.tbl (ps++more))
section
variable {fs fs' ex ex':List Addr}{H H1 H2:Hp}{h h1 h2 h':Heap}{a x e:Addr}{o:HO}
theorem Un.any (u:Un fs ex H H1 h h1) {b:Addr}{ob:Obj} (q:h.get? b=some ob) (n:H b=none) (hx:b∉ex):∃ sl,h1.get? b=some { ob with slots:=sl }:=by
 by_cases hb:b∈fs
 · exact u.slot b ob q n hb hx
 · exact⟨ob.slots,u.keep b ob q n hb hx⟩
theorem Un.kept (k:∀ b u,h.get? b=some u->h'.get? b=some u):Un fs ex H H h h' :=
 ⟨fun b ob q _ _ _=>k b ob q,fun b ob q _ _ _=>⟨ob.slots,k b ob q⟩,fun _ _ _ n _=>n,fun b ob q _=>⟨ob,k b ob q⟩,fun _ _ q=>q,fun _ _ _ q=>q,fun _ ps q=>⟨#[],by rw[q];simp⟩⟩
theorem Un.refl:Un fs ex H H h h:=Un.kept fun _ _ q=>q
theorem Un.laid (k:∀ b u,h.get? b=some u->h'.get? b=some u) (hp:h.objs.size≤a) (hn:H a=none):Un fs ex H (upd H a o) h h' where
 keep:=fun b u q _ _ _=>k b u q
 slot:=fun b u q _ _ _=>⟨u.slots,k b u q⟩
 free:=fun b u q n _=>by rw[qj (Nat.ne_of_lt (Nat.lt_of_lt_of_le (Heap.lt_size q) hp))];exact n
 there:=fun b u q _=>⟨u,k b u q⟩
 tups:=fun b xs q=>by rw[qj (qi q hn)];exact q
 frzs:=fun b u xs q=>by rw[qj (qi q hn)];exact q
 tbls:=fun b ps q=>⟨#[],by rw[qj (qi q hn),q];simp⟩
theorem Un.write (mu:Mut (H x)) (he:e=x∨H e=some (.own x)) (k:∀ b u,b≠e->h.get? b=some u->h'.get? b=some u) (heo:∃ u,h'.get? e=some u):Un fs ex H (upd H x o) h h':=by
 have hx:∀ b,H b=none->b≠x:=fun b n z=>by subst z;rw[n]at mu;exact mu
 have hb:∀ b,H b=none->b≠e:=fun b n z=>by
   subst z;rcases he with r|r
   · exact hx b n r
   · rw[n]at r;cases r
 have hm:∀ b u,H b=some u->¬ Mut (some u)->b≠x:=fun b u q nm z=>by subst z;rw[q]at mu;exact nm mu
 refine⟨fun b u q n _ _=>k b u (hb b n) q,fun b u q n _ _=>⟨u.slots,k b u (hb b n) q⟩,fun b u q n _=>by rw[qj (hx b n)];exact n,fun b u q _=>?_,
   fun b xs q=>by rw[qj (hm b _ q fun z=>z)];exact q,fun b u xs q=>by rw[qj (hm b _ q fun z=>z)];exact q,fun b ps q=>⟨#[],by rw[qj (hm b _ q fun z=>z),q];simp⟩⟩
 by_cases hbe:b=e
 · subst hbe;exact heo
 · exact⟨u,k b u hbe q⟩
end
def trk (h:Heap) (H:Hp):List Addr:=(List.range h.objs.size).filter fun a=>(H a).isSome
def qhB (h:Heap) (H:Hp):Heap:=PySem.W.hideAll h (trk h H)
theorem qg1 (h:Heap) (H:Hp):(qhB h H).objs.size=h.objs.size:=PySem.W.hideAll_size _ _
theorem qin {h:Heap}{H:Hp}{b:Addr}{o:Obj} (e:h.get? b=some o) (n:H b=none):(qhB h H).get? b=some o :=
 PySem.W.hideAll_get _ e fun hm=>by
   have q:(H b).isSome=true:=(List.mem_filter.mp hm).2;rw[n]at q;simp at q
theorem qjX {h:Heap}{H:Hp}{b:Addr}{o:Obj} (e:(qhB h H).get? b=some o):h.get? b=some o∧H b=none:=by
 have e':h.get? b=some o:=PySem.W.of_hideAll (trk h H) e;refine⟨e',?_⟩
 cases q:H b with
 | none=>rfl
 | some x =>
   have hm:b∈trk h H:=List.mem_filter.mpr ⟨List.mem_range.mpr (Heap.lt_size e'),by simp[q]⟩;have z:(qhB h H).get? b=none:=PySem.W.hideAll_none (trk h H) hm;rw[z]at e;cases e
structure Mod (K:Frag) (mg:Str->Option Value) (base:Heap):Prop where
 kin:K.In base
 glob:base.Ns mainGlobals mg
 blt:∃ mb,base.Ns builtinsNs mb∧∀ x:Str,x≠"__name__"->mb x=bootBuiltins x
 nolimit:base.NoLimit
structure Cx where
 prog:Program
 w:World
 K:Frag
 mg:Str->Option Value
 base:Heap
 A:Around
 N:List Str
 s₀:Shared
 H₀:Hp
 env:Env
 outer:List Env
 stack:List Env
 ex:List Addr
 fn:Str->Bool
 calm:Bool
 pn:List (Addr×Obj)
 xe:Value->Shared->Prop
def frs (l:List Env):List Addr:=l.filterMap (·.frame)
abbrev Cx.fs (X:Cx):List Addr:=frs X.outer
def Vis (sc:Scope) (x:Str):Prop:=sc.names.lookup x=some .local∨sc.names.lookup x=some .cell∨sc.names.lookup x=some .free
def Loc (sc:Scope) (x:Str):Prop:=sc.names.lookup x=some .local∨sc.names.lookup x=some .cell
def qni (env:Env) (h:Heap) (m:Str->Option Value) (x:Str) (u:Value):Prop :=
 (env.kindOf x=some .local∧m x=some u)∨((env.kindOf x=some .cell∨env.kindOf x=some .free)∧∃ c,env.cells.lookup x=some c∧h.IsCell c (some u))
structure Cx.Ok (X:Cx):Prop where
 mod:Mod X.K X.mg X.base
 kind:X.env.scope.kind=.function
 glob:X.env.globals=mainGlobals
 blt:X.env.builtins=builtinsNs
 above:X.s₀.heap.objs.size≤X.env.locals
 inj:∀ x y c,X.env.cells.lookup x=some c->X.env.cells.lookup y=some c->x=y
 has:∀ x,(X.env.kindOf x=some .cell∨X.env.kindOf x=some .free)->∃ c,X.env.cells.lookup x=some c
 cab:∀ x c,X.fn x=true->X.env.cells.lookup x=some c->X.s₀.heap.objs.size≤c
 hd:X.calm=true->X.A.handled=none
 frames:X.A.frames=some X.stack
 stk:X.stack=X.outer∨(X.stack=X.env::X.outer∧X.env.frame=some X.env.locals)
 exf:∀ b∈X.ex,b≠X.env.locals∧∀ x c,X.env.cells.lookup x=some c->c≠b
 bs:∀ b o,X.base.get? b=some o->X.s₀.heap.get? b=some o∧X.H₀ b=none
 bsz:X.base.objs.size≤X.s₀.heap.objs.size
 noex:∀ b o,X.base.get? b=some o->b∉X.ex
 exfs:∀ b∈X.ex,b∉X.fs
 funs:X.s₀.heap.FunFrames X.base X.outer
 frf:∀ b∈X.fs,X.H₀ b=none
structure Inv (X:Cx) (pins:List (Addr×Obj)) (σ:List (Option V)) (H:Hp) (s:Shared):Prop where
 ok:X.Ok
 os:s.os=X.s₀.os
 bare:AllBare s.gens
 base:Un X.fs X.ex X.H₀ H X.s₀.heap s.heap
 loc:∃ m,s.heap.Ns X.env.locals m∧∀ (i:Nat) (x:Str) (v:V),X.N[i]?=some x->σ[i]?=some (some v)->Vis X.env.scope x->∃ u,RelV v u∧qni X.env s.heap m x u
 cell:∀ x c,X.env.cells.lookup x=some c->∃ v,s.heap.IsCell c v
 free:H X.env.locals=none
 freeC:∀ x c,X.env.cells.lookup x=some c->H c=none
 pin:∀ p∈X.pn++pins,s.heap.get? p.1=some p.2∧H p.1=none∧p.1≠X.env.locals∧p.1∉X.fs∧∀ v,p.2.data≠.cell v
 hok:HOk X.prog X.w H s.heap
 len:σ.length=X.N.length
section
variable {X:Cx}{pins:List (Addr×Obj)}{σ:List (Option V)}{H H':Hp}{s:Shared}{h':Heap}
theorem Cx.Ok.nofr (ok:X.Ok) {b:Addr}{o:Obj} (e:X.base.get? b=some o):b∉X.fs:=fun hb=>by
 have:=(ok.funs.mem hb).1
 rw[e]at this;cases this
theorem Inv.bs (I:Inv X pins σ H s):∀ b o,X.base.get? b=some o->s.heap.get? b=some o∧H b=none:=fun b o e =>
 ⟨I.base.keep b o (I.ok.bs b o e).1 (I.ok.bs b o e).2 (I.ok.nofr e) (I.ok.noex b o e),I.base.free b o (I.ok.bs b o e).1 (I.ok.bs b o e).2 (I.ok.noex b o e)⟩
theorem Inv.bk (I:Inv X pins σ H s):∀ b o,X.base.get? b=some o->s.heap.get? b=some o:=fun b o e=>(I.bs b o e).1
theorem Inv.mod (I:Inv X pins σ H s):Mod X.K X.mg X.base:=I.ok.mod
theorem Inv.kIn (I:Inv X pins σ H s):X.K.In s.heap:=I.ok.mod.kin.keeps I.bk
theorem Inv.fr (I:Inv X pins σ H s):∃ m,Fr X.base X.env.locals s.heap m :=
 let ⟨m,hn,_⟩:=I.loc
 ⟨m,hn,I.bk,Nat.le_trans I.ok.bsz I.ok.above⟩
theorem Inv.lt (I:Inv X pins σ H s):X.env.locals < s.heap.objs.size:=let ⟨_,hn,_⟩:=I.loc;hn.lt
theorem Inv.sz (I:Inv X pins σ H s):X.s₀.heap.objs.size≤s.heap.objs.size:=Nat.le_trans I.ok.above (Nat.le_of_lt I.lt)
theorem Inv.nofs (I:Inv X pins σ H s) {a:Addr} (h:s.heap.objs.size≤a):a∉X.fs:=fun hb=>by
 obtain⟨_,o,ho,_⟩:=I.ok.funs.mem hb;exact absurd (Nat.lt_of_lt_of_le (Heap.lt_size ho) (Nat.le_trans I.sz h)) (Nat.lt_irrefl _)
theorem Inv.cne (I:Inv X pins σ H s):∀ x c,X.env.cells.lookup x=some c->c≠X.env.locals:=fun x c e z=>by
 obtain⟨v,o,ho,hd⟩:=I.cell x c e;obtain⟨m,⟨o',es,ep,ho',hd',_⟩,_⟩:=I.loc;rw[z,ho']at ho;cases ho;rw[hd']at hd;cases hd
theorem Inv.funs (I:Inv X pins σ H s):s.heap.FunFrames X.base X.outer:=by
 have all:∀ (l:List Env),(∀ b∈frs l,b∈X.fs)->X.s₀.heap.FunFrames X.base l->s.heap.FunFrames X.base l:=by
   intro l
   induction l with
   | nil=>intro _ _;trivial
   | cons env r ih =>
     intro hs hl;obtain⟨hk,⟨L,o,hf,hn,ho,hd⟩,hr⟩:=hl;have hL:L∈X.fs:=hs L (by unfold frs;rw[List.filterMap_cons,hf];exact List.mem_cons_self);obtain⟨sl,e⟩:=I.base.slot L o ho (I.ok.frf L hL) hL fun z=>I.ok.exfs L z hL;exact⟨hk,⟨L,_,hf,hn,e,hd⟩,ih (fun b hb=>hs b (by unfold frs;rw[List.filterMap_cons,hf];exact List.mem_cons_of_mem _ hb)) hr⟩
 exact all X.outer (fun _ hb=>hb) I.ok.funs
theorem Inv.stack (I:Inv X pins σ H s):s.heap.FunFrames X.base X.stack:=by
 rcases I.ok.stk with e|⟨e,hf⟩
 · rw[e];exact I.funs
 · rw[e];obtain⟨m,hn,_⟩:=I.loc;refine .cons (by rw[I.ok.kind];decide) hf hn ?_ I.funs;exact Heap.get?_none_of_le (Nat.le_trans I.ok.bsz I.ok.above)
theorem Inv.stkSub (I:Inv X pins σ H s):∀ b∈frs X.stack,b∈X.env.locals::X.fs:=fun b hb=>by
 rcases I.ok.stk with e|⟨e,hf⟩
 · rw[e]at hb;exact List.mem_cons_of_mem _ hb
 · rw[e]at hb;unfold frs at hb;rw[List.filterMap_cons,hf]at hb;exact hb
theorem Inv.stkFree (I:Inv X pins σ H s):∀ b∈frs X.stack,H b=none:=fun b hb=>by
 rcases List.mem_cons.mp (I.stkSub b hb) with e|hb
 · rw[e];exact I.free
 · obtain⟨_,o,ho,_⟩:=I.ok.funs.mem hb;exact I.base.free b o ho (I.ok.frf b hb) fun z=>I.ok.exfs b z hb
theorem Inv.step {g':Array GenState}{t':Nat}{d':Drawn}{ch:List Addr} (I:Inv X pins σ H s)
   (hch:∀ b∈ch,(b∈X.ex∨X.s₀.heap.objs.size≤b)∧b≠X.env.locals∧(∀ x c,X.env.cells.lookup x=some c->c≠b)∧∀ p∈X.pn++pins,p.1≠b)
   (keep:∀ b o,b≠X.env.locals->b∉X.fs->b∉ch->s.heap.get? b=some o->H b=none->h'.get? b=some o)
   (slot:∀ b o,b≠X.env.locals->b∈X.fs->b∉ch->s.heap.get? b=some o->H b=none->∃ sl,h'.get? b=some { o with slots:=sl }) (free:∀ b o,b∉ch->s.heap.get? b=some o->H b=none->H' b=none)
   (there:∀ b o,b∉ch->s.heap.get? b=some o->∃ o',h'.get? b=some o')
   (tups:∀ b xs,H b=some (.tup xs)->H' b=some (.tup xs)) (frzs:∀ b o u,H b=some (.frz o u)->H' b=some (.frz o u)) (tbls:∀ b ps,H b=some (.tbl ps)->∃ more,H' b=some (.tbl (ps++more)))
   (ns:∀ m,s.heap.Ns X.env.locals m->h'.Ns X.env.locals m) (hok:HOk X.prog X.w H' h') (hg:AllBare g') :
   Inv X pins σ H' { s with heap:=h',gens:=g',drawn:=d',toks:=t' }:=by
 have neL:∀ b o,X.s₀.heap.get? b=some o->b≠X.env.locals:=fun b o e=>Nat.ne_of_lt (Nat.lt_of_lt_of_le (Heap.lt_size e) I.ok.above)
 have neC:∀ b o,X.s₀.heap.get? b=some o->b∉X.ex->b∉ch:=fun b o e hx hb=>by
   rcases (hch b hb).1 with z|z
   · exact hx z
   · exact absurd (Nat.lt_of_lt_of_le (Heap.lt_size e) z) (Nat.lt_irrefl _)
 have cellK:∀ x c,X.env.cells.lookup x=some c->∀ v,s.heap.IsCell c v->h'.IsCell c v:=fun x c e v ⟨o,ho,hd⟩=>by
   have nch:c∉ch:=fun z=>(hch c z).2.2.1 x c e rfl;by_cases hc:c∈X.fs
   · obtain⟨sl,q⟩:=slot c o (I.cne x c e) hc nch ho (I.freeC x c e);exact⟨_,q,hd⟩
   · exact⟨o,keep c o (I.cne x c e) hc nch ho (I.freeC x c e),hd⟩
 refine⟨I.ok,I.os,hg,⟨fun b o e n hb hx=>?_,fun b o e n hb hx=>?_,fun b o e n hx=>?_,fun b o e hx=>?_,fun b xs e=>tups b xs (I.base.tups b xs e),fun b o xs e=>frzs b o xs (I.base.frzs b o xs e),fun b ps e=>?_⟩,?_,fun x c e=>?_,?_,fun x c e=>?_,fun p hp=>?_,hok,I.len⟩
 · exact keep b o (neL b o e) hb (neC b o e hx) (I.base.keep b o e n hb hx) (I.base.free b o e n hx)
 · obtain⟨sl,e1⟩:=I.base.slot b o e n hb hx;obtain⟨sl',e2⟩:=slot b _ (neL b o e) hb (neC b o e hx) e1 (I.base.free b o e n hx);exact⟨sl',e2⟩
 · obtain⟨o',e1⟩:=I.base.there b o e hx;exact free b o' (neC b o e hx) e1 (I.base.free b o e n hx)
 · obtain⟨o',e1⟩:=I.base.there b o e hx;exact there b o' (neC b o e hx) e1
 · obtain⟨m1,e1⟩:=I.base.tbls b ps e;obtain⟨m2,e2⟩:=tbls b _ e1;exact⟨m1++m2,by rw[e2,Array.append_assoc]⟩
 · obtain⟨m,hn,hl⟩:=I.loc;refine⟨m,ns m hn,fun i x v e1 e2 e3=>?_⟩;obtain⟨u,r,l⟩:=hl i x v e1 e2 e3;refine⟨u,r,?_⟩;rcases l with l|⟨k,c,e,z⟩
   · exact .inl l
   · exact .inr ⟨k,c,e,cellK x c e _ z⟩
 · obtain⟨v,z⟩:=I.cell x c e;exact⟨v,cellK x c e v z⟩
 · obtain⟨m,⟨o,_,_,ho,_⟩,_⟩:=I.loc;exact free _ o (fun z=>(hch _ z).2.1 rfl) ho I.free
 · obtain⟨v,o,ho,hd⟩:=I.cell x c e;exact free c o (fun z=>(hch c z).2.2.1 x c e rfl) ho (I.freeC x c e)
 · obtain⟨e,n,ne,nf,d⟩:=I.pin p hp;have nch:p.1∉ch:=fun z=>(hch p.1 z).2.2.2 p hp rfl;exact⟨keep p.1 p.2 ne nf nch e n,free p.1 p.2 nch e n,ne,nf,d⟩
theorem Inv.un {t':Nat} (I:Inv X pins σ H s) (u:Un X.fs [] H H' s.heap h') (hok:HOk X.prog X.w H' h'):Inv X pins σ H' { s with heap:=h',toks:=t' }:=by
 obtain⟨m,⟨o,es,ep,ho,r⟩,_⟩:=id I.loc;obtain⟨sl,hL⟩:=u.any ho I.free (by simp)
 exact I.step (g':=s.gens) (d':=s.drawn) (ch:=[]) (fun _ z=>nomatch z) (fun b o _ hb _ e n=>u.keep b o e n hb (by simp)) (fun b o _ hb _ e n=>u.slot b o e n hb (by simp)) (fun b o _ e n=>u.free b o e n (by simp)) (fun b o _ e=>u.there b o e (by simp)) u.tups u.frzs u.tbls (fun m' hm=>by
   obtain⟨o',es',ep',ho',r'⟩:=hm;rw[ho]at ho';cases ho'
   exact⟨_,es',ep',hL,r'⟩) hok I.bare
theorem Inv.call {g':Array GenState}{t':Nat}{d':Drawn}{ch:List Addr} (I:Inv X pins σ H s) (u:Un (frs X.stack) ch H H' s.heap h') (hok:HOk X.prog X.w H' h') (hg:AllBare g')
   (hch:∀ b∈ch,(b∈X.ex∨X.s₀.heap.objs.size≤b)∧b≠X.env.locals∧(∀ x c,X.env.cells.lookup x=some c->c≠b)∧∀ p∈X.pn++pins,p.1≠b) :
   Inv X pins σ H' { s with heap:=h',gens:=g',drawn:=d',toks:=t' }:=by
 obtain⟨m,⟨o,es,ep,ho,r⟩,_⟩:=id I.loc;obtain⟨sl,hL⟩:=u.any ho I.free fun z=>(hch _ z).2.1 rfl
 exact I.step (ch:=ch) hch (fun b o hL hb hc e n=>u.keep b o e n (fun z=>(List.mem_cons.mp (I.stkSub b z)).elim hL hb) hc) (fun b o _ _ hc e n=>u.any e n hc) (fun b o hc e n=>u.free b o e n hc) (fun b o hc e=>u.there b o e hc) u.tups u.frzs u.tbls (fun m' hm=>by
   obtain⟨o',es',ep',ho',r'⟩:=hm;rw[ho]at ho';cases ho'
   exact⟨_,es',ep',hL,r'⟩) hok hg
theorem Inv.turned {t':Nat}{it:Addr} (I:Inv X pins σ H s) (k:∀ b o,b≠it->s.heap.get? b=some o->h'.get? b=some o) (hn:H it=none) (hL:it≠X.env.locals)
   (h1:it∈X.ex∨X.s₀.heap.objs.size≤it) (h2:∀ x c,X.env.cells.lookup x=some c->c≠it) (h3:∀ p∈X.pn++pins,p.1≠it):Inv X pins σ H { s with heap:=h',toks:=t' }:=by
 have nit:∀ b u,H b=some u->b≠it:=fun b u e z=>by rw[z,hn]at e;cases e
 refine I.step (g':=s.gens) (d':=s.drawn) (ch:=[it]) (fun b hb=>?_) (fun b o _ _ hc e _=>k b o (fun z=>hc (by simp[z])) e) (fun b o _ _ hc e _=>⟨o.slots,k b o (fun z=>hc (by simp[z])) e⟩) (fun _ _ _ _ n=>n)
   (fun b o hc e=>⟨o,k b o (fun z=>hc (by simp[z])) e⟩) (fun _ _ e=>e) (fun _ _ _ e=>e) (fun b ps e=>⟨#[],by rw[e];simp⟩) (fun m hm=>?_) (fun b u e=>?_) I.bare
 · have e:b=it:=by simpa using hb
   subst e;exact⟨h1,hL,h2,h3⟩
 · obtain⟨o,es,ep,ho,r⟩:=hm;exact⟨o,es,ep,k _ o (Ne.symm hL) ho,r⟩
 · refine(I.hok b u e).stay (fun c v hc q=>k c v ?_ q) (fun _ q=>q) fun _ _ q=>q;rcases hc with z|z
   · rw[z];exact nit b u e
   · exact nit c _ z
theorem Inv.tok (I:Inv X pins σ H s) (t:Nat):Inv X pins σ H { s with toks:=t }:=I.un (h':=s.heap) (t':=t) Un.refl I.hok
theorem Inv.kept {t':Nat} (I:Inv X pins σ H s) (k:∀ b u,s.heap.get? b=some u->h'.get? b=some u):Inv X pins σ H { s with heap:=h',toks:=t' }:=I.un (Un.kept k) (I.hok.kept k)
theorem Inv.laid {a:Addr}{o:HO}{t':Nat} (I:Inv X pins σ H s) (k:∀ b u,s.heap.get? b=some u->h'.get? b=some u) (hp:s.heap.objs.size≤a) (new:ObjOk X.prog X.w (upd H a o) h' a o) :
   Inv X pins σ (upd H a o) { s with heap:=h',toks:=t' }:=I.un (Un.laid k hp (I.hok.fresh hp)) (I.hok.laid k hp new)
theorem Inv.write {x e:Addr}{o:HO}{t':Nat} (I:Inv X pins σ H s) (mu:Mut (H x)) (he:e=x∨H e=some (.own x)) (k:∀ b u,b≠e->s.heap.get? b=some u->h'.get? b=some u) (heo:∃ u,h'.get? e=some u)
   (new:ObjOk X.prog X.w (upd H x o) h' x o):Inv X pins σ (upd H x o) { s with heap:=h',toks:=t' }:=I.un (Un.write mu he k heo) (I.hok.write mu he k heo new)
theorem Inv.pins_of {pins':List (Addr×Obj)} (I:Inv X pins σ H s) (h:∀ p∈pins',s.heap.get? p.1=some p.2∧H p.1=none∧p.1≠X.env.locals∧p.1∉X.fs∧∀ v,p.2.data≠.cell v):Inv X pins' σ H s :=
 ⟨I.ok,I.os,I.bare,I.base,I.loc,I.cell,I.free,I.freeC,fun p hp=>(List.mem_append.mp hp).elim (fun z=>I.pin p (List.mem_append_left _ z)) (h p),I.hok,I.len⟩
theorem qcu {N:List Str} (hN:N.Nodup) {i j:Nat}{x:Str} (a:N[i]?=some x) (b:N[j]?=some x):i=j:=by
 obtain⟨h1,e1⟩:=List.getElem?_eq_some_iff.mp a;obtain⟨h2,e2⟩:=List.getElem?_eq_some_iff.mp b;exact(List.getElem_inj hN).mp (e1.trans e2.symm)
theorem qfR {M:Model}{A:Around}{E:Value->Shared->Prop}{i:Nat}{x:Str}{v:V}{u:Value}{Q:Unit->Shared->Prop} (I:Inv X pins σ H s) (hN:X.N.Nodup) (hi:X.N[i]?=some x) (hx:Loc X.env.scope x) (r:RelV v u)
   (h:∀ s',Inv X pins (σ.set i (some v)) H s'->(∃ a,Heap.SameBut a s.heap s'.heap∧(a=X.env.locals∨X.env.cells.lookup x=some a))->Q () s') (hf:X.fn x=true∨X.env.scope.names.lookup x=some .local:=by first|exact .inl rfl|exact .inr rfl|assumption):wpAny M A (storeName X.env x u) Q E s:=by
 obtain⟨m,hn,hl⟩:=id I.loc;have hcls:(X.env.scope.kind == .class || (X.env.scope.kind == .module && X.env.locals != X.env.globals))=false:=by rw[I.ok.kind];rfl
 have hiσ:i < σ.length:=by rw[I.len];exact(List.getElem?_eq_some_iff.mp hi).1
 have cne:=I.cne
 have tracked:∀ {a:Addr}{h':Heap},(∃ o,s.heap.get? a=some o∧H a=none)->Heap.SameBut a s.heap h'->HOk X.prog X.w H h':=fun {a h'} ha hs b ob e=>by
   obtain⟨_,_,hfree⟩:=ha;refine(I.hok b ob e).stay (fun c w' hc q=>(hs.2 c ?_).trans q) (fun _ q=>q) fun _ _ q=>q;rintro rfl;rcases hc with rfl|hc
   · rw[hfree]at e;cases e
   · rw[hfree]at hc;cases hc
 rcases hx with hk|hk
 · refine wpAny_storeName_local hk hn (fun h' hn' hs=>?_) hcls;obtain⟨oL,_,_,hoL,_⟩:=id hn;refine h _ ⟨I.ok,I.os,I.bare,⟨fun b o e n hb hx=>?_,fun b o e n hb hx=>?_,I.base.free,fun b o e hx=>?_,I.base.tups,I.base.frzs,I.base.tbls⟩,⟨_,hn',fun j y v' e1 e2 e3=>?_⟩,fun y c e=>?_,I.free,I.freeC,fun p hp=>?_,tracked ⟨oL,hoL,I.free⟩ hs,by simpa using I.len⟩ ⟨_,hs,.inl rfl⟩
   · exact(hs.2 b (Nat.ne_of_lt (Nat.lt_of_lt_of_le (Heap.lt_size e) I.ok.above))).trans (I.base.keep b o e n hb hx)
   · obtain⟨sl,e1⟩:=I.base.slot b o e n hb hx;exact⟨sl,(hs.2 b (Nat.ne_of_lt (Nat.lt_of_lt_of_le (Heap.lt_size e) I.ok.above))).trans e1⟩
   · obtain⟨o',e1⟩:=I.base.there b o e hx;exact⟨o',(hs.2 b (Nat.ne_of_lt (Nat.lt_of_lt_of_le (Heap.lt_size e) I.ok.above))).trans e1⟩
   · by_cases hj:j=i
     · subst hj;rw[hi]at e1;cases e1;rw[List.getElem?_set_self hiσ]at e2;cases e2;exact⟨u,r,.inl ⟨hk,by simp⟩⟩
     · rw[List.getElem?_set_ne (Ne.symm hj)]at e2;obtain⟨u',r',q⟩:=hl j y v' e1 e2 e3;refine⟨u',r',?_⟩;rcases q with ⟨k,e⟩|⟨k,c,e,z⟩
       · refine .inl ⟨k,?_⟩
         have:y≠x:=fun e=>hj (qcu hN e1 (e▸hi))
         simp[this,e]
       · exact .inr ⟨k,c,e,z.sameBut hs (cne y c e)⟩
   · obtain⟨w',z⟩:=I.cell y c e;exact⟨w',z.sameBut hs (cne y c e)⟩
   · obtain⟨e,n,ne,nf,d⟩:=I.pin p hp;exact⟨(hs.2 p.1 ne).trans e,n,ne,nf,d⟩
 · have hfn:X.fn x=true:=by
     rcases hf with z|z
     · exact z
     · rw[z]at hk;cases hk
   obtain⟨c,hc⟩:=I.ok.has x (.inl hk);obtain⟨w',z⟩:=I.cell x c hc;refine wpAny_storeName_cell I.ok.kind hk hc z (fun h' hc' hs=>?_);obtain⟨oc,hoc,hocd⟩:=id z;refine h { s with heap:=h' } ⟨I.ok,I.os,I.bare,⟨fun b o e n hb hx=>?_,fun b o e n hb hx=>?_,I.base.free,fun b o e hx=>?_,I.base.tups,I.base.frzs,I.base.tbls⟩,⟨m,hn.sameBut hs (Ne.symm (cne x c hc)),fun j y v' e1 e2 e3=>?_⟩,fun y c' e=>?_,I.free,I.freeC,fun p hp=>?_,tracked ⟨oc,hoc,I.freeC x c hc⟩ hs,by simpa using I.len⟩ ⟨c,hs,.inr hc⟩
   · exact(hs.2 b (Nat.ne_of_lt (Nat.lt_of_lt_of_le (Heap.lt_size e) (I.ok.cab x c hfn hc)))).trans (I.base.keep b o e n hb hx)
   · obtain⟨sl,e1⟩:=I.base.slot b o e n hb hx;exact⟨sl,(hs.2 b (Nat.ne_of_lt (Nat.lt_of_lt_of_le (Heap.lt_size e) (I.ok.cab x c hfn hc)))).trans e1⟩
   · obtain⟨o',e1⟩:=I.base.there b o e hx;exact⟨o',(hs.2 b (Nat.ne_of_lt (Nat.lt_of_lt_of_le (Heap.lt_size e) (I.ok.cab x c hfn hc)))).trans e1⟩
   · by_cases hj:j=i
     · subst hj;rw[hi]at e1;cases e1;rw[List.getElem?_set_self hiσ]at e2;cases e2;exact⟨u,r,.inr ⟨.inl hk,c,hc,hc'⟩⟩
     · rw[List.getElem?_set_ne (Ne.symm hj)]at e2;obtain⟨u',r',q⟩:=hl j y v' e1 e2 e3;refine⟨u',r',?_⟩;rcases q with q|⟨k,c',e,z'⟩
       · exact .inl q
       · refine .inr ⟨k,c',e,z'.sameBut hs ?_⟩;rintro rfl;exact hj (qcu hN e1 (I.ok.inj _ _ _ e hc▸hi))
   · by_cases hcc:c'=c
     · subst hcc;exact⟨_,hc'⟩
     · obtain⟨w2,z2⟩:=I.cell y c' e;exact⟨w2,z2.sameBut hs hcc⟩
   · obtain⟨e,n,ne,nf,d⟩:=I.pin p hp;refine⟨(hs.2 p.1 ?_).trans e,n,ne,nf,d⟩;intro q;rw[q,hoc]at e;have q':oc=p.2:=Option.some.inj e;exact d w' (by rw[← q'];exact hocd)
theorem jt {M:Model}{A:Around}{E:Value->Shared->Prop}{i:Nat}{x:Str}{v:V}{u:Value}{Q:Unit->Shared->Prop} (I:Inv X pins σ H s) (hN:X.N.Nodup) (hi:X.N[i]?=some x) (hx:Loc X.env.scope x) (r:RelV v u)
   (h:∀ s',Inv X pins (σ.set i (some v)) H s'->Q () s') (hf:X.fn x=true∨X.env.scope.names.lookup x=some .local:=by first|exact .inl rfl|exact .inr rfl|assumption):wpAny M A (storeName X.env x u) Q E s :=
 qfR I hN hi hx r (fun s' I' _=>h s' I') hf
theorem Inv.call' {s':Shared}{ch:List Addr} (I:Inv X pins σ H s) (ho:s'.os=s.os) (u:Un (frs X.stack) ch H H' s.heap s'.heap) (hok:HOk X.prog X.w H' s'.heap) (hg:AllBare s'.gens)
   (hch:∀ b∈ch,(b∈X.ex∨X.s₀.heap.objs.size≤b)∧b≠X.env.locals∧(∀ x c,X.env.cells.lookup x=some c->c≠b)∧∀ p∈X.pn++pins,p.1≠b):Inv X pins σ H' s':=by
 obtain⟨h',g',d',t',o'⟩:=s';have e:o'=s.os:=ho;subst e;exact I.call (g':=g') (t':=t') (d':=d') u hok hg hch
end
abbrev XK:=Value->Option Addr->Hp->Prop
abbrev St:=List (Option V)
abbrev VK:=V->Hp->Prop
abbrev TE:=St->Hp->VK->Prop
abbrev TT:=St->Hp->(Bool->Hp->Prop)->Prop
abbrev TA:=St->Hp->(List V->Hp->Prop)->Prop
structure qfx where
 nx:St->Hp->Prop
 rt:VK
 bk:St->Hp->Prop:=fun _ _=>False
 ct:St->Hp->Prop:=fun _ _=>False
abbrev TS:=qfx->St->Hp->Prop
inductive qmQ (X:Cx) (pins:List (Addr×Obj)) (σ:St) (Q:VK) (u:Value) (s':Shared):Prop
 | mk (v H':_) (h1:Inv X pins σ H' s') (h2:RelV v u) (h3:Q v H'):qmQ X pins σ Q u s'
def EP (X:Cx) (pins:List (Addr×Obj)) (σ:St) (Q:VK) (u:Value) (s':Shared):Prop:=qmQ X pins σ Q u s'
def TP (X:Cx) (pins:List (Addr×Obj)) (σ:St) (Q:Bool->Hp->Prop) (b:Bool) (s':Shared):Prop:=∃ H',Inv X pins σ H' s'∧Q b H'
inductive qmR (X:Cx) (pins:List (Addr×Obj)) (σ:St) (Q:List V->Hp->Prop) (us:List Value) (s':Shared):Prop
 | mk (vs H':_) (h1:Inv X pins σ H' s') (h2:Vals vs us) (h3:Q vs H'):qmR X pins σ Q us s'
def AP (X:Cx) (pins:List (Addr×Obj)) (σ:St) (Q:List V->Hp->Prop) (us:List Value) (s':Shared):Prop:=qmR X pins σ Q us s'
def SP (X:Cx) (pins:List (Addr×Obj)) (D:qfx) (f:Flow) (s':Shared):Prop :=
 match f with
 | .next=>∃ σ' H',Inv X pins σ' H' s'∧D.nx σ' H'
 | .brk=>∃ σ' H',Inv X pins σ' H' s'∧D.bk σ' H'
 | .cont=>∃ σ' H',Inv X pins σ' H' s'∧D.ct σ' H'
 | .ret u=>∃ v σ' H',Inv X pins σ' H' s'∧RelV v u∧D.rt v H'
def PE (X:Cx) (e:Expr) (t:TE):Prop :=
 ∀ (pins:List (Addr×Obj)) (s:Shared) (σ:St) (H:Hp) (Q:VK),Inv X pins σ H s->t σ H Q->wpAny (model X.prog X.w) X.A (eval e X.env) (EP X pins σ Q) X.xe s
def PT (X:Cx) (e:Expr) (t:TT):Prop :=
 ∀ (pins:List (Addr×Obj)) (s:Shared) (σ:St) (H:Hp) (Q:Bool->Hp->Prop),Inv X pins σ H s->t σ H Q->wpAny (model X.prog X.w) X.A (isTrue e X.env (eval e X.env)) (TP X pins σ Q) X.xe s
def PW (X:Cx) (e:Expr) (t:TT):Prop :=
 ∀ (whole:Sem Value) (pins:List (Addr×Obj)) (s:Shared) (σ:St) (H:Hp) (Q:Bool->Hp->Prop),Inv X pins σ H s->t σ H Q->wpAny (model X.prog X.w) X.A (isTrue e X.env whole) (TP X pins σ Q) X.xe s
theorem PW.pt {X:Cx}{e:Expr}{t:TT} (h:PW X e t):PT X e t:=h _
def PA (X:Cx) (es:List Expr) (t:TA):Prop :=
 ∀ (pos:Pos) (pins:List (Addr×Obj)) (s:Shared) (σ:St) (H:Hp) (Q:List V->Hp->Prop),Inv X pins σ H s->t σ H Q->wpAny (model X.prog X.w) X.A (spliced (backTo pos (starEach es X.env))) (AP X pins σ Q) X.xe s
def PS (X:Cx) (st:Stmt) (t:TS):Prop :=
 ∀ (pins:List (Addr×Obj)) (s:Shared) (σ:St) (H:Hp) (D:qfx),Inv X pins σ H s->t D σ H->wpAny (model X.prog X.w) X.A (exec st X.env) (SP X pins D) X.xe s
def PSs (X:Cx) (st:List Stmt) (t:TS):Prop :=
 ∀ (pins:List (Addr×Obj)) (s:Shared) (σ:St) (H:Hp) (D:qfx),Inv X pins σ H s->t D σ H->wpAny (model X.prog X.w) X.A (execs st X.env) (SP X pins D) X.xe s
theorem thn {α:Type}{t:Sem α}{Q Q':α->Shared->Prop}{M:Model}{A:Around}{E:Value->Shared->Prop}{s:Shared} (h:wpAny M A t Q E s) (hQ:∀ a s,Q a s->Q' a s):wpAny M A t Q' E s:=wpAny_mono h hQ fun _ _ x=>x
section
variable {X:Cx}
inductive qiH (i:Nat) (σ:St) (H:Hp) (Q:VK):Prop
 | mk (v:_) (h1:σ[i]?=some (some v)) (h2:Q v H):qiH i σ H Q
def qiI (i:Nat):TE:=fun σ H Q=>qiH i σ H Q
def tC (v:V):TE:=fun _ H Q=>Q v H
theorem qkX {i:Nat}{x:Str}{pos:Pos} (hN:X.N[i]?=some x) (hv:Vis X.env.scope x) (hd:(x == ("__debug__":Str))=false:=by decide) (hcd:(x == ("__classdict__":Str))=false:=by decide):PE X (.Name x pos) (qiI i):=by
 intro pins s σ H Q I h;obtain⟨v,e,h⟩:=h;obtain⟨m,hn,hl⟩:=I.loc;obtain⟨u,r,l⟩:=hl i x v hN e hv;have fin:EP X pins σ Q u s:=⟨v,H,I,r,h⟩
 rcases l with ⟨hk,hm⟩|⟨hk,c,hc,hcell⟩
 · exact wpAny_Name (wpAny_loadName_local I.ok.kind hk hn hm fin) hd
 · rcases hk with hk|hk
   · exact wpAny_Name (wpAny_loadName_cell I.ok.kind hk hc hcell fin) hd
   · exact wpAny_Name (wpAny_loadName_free I.ok.kind hk hc hcell fin hcd) hd
theorem qd {i j pos}:PE X (.Constant (.int i) j pos) (tC (.int i)):=fun _ _ _ H _ I h=>wpAny_Constant_int ⟨.int i,H,I.tok _,⟨_,rfl⟩,h⟩
theorem Jd {b j pos}:PE X (.Constant (.bool b) j pos) (tC (.bl b)):=fun _ _ _ H _ I h=>Constant_bool ⟨.bl b,H,I,rfl,h⟩
theorem qi2 {j pos}:PE X (.Constant .none j pos) (tC .non):=fun _ _ _ H _ I h=>Constant_none ⟨.non,H,I,rfl,h⟩
theorem qE {x j pos}:PE X (.Constant (.str x) j pos) (tC (.str x)):=fun _ _ _ H _ I h=>Calls.Constant_str ⟨.str x,H,I.tok _,⟨_,rfl⟩,h⟩
def Gl (X:Cx) (x:Str):Prop:=X.env.kindOf x=some .globalImplicit
theorem Jg {E:Value->Shared->Prop}{pins:List (Addr×Obj)}{s:Shared}{σ:St}{H:Hp}{x:Str}{u:Value}{pos:Pos}{Q:Value->Shared->Prop} (I:Inv X pins σ H s) (hg:Gl X x) (hm:X.mg x=some u) (h:Q u s)
   (hd:(x == ("__debug__":Str))=false:=by decide):wpAny (model X.prog X.w) X.A (eval (.Name x pos) X.env) Q E s :=
 Calls.Name_function_global I.ok.kind hg (Calls.loadGlobal_global (by rw[I.ok.glob];exact I.mod.glob.keeps I.bk) hm h) hd
theorem JQ {E:Value->Shared->Prop}{pins:List (Addr×Obj)}{s:Shared}{σ:St}{H:Hp}{x:Str}{u:Value}{pos:Pos}{Q:Value->Shared->Prop} (I:Inv X pins σ H s) (hg:Gl X x) (hm:X.mg x=none) (hv:bootBuiltins x=some u) (h:Q u s)
   (hn:x≠"__name__":=by decide) (hd:(x == ("__debug__":Str))=false:=by decide):wpAny (model X.prog X.w) X.A (eval (.Name x pos) X.env) Q E s:=by
 obtain⟨mb,h1,h2⟩:=I.mod.blt;exact Calls.Name_function_global I.ok.kind hg (Calls.loadGlobal_builtin (by rw[I.ok.glob];exact I.mod.glob.keeps I.bk) hm (by rw[I.ok.blt];exact h1.keeps I.bk) ((h2 x hn).trans hv) h) hd
theorem zI {x:Str}{v:V}{u:Value}{pos:Pos} (hg:Gl X x) (hm:X.mg x=some u) (r:RelV v u) (hd:(x == ("__debug__":Str))=false:=by decide):PE X (.Name x pos) (tC v) :=
 fun _ _ _ H _ I h=>Jg I hg hm ⟨v,H,I,r,h⟩ hd
theorem Qc {x:Str}{v:V}{u:Value}{pos:Pos} (hg:Gl X x) (hm:X.mg x=none) (hv:bootBuiltins x=some u) (r:RelV v u) (hn:x≠"__name__":=by decide) (hd:(x == ("__debug__":Str))=false:=by decide):PE X (.Name x pos) (tC v) :=
 fun _ _ _ H _ I h=>JQ I hg hm hv ⟨v,H,I,r,h⟩ hn hd
variable {a b:Expr}{ta tb:TE}{pos:Pos}
inductive qms (Q:(Bool->Hp->Prop)) (x:V) (H1:Hp):Prop
 | mk (c:_) (h1:x=.bl c) (h2:Q c H1):qms Q x H1
def tB (t:TE):TT:=fun σ H Q=>t σ H fun x H1=>qms Q x H1
theorem za {e:Expr}{t:TE} (h:PE X e t) (he:∀ whole,isTrue e X.env whole=(do let v ← whole;standAt e.pos;holding [v] (truthy v)):=by intro _;rfl):PT X e (tB t):=by
 intro pins s σ H Q I hw;refine isTrue_plain (thn (h pins s σ H _ I hw) fun v s1 zz_=>?_) (he _);obtain⟨x,H1,I1,r1,q1⟩:=zz_;obtain⟨d,rfl,q⟩:=q1;cases r1;exact wpAny_truthy_bool ⟨H1,I1,q⟩
variable {tA tB':TT}{rest:List Expr}
def qm1 (t u:TT):TT:=fun σ H Q=>t σ H fun c H1=>if c=true then u σ H1 Q else Q false H1
def tOr (t u:TT):TT:=fun σ H Q=>t σ H fun c H1=>if c=true then Q true H1 else u σ H1 Q
def qmV (t:TT):TT:=fun σ H Q=>t σ H fun c H1=>Q (!c) H1
theorem Ja (ha:PT X a tA):PW X (.BoolOp .And [a] pos) tA:=by
 intro wh pins s σ H Q I h;refine isTrue_and (thn (ha pins s σ H Q I h) fun c s1 e=>?_)
 cases c with
 | true=>exact isTrue_and_nil e
 | false=>exact e
theorem Zg (ha:PT X a tA):PW X (.BoolOp .Or [a] pos) tA:=by
 intro wh pins s σ H Q I h;refine isTrue_or (thn (ha pins s σ H Q I h) fun c s1 e=>?_)
 cases c with
 | false=>exact isTrue_or_nil e
 | true=>exact e
theorem qaG (ha:PT X a tA) (hb:PW X (.BoolOp .And (b::rest) pos) tB'):PW X (.BoolOp .And (a::b::rest) pos) (qm1 tA tB'):=by
 intro wh pins s σ H Q I h;refine isTrue_and (thn (ha pins s σ H _ I h) fun c s1 zz_=>?_);obtain⟨H1,I1,q1⟩:=zz_
 cases c with
 | true=>exact hb wh pins s1 σ H1 Q I1 q1
 | false=>exact⟨H1,I1,q1⟩
theorem jn (ha:PT X a tA) (hb:PW X (.BoolOp .Or (b::rest) pos) tB'):PW X (.BoolOp .Or (a::b::rest) pos) (tOr tA tB'):=by
 intro wh pins s σ H Q I h;refine isTrue_or (thn (ha pins s σ H _ I h) fun c s1 zz_=>?_);obtain⟨H1,I1,q1⟩:=zz_
 cases c with
 | true=>exact⟨H1,I1,q1⟩
 | false=>exact hb wh pins s1 σ H1 Q I1 q1
theorem zu (ha:PT X a tA):PT X (.UnaryOp .Not a pos) (qmV tA):=by
 intro pins s σ H Q I h;exact isTrue_not (ha pins s σ H (fun c H1=>Q (!c) H1) I h)
def qlV (ta tb:TE):TE:=fun σ H Q=>ta σ H fun x H1=>∃ c,x=.bl c∧if c=true then tb σ H1 Q else Q (.bl false) H1
def qmU (ta tb:TE):TE:=fun σ H Q=>ta σ H fun x H1=>∃ c,x=.bl c∧if c=true then Q (.bl true) H1 else tb σ H1 Q
inductive qfM (Q:VK) (x:V) (H1:Hp):Prop
 | mk (c:_) (h1:x=.bl c) (h2:Q (.bl (!c)) H1):qfM Q x H1
def qlQ (ta:TE):TE:=fun σ H Q=>ta σ H fun x H1=>qfM Q x H1
theorem je {op}{t:TE} (h:PE X a t):PE X (.BoolOp op [a] pos) t:=fun pins s σ H Q I hw=>BoolOp_one (h pins s σ H Q I hw)
theorem jg (ha:PE X a ta) (hb:PE X (.BoolOp .And (b::rest) pos) tb):PE X (.BoolOp .And (a::b::rest) pos) (qlV ta tb):=by
 intro pins s σ H Q I h;refine BoolOp_and (thn (ha pins s σ H _ I h) fun v s1 zz_=>?_);obtain⟨x,H1,I1,r1,q1⟩:=zz_;obtain⟨c,rfl,q1⟩:=q1;cases r1;refine wpAny_truthy_bool ?_
 cases c with
 | true=>exact hb pins s1 σ H1 Q I1 q1
 | false=>exact⟨.bl false,H1,I1,rfl,q1⟩
theorem qkY (ha:PE X a ta) (hb:PE X (.BoolOp .Or (b::rest) pos) tb):PE X (.BoolOp .Or (a::b::rest) pos) (qmU ta tb):=by
 intro pins s σ H Q I h;refine BoolOp_or (thn (ha pins s σ H _ I h) fun v s1 zz_=>?_);obtain⟨x,H1,I1,r1,q1⟩:=zz_;obtain⟨c,rfl,q1⟩:=q1;cases r1;refine wpAny_truthy_bool ?_
 cases c with
 | false=>exact hb pins s1 σ H1 Q I1 q1
 | true=>exact⟨.bl true,H1,I1,rfl,q1⟩
theorem qkZ (ha:PE X a ta):PE X (.UnaryOp .Not a pos) (qlQ ta):=by
 intro pins s σ H Q I h;refine UnaryOp_ (thn (ha pins s σ H _ I h) fun v s1 zz_=>?_);obtain⟨x,H1,I1,r1,q1⟩:=zz_;obtain⟨c,rfl,q1⟩:=q1;cases r1;exact not_of (wpAny_truthy_bool ⟨.bl (!c),H1,I1,rfl,q1⟩)
end
def SqL (K:Frag) (H:Hp) (a:Addr) (xs:List V):Prop :=
 Rd H a (.lst xs) ∨
   ∃ (o:Obj) (its:Array Value) (n:Nat),K.lookup a=some o∧o.cls=.type "list"∧o.dict=none∧o.data=.seq its n∧its.size≤sizeLine∧Vals xs its.toList
def SqT (K:Frag) (H:Hp) (a:Addr) (xs:List V):Prop :=
 Rd H a (.tup xs) ∨
   ∃ (o:Obj) (its:Array Value) (n:Nat),K.lookup a=some o∧o.cls=.type "tuple"∧o.data=.seq its n∧its.size≤sizeLine∧Vals xs its.toList
def qng:Value->Option V
 | .none=>some .non
 | .bool b=>some (.bl b)
 | .int i _=>some (.int i)
 | .str x _=>some (.str x)
 | .bytes b _=>some (.byt b)
 | .float b _=>some (.flt b)
 | .ref a=>some (.ref a)
 | .type n=>some (.ty n)
 | _=>none
theorem RelV.abs {x:V}{u:Value} (r:RelV x u):qng u=some x:=by
 cases x with
 | non=>cases r;rfl
 | bl _=>cases r;rfl
 | int _=>obtain⟨t,rfl⟩:=r;rfl
 | str _=>obtain⟨t,rfl⟩:=r;rfl
 | byt _=>obtain⟨t,rfl⟩:=r;rfl
 | flt _=>obtain⟨t,rfl⟩:=r;rfl
 | ref _=>cases r;rfl
 | ty _=>cases r;rfl
theorem RelV.inj {x y:V}{u:Value} (r:RelV x u) (q:RelV y u):x=y:=Option.some.inj (r.abs.symm.trans q.abs)
theorem Vals.inj:∀ {xs ys:List V}{us:List Value},Vals xs us->Vals ys us->xs=ys
 | _,_,_,.nil,.nil=>rfl
 | _,_,_,.cons r t,.cons r' t'=>by rw[r.inj r',Vals.inj t t']
section
variable {X:Cx}{pins:List (Addr×Obj)}{σ:St}{H:Hp}{s:Shared}{a:Addr}{xs ys:List V}
theorem SqL.of {K:Frag} (h:H a=some (.lst xs)):SqL K H a xs:=.inl (.inl h)
theorem SqT.of {K:Frag} (h:H a=some (.tup xs)):SqT K H a xs:=.inl (.inl h)
theorem Inv.list (I:Inv X pins σ H s) (h:SqL X.K H a xs):∃ its:List Value,Vals xs its∧PlainL s.heap a its.toArray∧xs.length≤sizeLine:=by
 rcases h with h|⟨o,its,n,hk,hc,hd,hs,hz,r⟩
 · obtain⟨z,its,n,r,e⟩:=h.ok I.hok;exact⟨its,r,⟨_,n,e,rfl,rfl,rfl⟩,z⟩
 · refine⟨its.toList,r,⟨o,n,I.kIn a o hk,hc,hd,by simpa using hs⟩,?_⟩;have e:=r.length;simp only[Array.length_toList]at e;omega
theorem Inv.tuple (I:Inv X pins σ H s) (h:SqT X.K H a xs):∃ its:List Value,Vals xs its∧IsTup s.heap a its.toArray∧xs.length≤sizeLine:=by
 rcases h with h|⟨o,its,n,hk,hc,hs,hz,r⟩
 · obtain⟨z,its,r,p⟩:=h.ok I.hok;exact⟨its,r,p,z⟩
 · refine⟨its.toList,r,⟨o,I.kIn a o hk,hc,n,by simpa using hs⟩,?_⟩;have e:=r.length;simp only[Array.length_toList]at e;omega
theorem Inv.list_inj (I:Inv X pins σ H s) (h:SqL X.K H a xs) (h':SqL X.K H a ys):xs=ys:=by
 obtain⟨its,r,⟨o,n,e,_,_,d⟩,_⟩:=I.list h;obtain⟨its',r',⟨o',n',e',_,_,d'⟩,_⟩:=I.list h';rw[e]at e';cases e';rw[d]at d';injection d' with d1 _
 have:its=its':=by simpa using congrArg Array.toList d1
 subst this;exact r.inj r'
theorem Inv.tuple_inj (I:Inv X pins σ H s) (h:SqT X.K H a xs) (h':SqT X.K H a ys):xs=ys:=by
 obtain⟨its,r,⟨o,e,_,n,d⟩,_⟩:=I.tuple h;obtain⟨its',r',⟨o',e',_,n',d'⟩,_⟩:=I.tuple h';rw[e]at e';cases e';rw[d]at d';injection d' with d1 _
 have:its=its':=by simpa using congrArg Array.toList d1
 subst this;exact r.inj r'
end
abbrev Cx.wish (X:Cx) (E:Value->Shared->Prop):Cx:={ X with xe:=E }
abbrev Cx.nox (X:Cx):Cx:=X.wish fun _ _=>False
theorem Cx.Ok.wish {X:Cx} (ok:X.Ok) (E:Value->Shared->Prop):(X.wish E).Ok :=
 ⟨ok.mod,ok.kind,ok.glob,ok.blt,ok.above,ok.inj,ok.has,ok.cab,ok.hd,ok.frames,ok.stk,ok.exf,ok.bs,ok.bsz,ok.noex,ok.exfs,ok.funs,ok.frf⟩
theorem Cx.Ok.unwish {X:Cx}{E:Value->Shared->Prop} (ok:(X.wish E).Ok):X.Ok :=
 ⟨ok.mod,ok.kind,ok.glob,ok.blt,ok.above,ok.inj,ok.has,ok.cab,ok.hd,ok.frames,ok.stk,ok.exf,ok.bs,ok.bsz,ok.noex,ok.exfs,ok.funs,ok.frf⟩
section
variable {X:Cx}{pins:List (Addr×Obj)}{σ:St}{H:Hp}{s:Shared}{E:Value->Shared->Prop}
theorem Inv.wish (I:Inv X pins σ H s) (E:Value->Shared->Prop):Inv (X.wish E) pins σ H s:=⟨I.ok.wish E,I.os,I.bare,I.base,I.loc,I.cell,I.free,I.freeC,I.pin,I.hok,I.len⟩
theorem Inv.unwish (I:Inv (X.wish E) pins σ H s):Inv X pins σ H s:=⟨I.ok.unwish,I.os,I.bare,I.base,I.loc,I.cell,I.free,I.freeC,I.pin,I.hok,I.len⟩
theorem SP.unwish {D:qfx}{f:Flow}{s':Shared} (h:SP (X.wish E) pins D f s'):SP X pins D f s':=by
 cases f with
 | next=>obtain⟨σ',H',I,q⟩:=h;exact⟨σ',H',I.unwish,q⟩
 | brk=>obtain⟨σ',H',I,q⟩:=h;exact⟨σ',H',I.unwish,q⟩
 | cont=>obtain⟨σ',H',I,q⟩:=h;exact⟨σ',H',I.unwish,q⟩
 | ret u=>obtain⟨v,σ',H',I,r,q⟩:=h;exact⟨v,σ',H',I.unwish,r,q⟩
theorem PSs.nox {st:List Stmt}{t:TS} (h:PSs X.nox st t):PSs X st t:=fun pins s σ H D I hw =>
 wpAny_mono (h pins s σ H D (I.wish _) hw) (fun _ _ q=>q.unwish) fun _ _ z=>False.elim z
end
section
variable {X:Cx}{st:Stmt}{rest:List Stmt}{t u:TS}{e:Expr}{te:TE}{pos:Pos}
def qK:TS:=fun D σ H=>D.nx σ H
def qlN (t u:TS):TS:=fun D σ H=>t { D with nx:=u D } σ H
theorem qy:PSs X [] qK:=fun _ _ σ H _ I h=>wpAny_execs_nil ⟨σ,H,I,h⟩
theorem qe (h1:PS X st t) (h2:PSs X rest u):PSs X (st::rest) (qlN t u):=by
 intro pins s σ H D I h;refine wpAny_execs_cons (thn (h1 pins s σ H { D with nx:=u D } I h) fun f s1 q=>?_)
 cases f with
 | next =>
   obtain⟨σ',H',I',q⟩:=q;exact h2 pins s1 σ' H' D I' q
 | ret v=>exact q
 | brk=>exact q
 | cont=>exact q
theorem qf (h1:PS X st t):PSs X [st] t:=by
 intro pins s σ H D I h;refine wpAny_execs_cons (thn (h1 pins s σ H D I h) fun f s1 q=>?_)
 cases f with
 | next=>exact wpAny_execs_nil q
 | ret v=>exact q
 | brk=>exact q
 | cont=>exact q
theorem Inv.quiet {pins:List (Addr×Obj)}{σ:St}{H:Hp}{s:Shared} (I:Inv X pins σ H s):interactive X.env=false:=by simp[interactive,I.ok.kind]
def qlS (te:TE):TS:=fun D σ H=>te σ H fun _ H1=>D.nx σ H1
theorem qI (he:PE X e te) (hs:swapsWith e none pos.line X.env=pure false:=by rfl):PS X (.Expr e pos) (qlS te):=by
 intro pins s σ H D I h;exact wpAny_Expr_any (thn (he pins s σ H _ I h) fun v s1 ⟨x,H1,I1,r1,q1⟩=>⟨σ,H1,I1,q1⟩) I.quiet hs
def qhL (te:TE):TS:=fun D σ H=>te σ H D.rt
theorem qt (he:PE X e te):PS X (.Return (some e) pos) (qhL te):=by
 intro pins s σ H D I h;exact wpAny_Return_some (thn (he pins s σ H _ I h) fun v s1 ⟨x,H1,I1,r1,q1⟩=>⟨x,σ,H1,I1,r1,q1⟩)
def qlO:TS:=fun D _ H=>D.rt .non H
theorem qjP:PS X (.Return none pos) qlO:=fun _ _ σ H _ I h=>wpAny_Return_none ⟨.non,σ,H,I,rfl,h⟩
def qiJ (c:TT) (t u:TS):TS:=fun D σ H=>c σ H fun b H1=>if b=true then t D σ H1 else u D σ H1
theorem qO {c:Expr}{a b:List Stmt}{tc:TT} (hc:PT X c tc) (ha:PSs X a t) (hb:PSs X b u):PS X (.If c a b pos) (qiJ tc t u):=by
 intro pins s σ H D I h;refine wpAny_If (thn (hc pins s σ H _ I h) fun d s1 zz_=>?_);obtain⟨H1,I1,q1⟩:=zz_
 cases d with
 | true=>exact ha pins s1 σ H1 D I1 q1
 | false=>exact hb pins s1 σ H1 D I1 q1
def qkB:TS:=fun _ _ _=>False
theorem zm:PS X st qkB:=fun _ _ _ _ _ _ h=>h.elim
end
abbrev TG:=V->St->Hp->(St->Hp->Prop)->Prop
abbrev TGs:=List V->St->Hp->(St->Hp->Prop)->Prop
def PG (X:Cx) (target:Expr) (t:TG):Prop :=
 ∀ (pins:List (Addr×Obj)) (s:Shared) (σ:St) (H:Hp) (v:V) (u:Value) (Q:St->Hp->Prop),Inv X pins σ H s->RelV v u->t v σ H Q ->
   wpAny (model X.prog X.w) X.A (assign target X.env u) (fun _ s'=>∃ σ' H',Inv X pins σ' H' s'∧Q σ' H') X.xe s
def PGs (X:Cx) (ts:List Expr) (t:TGs):Prop :=
 ∀ (pins:List (Addr×Obj)) (s:Shared) (σ:St) (H:Hp) (vs:List V) (us:List Value) (Q:St->Hp->Prop),Inv X pins σ H s->Vals vs us->t vs σ H Q ->
   wpAny (model X.prog X.w) X.A (assignInOrder ((assignEach ts X.env).map (·.2)) us) (fun _ s'=>∃ σ' H',Inv X pins σ' H' s'∧Q σ' H') X.xe s
abbrev qmp:=V->V->V->Hp->(Hp->Prop)->Prop
def qmN (X:Cx) (t:qmp):Prop :=
 ∀ (pins:List (Addr×Obj)) (s:Shared) (σ:St) (H:Hp) (o i v:V) (ov iv u:Value) (Q:Hp->Prop),Inv X pins σ H s->RelV o ov->RelV i iv->RelV v u->t o i v H Q ->
   wpAny (model X.prog X.w) X.A (setItem ov iv u) (fun _ s'=>∃ H',Inv X pins σ H' s'∧Q H') X.xe s
abbrev TIp:=V->V->Hp->VK->Prop
def PIp (X:Cx) (op:Operator) (t:TIp):Prop :=
 ∀ (pins:List (Addr×Obj)) (s:Shared) (σ:St) (H:Hp) (x y:V) (v u:Value) (Q:VK),Inv X pins σ H s->RelV x v->RelV y u->t x y H Q ->
   wpAny (model X.prog X.w) X.A (inplaceOp op v u) (EP X pins σ Q) X.xe s
section
variable {X:Cx}{pos:Pos}
def qir (i:Nat):TG:=fun v σ H Q=>Q (σ.set i (some v)) H
theorem qr {i:Nat}{x:Str} (hN:X.N.Nodup) (hi:X.N[i]?=some x) (hx:Loc X.env.scope x) (hf:X.fn x=true∨X.env.scope.names.lookup x=some .local:=by first|exact .inl rfl|exact .inr rfl|assumption):PG X (.Name x pos) (qir i):=by
 intro pins s σ H v u Q I r h;exact wpAny_assign_Name (jt I hN hi hx r (fun s' I'=>⟨_,H,I',h⟩) hf)
def qnf:TGs:=fun vs σ H Q=>vs=[]∧Q σ H
inductive qg2 (t:TG) (u:TGs) (vs:List V) (σ:St) (H:Hp) (Q:(St->Hp->Prop)):Prop
 | mk (v r:_) (h1:vs=v::r) (h2:t v σ H fun σ' H'=>u r σ' H' Q):qg2 t u vs σ H Q
def qmi (t:TG) (u:TGs):TGs:=fun vs σ H Q=>qg2 t u vs σ H Q
theorem zn:PGs X [] qnf:=by
 intro pins s σ H vs us Q I r h;obtain⟨e,h⟩:=h;subst e;cases r;exact assignInOrder_nil ⟨σ,H,I,h⟩
theorem qu {e:Expr}{es:List Expr}{t:TG}{u:TGs} (h1:PG X e t) (h2:PGs X es u)
   (hs:(assignEach (e::es) X.env).map (·.2)=assign e X.env::(assignEach es X.env).map (·.2):=by rfl):PGs X (e::es) (qmi t u):=by
 intro pins s σ H vs us Q I r h;obtain⟨v,vr,e1,h⟩:=h;subst e1
 cases r with
 | cons r rr =>
   rw[hs];refine assignInOrder_cons (thn (h1 pins s σ H _ _ _ I r h) fun _ s1 zz_=>?_);obtain⟨σ1,H1,I1,q1⟩:=zz_;exact h2 pins s1 σ1 H1 _ _ Q I1 rr q1
inductive qjc (K:Frag) (n:Nat) (t:TGs) (v:V) (σ:St) (H:Hp) (Q:(St->Hp->Prop)):Prop
 | mk (a xs:_) (h1:v=.ref a) (h2:SqT K H a xs) (h3:xs.length=n) (h4:t xs σ H Q):qjc K n t v σ H Q
def qjd (K:Frag) (n:Nat) (t:TGs):TG:=fun v σ H Q=>qjc K n t v σ H Q
theorem zR {es:List Expr}{k:Nat}{t:TGs}{n:Nat} (hc:X.calm=true) (h:PGs X es t)
   (hn:(assignEach es X.env).length=n:=by rfl) (hst:(assignEach es X.env).findIdx? (·.1)=none:=by rfl):PG X (.Tuple es k pos) (qjd X.K n t):=by
 intro pins s σ H v u Q I r hw;obtain⟨a,xs,e1,hq,hl,hw⟩:=hw;subst e1;cases r;obtain⟨its,rv,ht,hz⟩:=I.tuple hq;refine assign_Tuple_tuple (I.ok.hd hc) ht (by simp[hn,← hl,rv.length]) hst fun h' hx=>?_;have I1:Inv X pins σ H { s with heap:=h' }:=I.kept (t':=s.toks) fun b o e=>hx b o (Nat.ne_of_lt (Heap.lt_size e)) e;exact h pins _ σ H xs _ Q I1 (by simpa using rv) hw
def qne (to ti:TE) (t:qmp):TG:=fun v σ H Q=>to σ H fun o H1=>ti σ H1 fun i H2=>t o i v H2 fun H3=>Q σ H3
theorem qc9 {o i:Expr}{to ti:TE}{t:qmp} (ho:PE X o to) (hi:PE X i ti) (hs:qmN X t)
   (ha:∀ v,assign (.Subscript o i pos) X.env v=(do
     let ov ← holding [v] (eval o X.env);let iv ← holding [v,ov] (eval i X.env)
     standAt pos
     holding [v,ov,iv] (setItem ov iv v)
     release [v,ov,iv] []):=by intro _;rfl):PG X (.Subscript o i pos) (qne to ti t):=by
 intro pins s σ H v u Q I r h;rw[ha];refine wpAny_bind (wpAny_holding (thn (ho pins s σ H _ I h) fun ov s1 zz_=>?_));obtain⟨x,H1,I1,r1,q1⟩:=zz_;refine wpAny_bind (wpAny_holding (thn (hi pins s1 σ H1 _ I1 q1) fun iv s2 zz_=>?_));obtain⟨y,H2,I2,r2,q2⟩:=zz_;refine wpAny_bind (wpAny_standAt (wpAny_bind (wpAny_holding (thn (hs pins s2 σ H2 x y v ov iv u _ I2 r1 r2 r q2) fun _ s3 zz_=>?_))));obtain⟨H3,I3,q3⟩:=zz_;exact wpAny_release ⟨σ,H3,I3,q3⟩
def qlA (te:TE) (g:TG):TS:=fun D σ H=>te σ H fun x H1=>g x σ H1 D.nx
theorem JL {tg e:Expr}{te:TE}{g:TG} (he:PE X e te) (hg:PG X tg g) (hs:swapsWithSole [tg] e pos.line X.env=pure false:=by rfl) (hw:swappedStores [tg] e X.env=pure none:=by rfl)
   (h1:(assignEach [tg] X.env).map (·.2)=[assign tg X.env]:=by rfl):PS X (.Assign [tg] e pos) (qlA te g):=by
 intro pins s σ H D I h;refine wpAny_Assign_stores (thn (he pins s σ H _ I h) fun v s1 zz_=>?_) hs hw;obtain⟨x,H1,I1,r1,q1⟩:=zz_;rw[h1];exact thn (hg pins s1 σ H1 x v _ I1 r1 q1) fun _ s2 q=>q
theorem qx {i:Nat}{x:Str}{e:Expr}{te:TE}{pos':Pos} (hN:X.N.Nodup) (hi:X.N[i]?=some x) (hx:Loc X.env.scope x) (he:PE X e te) (hs:swapsWith e (some (.Name x pos')) pos.line X.env=pure false:=by rfl) (hf:X.fn x=true∨X.env.scope.names.lookup x=some .local:=by first|exact .inl rfl|exact .inr rfl|assumption) :
   PS X (.Assign [.Name x pos'] e pos) (qlA te (qir i)):=by
 intro pins s σ H D I h;refine wpAny_Assign_Name (thn (he pins s σ H _ I h) fun v s1 zz_=>?_) hs;obtain⟨y,H1,I1,r1,q1⟩:=zz_;exact jt I1 hN hi hx r1 (fun s2 I2=>⟨_,H1,I2,q1⟩) hf
def qm0 (i:Nat) (te:TE) (ti:TIp):TS:=fun D σ H=>∃ x,σ[i]?=some (some x)∧te σ H fun y H1=>ti x y H1 fun z H2=>D.nx (σ.set i (some z)) H2
theorem qi0 {i:Nat}{x:Str}{e:Expr}{te:TE}{op:Operator}{ti:TIp}{pos':Pos} (hN:X.N.Nodup) (hi:X.N[i]?=some x) (hx:Loc X.env.scope x) (he:PE X e te) (ho:PIp X op ti) (hf:X.fn x=true∨X.env.scope.names.lookup x=some .local:=by first|exact .inl rfl|exact .inr rfl|assumption) :
   PS X (.AugAssign (.Name x pos') op e pos) (qm0 i te ti):=by
 intro pins s σ H D I h;obtain⟨v,e1,h⟩:=h;obtain⟨m,hn,hl⟩:=I.loc;have vis:Vis X.env.scope x:=by rcases hx with k|k;exact .inl k;exact .inr (.inl k)
 obtain⟨u,r,l⟩:=hl i x v hi e1 vis;refine wpAny_AugAssign_Name ?_
 have go:wpAny (model X.prog X.w) X.A (eval e X.env) (fun w s₂=>wpAny (model X.prog X.w) X.A (inplaceOp op u w) (fun r s₃=>wpAny (model X.prog X.w) X.A (storeName X.env x r) (fun _=>SP X pins D .next) X.xe s₃) X.xe s₂) X.xe s:=by
   refine thn (he pins s σ H _ I h) fun w s1 zz_=>?_;obtain⟨y,H1,I1,r1,q1⟩:=zz_;refine thn (ho pins s1 σ H1 v y u w _ I1 r r1 q1) fun z s2 zz_=>?_;obtain⟨zv,H2,I2,r2,q2⟩:=zz_;exact jt I2 hN hi hx r2 (fun s3 I3=>⟨_,H2,I3,q2⟩) hf
 rcases l with ⟨hk,hm⟩|⟨hk,c,hc,hcell⟩
 · exact wpAny_loadName_local I.ok.kind hk hn hm go
 · rcases hk with hk|hk
   · exact wpAny_loadName_cell I.ok.kind hk hc hcell go
   · rcases hx with k|k
     · have:X.env.scope.names.lookup x=some .free:=hk
       rw[k]at this;cases this
     · have:X.env.scope.names.lookup x=some .free:=hk
       rw[k]at this;cases this
def ipI (f:Int->Int->Int):TIp:=fun x y H Q=>∃ i j,x=.int i∧y=.int j∧Q (.int (f i j)) H
theorem qi9:PIp X .Add (ipI fun i j=>i+j):=by
 intro pins s σ H x y v u Q I r1 r2 h;obtain⟨i,j,e1,e2,q⟩:=h;subst e1;subst e2;obtain⟨t,rfl⟩:=r1;obtain⟨t',rfl⟩:=r2;exact iadd_int ⟨.int _,H,I.tok _,⟨_,rfl⟩,q⟩
def qiG (c:TT) (tb:TS):TS:=fun D σ H=>∃ W:Nat->St->Hp->Prop,(∃ m,W m σ H)∧∀ m σ H,W m σ H ->
 c σ H fun b H1=>if b=true then ∃ N:St->Hp->Prop,(∀ σ' H',N σ' H'->∃ m',m' < m∧W m' σ' H')∧tb { D with nx:=N,ct:=N,bk:=D.nx } σ H1 else D.nx σ H1
theorem qhW {c:Expr}{body:List Stmt}{tc:TT}{tb:TS} (hp:PassesOwn (model X.prog X.w) X.A X.env X.xe) (hc:PT X c tc) (hb:PSs X body tb):PS X (.While c body [] pos) (qiG tc tb):=by
 intro pins s σ H D I h;obtain⟨W,⟨m0,w0⟩,turn⟩:=h;refine wpAny_While (codeAny_whileLoop (fun n s'=>∃ σ' H',Inv X pins σ' H' s'∧W n σ' H') ?_ m0 ⟨σ,H,I,w0⟩);rintro n s1 ⟨σ1,H1,I1,w1⟩;refine wpAny_passesOwn hp (thn (hc pins s1 σ1 H1 _ I1 (turn n σ1 H1 w1)) fun b s2 zz_=>?_);obtain⟨H2,I2,q2⟩:=zz_
 cases b with
 | true =>
   obtain⟨N,hN,q2⟩:=q2;rw[if_pos rfl];refine wpAny_passesOwn hp (thn (hb pins s2 σ1 H2 _ I2 q2) fun f s3 q3=>?_)
   cases f with
   | next =>
     obtain⟨σ3,H3,I3,n3⟩:=q3;obtain⟨m',hm,w3⟩:=hN σ3 H3 n3;exact⟨m',hm,σ3,H3,I3,w3⟩
   | cont =>
     obtain⟨σ3,H3,I3,n3⟩:=q3;obtain⟨m',hm,w3⟩:=hN σ3 H3 n3;exact⟨m',hm,σ3,H3,I3,w3⟩
   | brk=>exact q3
   | ret v=>exact q3
 | false =>
   rw[if_neg Bool.false_ne_true];exact wpAny_execs_nil ⟨σ1,H2,I2,q2⟩
end
structure It where
 go:Nat->Hp->Prop
 yld:Nat->Hp->V->Hp->Prop
 stop:Nat->Hp->Prop
def qfw (X:Cx) (pins:List (Addr×Obj)) (H:Hp) (b:Addr):Prop :=
 H b=none∧b≠X.env.locals∧b∉X.fs∧(b∈X.ex∨X.s₀.heap.objs.size≤b)∧(∀ x c,X.env.cells.lookup x=some c->c≠b)∧∀ p∈X.pn++pins,p.1≠b
theorem Inv.fpOk {X:Cx}{pins:List (Addr×Obj)}{σ:St}{H H':Hp}{s:Shared}{b:Addr} (I:Inv X pins σ H s) (hb:s.heap.objs.size≤b) (hn:H' b=none):qfw X pins H' b:=by
 refine⟨hn,Nat.ne_of_gt (Nat.lt_of_lt_of_le I.lt hb),I.nofs hb,.inr (Nat.le_trans I.sz hb),fun x c e z=>?_,fun p hp z=>?_⟩
 · obtain⟨v,q⟩:=I.cell x c e;exact absurd (Nat.lt_of_lt_of_le q.lt (by rw[z];exact hb)) (Nat.lt_irrefl _)
 · exact absurd (Nat.lt_of_lt_of_le (Heap.lt_size (I.pin p hp).1) (by rw[z];exact hb)) (Nat.lt_irrefl _)
structure qjo (P:Program) (w:World) (K:Frag) (tg:Expr) (J:It) (fp:List Addr) (it:Addr) (tn:Nat->Heap->Prop):Prop where
 mem:it∈fp
 obj:∀ i h,tn i h->∀ b∈fp,∃ o,h.get? b=some o∧∀ v,o.data≠.cell v
 keep:∀ i h h',tn i h->(∀ b∈fp,∀ o,h.get? b=some o->h'.get? b=some o)->tn i h'
 item:∀ (X:Cx),X.prog=P->X.w=w->X.K=K->X.calm=true->∀ (i:Nat) (pins:List (Addr×Obj)) (s:Shared) (σ:St) (H:Hp) (E:Value->Shared->Prop),Inv X pins σ H s->(∀ b∈fp,qfw X pins H b)->tn i s.heap->J.go i H ->
   wpAny (model P w) X.A (pyNext (.ref it)) (fun r s1=>∃ u,r=some u ∧
     wpAny (model P w) X.A (letOwnedTupleGo tg (.ref it) u) (fun _ s2=>∃ x H',Inv X pins σ H' s2∧RelV x u∧J.yld i H x H'∧tn (i+1) s2.heap∧∀ b∈fp,H' b=none) E s1) E s
 done:∀ (X:Cx),X.prog=P->X.w=w->X.K=K->X.calm=true->∀ (i:Nat) (pins:List (Addr×Obj)) (s:Shared) (σ:St) (H:Hp) (E:Value->Shared->Prop),Inv X pins σ H s->(∀ b∈fp,qfw X pins H b)->tn i s.heap->J.stop i H ->
   wpAny (model P w) X.A (pyNext (.ref it)) (fun r s1=>r=none∧Inv X pins σ H s1) E s
 self:∀ (A:Around) (i:Nat) (s:Shared) (Q:Value->Shared->Prop) (E:Value->Shared->Prop),tn i s.heap->Q (.ref it) s->wpAny (model P w) A (pyIter (.ref it)) Q E s
abbrev TI:=St->Hp->(It->Hp->Prop)->Prop
def PIE (X:Cx) (pins:List (Addr×Obj)) (σ:St) (tg:Expr) (R:It->Hp->Prop) (itv:Value) (s2:Shared):Prop :=
 ∃ (it:Addr) (fp:List Addr) (tn:Nat->Heap->Prop) (J:It) (H':Hp),itv=.ref it∧Inv X pins σ H' s2∧qjo X.prog X.w X.K tg J fp it tn∧tn 0 s2.heap∧(∀ b∈fp,qfw X pins H' b)∧R J H'
def PI (X:Cx) (tg iter:Expr) (wi:TI):Prop :=
 ∀ (pins:List (Addr×Obj)) (s:Shared) (σ:St) (H:Hp) (R:It->Hp->Prop),Inv X pins σ H s->wi σ H R ->
   wpAny (model X.prog X.w) X.A (eval iter X.env) (fun v s1=>wpAny (model X.prog X.w) X.A (pyIter v) (PIE X pins σ tg R) X.xe s1) X.xe s
theorem qip {M:Model}{A:Around}{E:Value->Shared->Prop}{s:Shared}{tg:Expr}{it:Addr}{u:Value}{o:Obj}{n:String}{vs:Array Value}{Q:Unit->Shared->Prop} (ho:s.heap.get? it=some o) (hc:o.cls=.type n) (hd:o.data=.fields vs)
   (hn:["enumerate","zip","dict_itemiterator","dict_reverseitemiterator","odict_iterator","itertools.zip_longest","itertools.pairwise"].contains n=false) (hQ:Q () s):wpAny M A (letOwnedTupleGo tg (.ref it) u) Q E s:=by
 unfold letOwnedTupleGo;cases tg<;>first
   | exact wpAny_pure hQ
   | (cases u<;>first
       | exact wpAny_pure hQ
       | (refine wpAny_bind (wpAny_load ho ?_)
          rw[hc,hd];show wpAny M A (if (["enumerate","zip","dict_itemiterator","dict_reverseitemiterator","odict_iterator","itertools.zip_longest","itertools.pairwise"].contains n && vs[0]? == some (rawInt _))=true then _ else _) Q E s;rw[if_neg (by intro h;rw[hn,Bool.false_and]at h;cases h)]
          exact wpAny_pure hQ))
def Itl (K:Frag) (a:Addr):It :=
 ⟨fun i H=>∃ xs x,SqL K H a xs∧xs[i]?=some x,fun i H x H'=>H'=H∧∀ xs,SqL K H a xs->xs[i]?=some x,fun i H=>∃ xs,SqL K H a xs∧xs.length≤i⟩
def Itt (K:Frag) (a:Addr):It :=
 ⟨fun i H=>∃ xs x,SqT K H a xs∧xs[i]?=some x,fun i H x H'=>H'=H∧∀ xs,SqT K H a xs->xs[i]?=some x,fun i H=>∃ xs,SqT K H a xs∧xs.length≤i⟩
def Itr (lo:Int) (n:Nat):It:=⟨fun i _=>i < n,fun i H x H'=>H'=H∧x=.int (lo+i),fun i _=>n≤i⟩
theorem qfE {P:Program}{w:World}{K:Frag}{tg:Expr} (a it:Addr):qjo P w K tg (Itl K a) [it] it (fun i h=>h.IsListIter it a i) where
 mem:=by simp
 obj:=fun i h st b hb=>by
   have e:b=it:=by simpa using hb
   subst e;obtain⟨o,e,c,d⟩:=st;exact⟨o,e,fun v z=>by rw[d]at z;cases z⟩
 keep:=fun i h h' st k=>st.at fun o e=>k it (by simp) o e
 item:=by
   intro X hP hw hK hc i pins s σ H E I hf st hg;subst hP hw hK;obtain⟨xs,x,hq,hx⟩:=hg;obtain⟨its,rv,p,hz⟩:=I.list hq;obtain⟨u,hu,ru⟩:=rv.get hx;obtain⟨f0,f1,f2,f3,f4,f5⟩:=hf it (by simp);refine wpAny_pyNext_list_item st p.isList (x:=u) (by simpa using hu) fun h' st' sb=>?_;have I1:Inv X pins σ H { s with heap:=h' }:=I.turned (t':=s.toks) (fun b o hb e=>(sb.2 b hb).trans e) f0 f1 f3 f4 f5;obtain⟨o,e,c,d⟩:=id st';exact⟨u,rfl,qip (s:={ s with heap:=h' }) e c d (by decide) ⟨x,H,I1,ru,⟨rfl,fun ys hy=>by rw[I.list_inj hy hq];exact hx⟩,st',fun b hb=>(hf b hb).1⟩⟩
 done:=by
   intro X hP hw hK hc i pins s σ H E I hf st hg;subst hP hw hK;obtain⟨xs,hq,hx⟩:=hg;obtain⟨its,rv,p,hz⟩:=I.list hq;obtain⟨f0,f1,f2,f3,f4,f5⟩:=hf it (by simp);have hl:=rv.length;exact wpAny_pyNext_list_end (I.ok.hd hc) st p.isList (by simp;omega) fun h' eb=>⟨rfl,I.turned (t':=s.toks) (fun b o hb e=>eb b o hb e) f0 f1 f3 f4 f5⟩
 self:=fun _ _ _ _ _ st h=>wpAny_pyIter_listiter st h
theorem qe7 {P:Program}{w:World}{K:Frag}{tg:Expr} (a it:Addr):qjo P w K tg (Itt K a) [it] it (fun i h=>h.IsTupleIter it a i) where
 mem:=by simp
 obj:=fun i h st b hb=>by
   have e:b=it:=by simpa using hb
   subst e;obtain⟨o,e,c,d⟩:=st;exact⟨o,e,fun v z=>by rw[d]at z;cases z⟩
 keep:=fun i h h' st k=>st.at fun o e=>k it (by simp) o e
 item:=by
   intro X hP hw hK hc i pins s σ H E I hf st hg;subst hP hw hK;obtain⟨xs,x,hq,hx⟩:=hg;obtain⟨its,rv,p,hz⟩:=I.tuple hq;obtain⟨u,hu,ru⟩:=rv.get hx;obtain⟨f0,f1,f2,f3,f4,f5⟩:=hf it (by simp);refine wpAny_pyNext_tuple_item st (show s.heap.IsTuple a its.toArray from p) (x:=u) (by simpa using hu) fun h' st' sb=>?_;have I1:Inv X pins σ H { s with heap:=h' }:=I.turned (t':=s.toks) (fun b o hb e=>(sb.2 b hb).trans e) f0 f1 f3 f4 f5;obtain⟨o,e,c,d⟩:=id st';exact⟨u,rfl,qip (s:={ s with heap:=h' }) e c d (by decide) ⟨x,H,I1,ru,⟨rfl,fun ys hy=>by rw[I.tuple_inj hy hq];exact hx⟩,st',fun b hb=>(hf b hb).1⟩⟩
 done:=by
   intro X hP hw hK hc i pins s σ H E I hf st hg;subst hP hw hK;obtain⟨xs,hq,hx⟩:=hg;obtain⟨its,rv,p,hz⟩:=I.tuple hq;obtain⟨f0,f1,f2,f3,f4,f5⟩:=hf it (by simp);have hl:=rv.length;exact wpAny_pyNext_tuple_end (I.ok.hd hc) st (show s.heap.IsTuple a its.toArray from p) (by simp;omega) fun h' eb=>⟨rfl,I.turned (t':=s.toks) (fun b o hb e=>eb b o hb e) f0 f1 f3 f4 f5⟩
 self:=fun _ _ _ _ _ st h=>wpAny_pyIter_tupleiter st h
theorem qe8 {P:Program}{w:World}{K:Frag}{tg:Expr} (it:Addr) (lo:Int) (n:Nat):qjo P w K tg (Itr lo n) [it] it (fun i h=>IsRangeIter h it (lo+(i:Nat) * 1) ((n:Int) - (i:Nat)) 1) where
 mem:=by simp
 obj:=fun i h st b hb=>by
   have e:b=it:=by simpa using hb
   subst e
   exact⟨_,st,fun v z=>by
     have z':Data.fields _=Data.cell v:=z
     cases z'⟩
 keep:=fun i h h' st k=>k it (by simp) _ st
 item:=by
   intro X hP hw hK hc i pins s σ H E I hf st hg;subst hP hw hK;obtain⟨f0,f1,f2,f3,f4,f5⟩:=hf it (by simp);have W:=Walks.range (prog:=X.prog) (w:=X.w) (I.ok.hd hc) it lo 1 n;refine W.item i s _ _ hg st fun v h' tk hv st' kk=>?_;obtain⟨t,rfl⟩:=hv;have I1:Inv X pins σ H { s with heap:=h',toks:=tk }:=I.turned (fun b o hb e=>kk b o (by simpa using hb) e) f0 f1 f3 f4 f5;refine⟨_,rfl,qip (s:={ s with heap:=h',toks:=tk }) (n:="range_iterator") st' rfl rfl (by decide) ⟨.int (lo+i),H,I1,⟨t,?_⟩,⟨rfl,rfl⟩,st',fun b hb=>(hf b hb).1⟩⟩;rw[Int.mul_one]
 done:=by
   intro X hP hw hK hc i pins s σ H E I hf st hg;subst hP hw hK;obtain⟨f0,f1,f2,f3,f4,f5⟩:=hf it (by simp);exact wpAny_pyNext_range_end (I.ok.hd hc) st (by have:n≤i:=hg;omega) fun h' eb=>⟨rfl,I.turned (t':=s.toks) (fun b o hb e=>eb b o hb e) f0 f1 f3 f4 f5⟩
 self:=fun _ _ _ _ _ st h=>wpAny_pyIter_rangeiter st h
section
variable {X:Cx}{tg:Expr}
inductive qgZ (K:Frag) (R:(It->Hp->Prop)) (x:V) (H1:Hp):Prop
 | mk (a:_) (h1:x=.ref a) (h2:(∃ xs,SqL K H1 a xs)) (h3:R (Itl K a) H1):qgZ K R x H1
def qmf (K:Frag) (tl:TE):TI:=fun σ H R=>tl σ H fun x H1=>qgZ K R x H1
def qnc (K:Frag) (tl:TE):TI:=fun σ H R=>tl σ H fun x H1=>∃ a,x=.ref a∧(∃ xs,SqT K H1 a xs)∧R (Itt K a) H1
theorem qX {l:Expr}{tl:TE} (hl:PE X l tl):PI X tg l (qmf X.K tl):=by
 intro pins s σ H R I h;refine thn (hl pins s σ H _ I h) fun v s1 zz_=>?_;obtain⟨x,H1,I1,r1,q1⟩:=zz_;obtain⟨a,e,⟨xs,hq⟩,q⟩:=q1;subst e;cases r1;obtain⟨its,rv,p,hz⟩:=I1.list hq;refine wpAny_pyIter_list p.isList ?_;refine⟨s1.heap.objs.size,[s1.heap.objs.size],_,_,H1,rfl,I1.kept (t':=s1.toks) fun b o e=>Heap.get?_push_of_some _ e,qfE a _,⟨_,Heap.get?_push_size _ rfl,rfl,rfl⟩,fun b hb=>?_,q⟩;have e:b=s1.heap.objs.size:=by simpa using hb
 subst e;exact I1.fpOk (Nat.le_refl _) (I1.hok.fresh (Nat.le_refl _))
theorem qkV {l:Expr}{tl:TE} (hl:PE X l tl):PI X tg l (qnc X.K tl):=by
 intro pins s σ H R I h;refine thn (hl pins s σ H _ I h) fun v s1 zz_=>?_;obtain⟨x,H1,I1,r1,q1⟩:=zz_;obtain⟨a,e,⟨xs,hq⟩,q⟩:=q1;subst e;cases r1;obtain⟨its,rv,p,hz⟩:=I1.tuple hq;refine wpAny_pyIter_tuple (show s1.heap.IsTuple a its.toArray from p) ?_;refine⟨s1.heap.objs.size,[s1.heap.objs.size],_,_,H1,rfl,I1.kept (t':=s1.toks) fun b o e=>Heap.get?_push_of_some _ e,qe7 a _,⟨_,Heap.get?_push_size _ rfl,rfl,rfl⟩,fun b hb=>?_,q⟩;have e:b=s1.heap.objs.size:=by simpa using hb
 subst e;exact I1.fpOk (Nat.le_refl _) (I1.hok.fresh (Nat.le_refl _))
theorem qex {pins:List (Addr×Obj)}{σ:St}{H:Hp}{s:Shared}{R:It->Hp->Prop}{E:Value->Shared->Prop}{lo hi:Int}{t u v:Tok}{tk:Nat} (I:Inv X pins σ H s) (h1:-(2 ^ 62)≤lo) (h2:lo < 2 ^ 62) (h3:-(2 ^ 62)≤hi) (h4:hi < 2 ^ 62)
   (q:R (Itr lo (hi - lo).toNat) H):wpAny (model X.prog X.w) X.A (pyIter (.ref s.heap.objs.size)) (PIE X pins σ tg R) E { s with heap:=s.heap.push { cls:=.type "range",data:=.fields #[.int lo t,.int hi u,.int 1 v] },toks:=tk }:=by
 refine wpAny_pyIter_range (IsRange.new ..) (small_one h1 h2 h3 h4) ?_;have I1:Inv X pins σ H { s with heap:=s.heap.push { cls:=.type "range",data:=.fields #[.int lo t,.int hi u,.int 1 v] },toks:=tk }:=I.kept fun b o e=>Heap.get?_push_of_some _ e
 refine⟨(s.heap.push { cls:=.type "range",data:=.fields #[.int lo t,.int hi u,.int 1 v] }).objs.size,[(s.heap.push { cls:=.type "range",data:=.fields #[.int lo t,.int hi u,.int 1 v] }).objs.size],_,_,H,rfl,
   I1.kept (t':=tk) fun b o e=>Heap.get?_push_of_some _ e,qe8 _ lo (hi - lo).toNat,?_,fun b hb=>?_,q⟩
 · have e1:lo+((0:Nat):Int) * 1=lo:=by simp
   have e2:(((hi - lo).toNat:Nat):Int) - ((0:Nat):Int)=Builtin.Range.rangeSize lo hi 1:=by rw[rangeSize_one];split<;>omega
   show IsRangeIter _ _ (lo+((0:Nat):Int) * 1) ((((hi - lo).toNat:Nat):Int) - ((0:Nat):Int)) 1;rw[e1,e2];exact Heap.get?_push_size _ rfl
 · have e:b=(s.heap.push { cls:=.type "range",data:=.fields #[.int lo t,.int hi u,.int 1 v] }).objs.size:=by simpa using hb
   subst e;exact I1.fpOk (Nat.le_refl _) (I1.hok.fresh (Nat.le_refl _))
inductive qgY (R:(It->Hp->Prop)) (vs:List V) (H1:Hp):Prop
 | mk (j:Int) (h1:vs=[.int j]) (h2:-(2 ^ 62)≤j) (h3:j < 2 ^ 62) (h4:R (Itr 0 j.toNat) H1):qgY R vs H1
def qme (ta:TA):TI:=fun σ H R=>ta σ H fun vs H1=>qgY R vs H1
inductive qgX (R:(It->Hp->Prop)) (vs:List V) (H1:Hp):Prop
 | mk (i j:Int) (h1:vs=[.int i,.int j]) (h2:(-(2 ^ 62)≤i∧i < 2 ^ 62∧-(2 ^ 62)≤j∧j < 2 ^ 62)) (h3:R (Itr i (j - i).toNat) H1):qgX R vs H1
def qmd (ta:TA):TI:=fun σ H R=>ta σ H fun vs H1=>qgX R vs H1
theorem zZ {a:Expr}{ta:TA}{p pos:Pos} (hg:Gl X "range") (hm:X.mg "range"=none) (ha:PA X [a] ta) (hs:starEach [a] X.env=[(false,eval a X.env)]:=by rfl):PI X tg (.Call (.Name "range" p) [a] [] pos) (qme ta):=by
 intro pins s σ H R I h;refine Call_ (JQ I hg hm boot_range (PyProof.Rows.callWith_type1 (thn (ha pos pins s σ H _ I h) fun us s1 zz_=>?_) hs rfl));obtain⟨vs,H1,I1,r1,q1⟩:=zz_;obtain⟨j,e,q1,q2,q⟩:=q1;subst e
 cases r1 with
 | cons r rr =>
   cases rr;obtain⟨t,rfl⟩:=r;exact call_range_1 (qex I1 (by omega) (by omega) q1 q2 (by simpa using q))
theorem qc8 {a b:Expr}{ta:TA}{p pos:Pos} (hg:Gl X "range") (hm:X.mg "range"=none) (ha:PA X [a,b] ta) (hs:starEach [a,b] X.env=[(false,eval a X.env),(false,eval b X.env)]:=by rfl) (hs2:starEach [b] X.env=[(false,eval b X.env)]:=by rfl) :
   PI X tg (.Call (.Name "range" p) [a,b] [] pos) (qmd ta):=by
 intro pins s σ H R I h;refine Call_ (JQ I hg hm boot_range (PyProof.Rows.callWith_type1 (thn (ha pos pins s σ H _ I h) fun us s1 zz_=>?_) (by rw[hs,hs2]) (by rw[hs2];rfl)));obtain⟨vs,H1,I1,r1,q1⟩:=zz_;obtain⟨i,j,e,⟨q1,q2,q3,q4⟩,q⟩:=q1;subst e
 cases r1 with
 | cons r rr =>
   cases rr with
   | cons r' rr =>
     cases rr;obtain⟨t,rfl⟩:=r;obtain⟨t',rfl⟩:=r';exact call_range_2 (qex I1 q1 q2 q3 q4 q)
def qed (wi:TI) (g:TG) (tb:TS):TS:=fun D σ H=>wi σ H fun J H1=>∃ W:Nat->Nat->St->Hp->Prop,(∃ m,W 0 m σ H1)∧∀ i m σ H,W i m σ H ->
 (J.stop i H∧D.nx σ H)∨(J.go i H∧∃ N:St->Hp->Prop,(∀ σ' H',N σ' H'->∃ m',m' < m∧W (i+1) m' σ' H')∧∀ x H',J.yld i H x H'->g x σ H' fun σ2 H2=>tb { D with nx:=N,ct:=N,bk:=D.nx } σ2 H2)
def qbP (fp:List Addr) (h:Heap):List (Addr×Obj):=fp.filterMap fun b=>(h.get? b).map fun o=>(b,o)
theorem zX {fp:List Addr}{h:Heap}{b:Addr}{o:Obj} (hb:b∈fp) (e:h.get? b=some o):(b,o)∈qbP fp h:=List.mem_filterMap.mpr ⟨b,hb,by rw[e];rfl⟩
theorem qgz {fp:List Addr}{h:Heap}{p:Addr×Obj} (hp:p∈qbP fp h):p.1∈fp∧h.get? p.1=some p.2:=by
 obtain⟨b,hb,e⟩:=List.mem_filterMap.mp hp
 cases q:h.get? b with
 | none=>rw[q]at e;cases e
 | some o =>
   rw[q]at e;have e':(b,o)=p:=Option.some.inj e;subst e';exact⟨hb,q⟩
theorem Inv.pinned {pins:List (Addr×Obj)}{σ:St}{H:Hp}{s:Shared}{fp:List Addr} (I:Inv X pins σ H s) (hf:∀ b∈fp,qfw X pins H b) (ho:∀ b∈fp,∃ o,s.heap.get? b=some o∧∀ v,o.data≠.cell v):Inv X (pins++qbP fp s.heap) σ H s :=
 I.pins_of fun p hp=>(List.mem_append.mp hp).elim (fun z=>I.pin p (List.mem_append_right _ z)) fun z=>by
   obtain⟨hb,e⟩:=qgz z;obtain⟨f0,f1,f2,_⟩:=hf p.1 hb;obtain⟨o,e',d⟩:=ho p.1 hb;rw[e]at e';cases e';exact⟨e,f0,f1,f2,d⟩
theorem Inv.unpinned {pins pl:List (Addr×Obj)}{σ:St}{H:Hp}{s:Shared} (I:Inv X (pins++pl) σ H s):Inv X pins σ H s:=I.pins_of fun p hp=>I.pin p (List.mem_append_right _ (List.mem_append_left _ hp))
theorem zx {iter:Expr}{body:List Stmt}{wi:TI}{g:TG}{tb:TS}{pos:Pos} (hp:PassesOwn (model X.prog X.w) X.A X.env X.xe) (hc:X.calm=true) (hi:PI X tg iter wi) (hg:PG X tg g) (hb:PSs X body tb)
   (hs:∀ x,foldedSetIterable iter X.env x=pure x:=by intro _;rfl):PS X (.For tg iter body [] pos) (qed wi g tb):=by
 intro pins s σ H D I h;refine wpAny_For (thn (hi pins s σ H _ I h) fun v s1 h1=>thn h1 fun itv s2 h2=>?_) hs;obtain⟨it,fp,tn,J,H2,e,I2,T,st2,f2,W,⟨m0,w0⟩,turn⟩:=h2;subst e
 -- what stays true of the iterator's objects through the loop
 have stat:∀ {H':Hp},(∀ b∈fp,H' b=none)->∀ b∈fp,qfw X pins H' b:=fun hn b hb=>⟨hn b hb,(f2 b hb).2⟩
 refine codeAny_forLoop_any (fun n s'=>∃ i σ' H',Inv X pins σ' H' s'∧tn i s'.heap∧(∀ b∈fp,H' b=none)∧W i n σ' H') ?_ m0 ⟨0,σ,H2,I2,st2,fun b hb=>(f2 b hb).1,w0⟩;rintro n s3 ⟨i,σ3,H3,I3,st3,fr3,w3⟩;rcases turn i n σ3 H3 w3 with ⟨stop,qn⟩|⟨go,N,hN,step⟩
 · refine wpAny_passesOwn hp (thn (T.done X rfl rfl rfl hc i pins s3 σ3 H3 X.xe I3 (stat fr3) st3 stop) fun r s4 ⟨hr,I4⟩=>?_);subst hr;exact wpAny_execs_nil ⟨σ3,H3,I4,qn⟩
 · refine wpAny_passesOwn hp (thn (T.item X rfl rfl rfl hc i pins s3 σ3 H3 X.xe I3 (stat fr3) st3 go) fun r s4 ⟨u,hr,h4⟩=>?_);subst hr;refine wpAny_passesOwn hp (thn h4 fun _ s5 zz_=>?_);obtain⟨x,H5,I5,r5,y5,st5,fr5⟩:=zz_;have I5':=I5.pinned (stat fr5) (T.obj _ _ st5);refine wpAny_passesOwn hp (thn (hg _ s5 σ3 H5 x u _ I5' r5 (step x H5 y5)) fun _ s6 zz_=>?_);obtain⟨σ6,H6,I6,q6⟩:=zz_;refine wpAny_passesOwn hp (thn (hb _ s6 σ6 H6 _ I6 q6) fun f s7 q7=>?_)
   have again:∀ {σ7:St}{H7:Hp},Inv X (pins++qbP fp s5.heap) σ7 H7 s7->N σ7 H7->∃ m,m < n∧∃ i σ' H',Inv X pins σ' H' s7∧tn i s7.heap∧(∀ b∈fp,H' b=none)∧W i m σ' H':=fun {σ7 H7} I7 n7=>by
     obtain⟨m',hm,w7⟩:=hN σ7 H7 n7;refine⟨m',hm,i+1,σ7,H7,I7.unpinned,T.keep _ _ _ st5 fun b hb o e=>(I7.pin (b,o) (List.mem_append_right _ (List.mem_append_right _ (zX hb e)))).1,fun b hb=>?_,w7⟩;obtain⟨o,e,d⟩:=T.obj _ _ st5 b hb;exact(I7.pin (b,o) (List.mem_append_right _ (List.mem_append_right _ (zX hb e)))).2.1
   cases f with
   | next=>obtain⟨σ7,H7,I7,n7⟩:=q7;exact again I7 n7
   | cont=>obtain⟨σ7,H7,I7,n7⟩:=q7;exact again I7 n7
   | brk=>obtain⟨σ7,H7,I7,q7⟩:=q7;exact⟨σ7,H7,I7.unpinned,q7⟩
   | ret v=>obtain⟨x7,σ7,H7,I7,r7,q7⟩:=q7;exact⟨x7,σ7,H7,I7.unpinned,r7,q7⟩
end
theorem zy {K:Frag}{a:Addr}{xs:List V}{g:TG}{tb:TS}{D:qfx}{σ:St}{H:Hp} (Pv:Nat->St->Hp->Prop) (h0:Pv 0 σ H) (hl:∀ i σ H,i≤xs.length->Pv i σ H->SqL K H a xs)
   (hs:∀ i x σ H,xs[i]?=some x->Pv i σ H->g x σ H fun σ2 H2=>tb { D with nx:=Pv (i+1),ct:=Pv (i+1),bk:=D.nx } σ2 H2) (hd:∀ σ H,Pv xs.length σ H->D.nx σ H) :
   ∃ W:Nat->Nat->St->Hp->Prop,(∃ m,W 0 m σ H)∧∀ i m σ H,W i m σ H ->
     ((Itl K a).stop i H∧D.nx σ H)∨((Itl K a).go i H∧∃ N:St->Hp->Prop,(∀ σ' H',N σ' H'->∃ m',m' < m∧W (i+1) m' σ' H')∧∀ x H',(Itl K a).yld i H x H'->g x σ H' fun σ2 H2=>tb { D with nx:=N,ct:=N,bk:=D.nx } σ2 H2):=by
 refine⟨fun i m σ H=>m=xs.length - i∧i≤xs.length∧Pv i σ H,⟨xs.length,by simp,Nat.zero_le _,h0⟩,?_⟩;rintro i m σ H ⟨rfl,hi,p⟩;have q:=hl i σ H hi p;by_cases hlt:i < xs.length
 · refine .inr ⟨⟨xs,xs[i],q,by simp[hlt]⟩,Pv (i+1),fun σ' H' p'=>⟨xs.length - (i+1),by omega,rfl,hlt,p'⟩,fun x H' y=>?_⟩;obtain⟨e,y⟩:=y;subst e;exact hs i x σ _ (y xs q) p
 · have e:i=xs.length:=by omega
   subst e;exact .inl ⟨⟨xs,q,Nat.le_refl _⟩,hd σ H p⟩
theorem Qo {lo:Int}{n:Nat}{g:TG}{tb:TS}{D:qfx}{σ:St}{H:Hp} (Pv:Nat->St->Hp->Prop) (h0:Pv 0 σ H)
   (hs:∀ i σ H,i < n->Pv i σ H->g (.int (lo+i)) σ H fun σ2 H2=>tb { D with nx:=Pv (i+1),ct:=Pv (i+1),bk:=D.nx } σ2 H2) (hd:∀ σ H,Pv n σ H->D.nx σ H) :
   ∃ W:Nat->Nat->St->Hp->Prop,(∃ m,W 0 m σ H)∧∀ i m σ H,W i m σ H ->
     ((Itr lo n).stop i H∧D.nx σ H)∨((Itr lo n).go i H∧∃ N:St->Hp->Prop,(∀ σ' H',N σ' H'->∃ m',m' < m∧W (i+1) m' σ' H')∧∀ x H',(Itr lo n).yld i H x H'->g x σ H' fun σ2 H2=>tb { D with nx:=N,ct:=N,bk:=D.nx } σ2 H2):=by
 refine⟨fun i m σ H=>m=n - i∧i≤n∧Pv i σ H,⟨n,by simp,Nat.zero_le _,h0⟩,?_⟩;rintro i m σ H ⟨rfl,hi,p⟩;by_cases hlt:i < n
 · refine .inr ⟨hlt,Pv (i+1),fun σ' H' p'=>⟨n - (i+1),by omega,rfl,hlt,p'⟩,fun x H' y=>?_⟩;obtain⟨e,y⟩:=y;subst e y;exact hs i σ _ hlt p
 · have e:i=n:=by omega
   subst e;exact .inl ⟨Nat.le_refl _,hd σ H p⟩
abbrev R2:=V->V->Hp->VK->Prop
def OpR (X:Cx) (f:Value->Value->Sem Value) (r:R2):Prop :=
 ∀ (pins:List (Addr×Obj)) (s:Shared) (σ:St) (H:Hp) (x y:V) (v u:Value) (Q:VK),Inv X pins σ H s->RelV x v->RelV y u->r x y H Q ->
   wpAny (model X.prog X.w) X.A (f v u) (EP X pins σ Q) X.xe s
def UnR (X:Cx) (f:Value->Sem Value) (r:V->Hp->VK->Prop):Prop :=
 ∀ (pins:List (Addr×Obj)) (s:Shared) (σ:St) (H:Hp) (x:V) (v:Value) (Q:VK),Inv X pins σ H s->RelV x v->r x H Q ->
   wpAny (model X.prog X.w) X.A (f v) (EP X pins σ Q) X.xe s
def CallR (X:Cx) (f:Value) (r:List V->Hp->VK->Prop):Prop :=
 ∀ (pins:List (Addr×Obj)) (s:Shared) (σ:St) (H:Hp) (xs:List V) (us:List Value) (Q:VK),Inv X pins σ H s->Vals xs us->r xs H Q ->
   wpAny (model X.prog X.w) X.A (call f us) (EP X pins σ Q) X.xe s
def qnh (X:Cx) (r:V->Hp->(Bool->Hp->Prop)->Prop):Prop :=
 ∀ (pins:List (Addr×Obj)) (s:Shared) (σ:St) (H:Hp) (x:V) (v:Value) (Q:Bool->Hp->Prop),Inv X pins σ H s->RelV x v->r x H Q ->
   wpAny (model X.prog X.w) X.A (truthy v) (TP X pins σ Q) X.xe s
def tOp (r:R2) (ta tb:TE):TE:=fun σ H Q=>ta σ H fun x H1=>tb σ H1 fun y H2=>r x y H2 Q
def tUn (r:V->Hp->VK->Prop) (ta:TE):TE:=fun σ H Q=>ta σ H fun x H1=>r x H1 Q
inductive qmC (C:Int->Int->Prop) (g:Int->Int->V) (x:V) (y:V) (H:Hp) (Q:VK):Prop
 | mk (i j:_) (h1:x=.int i) (h2:y=.int j) (h3:C i j) (h4:Q (g i j) H):qmC C g x y H Q
def rI (C:Int->Int->Prop) (g:Int->Int->V):R2:=fun x y H Q=>qmC C g x y H Q
inductive qkP (g:Int->Int->V) (x:V) (y:V) (H:Hp) (Q:VK):Prop
 | mk (i j:_) (h1:x=.int i) (h2:y=.int j) (h3:Q (g i j) H):qkP g x y H Q
def rI0 (g:Int->Int->V):R2:=fun x y H Q=>qkP g x y H Q
inductive qmv (g:Int->V) (x:V) (H:Hp) (Q:VK):Prop
 | mk (i:_) (h1:x=.int i) (h2:Q (g i) H):qmv g x H Q
def rU (g:Int->V):V->Hp->VK->Prop:=fun x H Q=>qmv g x H Q
section
variable {X:Cx}{a b c:Expr}{ta tb tc:TE}{pos:Pos}
theorem qmm (ha:PE X a ta) (hb:PE X b tb) {pins:List (Addr×Obj)}{s:Shared}{σ:St}{H:Hp}{R:V->V->Hp->Prop} (I:Inv X pins σ H s)
   (h:ta σ H fun x H1=>tb σ H1 fun y H2=>R x y H2) {Q:Value->Shared->Prop}{f:Value->Value->Sem Value}
   (hf:∀ v u s2 x y H2,Inv X pins σ H2 s2->RelV x v->RelV y u->R x y H2->wpAny (model X.prog X.w) X.A (f v u) Q X.xe s2) :
   wpAny (model X.prog X.w) X.A (eval a X.env) (fun v s₁=>wpAny (model X.prog X.w) X.A (eval b X.env) (fun u s₂=>wpAny (model X.prog X.w) X.A (f v u) Q X.xe s₂) X.xe s₁) X.xe s:=by
 refine thn (ha pins s σ H _ I h) fun v s1 zz_=>?_;obtain⟨x,H1,I1,r1,q1⟩:=zz_;refine thn (hb pins s1 σ H1 _ I1 q1) fun u s2 zz_=>?_;obtain⟨y,H2,I2,r2,q2⟩:=zz_;exact hf v u s2 x y H2 I2 r1 r2 q2
theorem qA {op:Operator}{r:R2} (ho:OpR X (binaryOp op) r) (ha:PE X a ta) (hb:PE X b tb):PE X (.BinOp a op b pos) (tOp r ta tb):=by
 intro pins s σ H Q I h;exact wpAny_BinOp (qmm ha hb I h fun v u s2 x y H2 I2 rx ry q=>ho pins s2 σ H2 x y v u Q I2 rx ry q)
theorem Zj {op:UnaryOp}{r:V->Hp->VK->Prop} (ho:UnR X (unaryOp op) r) (ha:PE X a ta):PE X (.UnaryOp op a pos) (tUn r ta):=by
 intro pins s σ H Q I h;exact UnaryOp_ (thn (ha pins s σ H _ I h) fun v s1 ⟨x,H1,I1,r1,q1⟩=>ho pins s1 σ H1 x v Q I1 r1 q1)
theorem opI {f:Value->Value->Sem Value}{C:Int->Int->Prop}{g:Int->Int->Int}
   (rule:∀ (i j:Int) (t u:Tok) (s:Shared) (Q:Value->Shared->Prop) (E:Value->Shared->Prop),C i j->Q (.int (g i j) s.toks) { s with toks:=s.toks+1 }->wpAny (model X.prog X.w) X.A (f (.int i t) (.int j u)) Q E s) :
   OpR X f (rI C fun i j=>.int (g i j)):=by
 intro pins s σ H x y v u Q I rx ry h;obtain⟨i,j,rfl,rfl,hc,q⟩:=h;obtain⟨t,rfl⟩:=rx;obtain⟨t',rfl⟩:=ry;exact rule i j t t' s _ _ hc ⟨.int (g i j),H,I.tok _,⟨_,rfl⟩,q⟩
theorem qmF {f:Value->Value->Sem Value}{g:Int->Int->Int}
   (rule:∀ (i j:Int) (t u:Tok) (s:Shared) (Q:Value->Shared->Prop) (E:Value->Shared->Prop),Q (.int (g i j) s.toks) { s with toks:=s.toks+1 }->wpAny (model X.prog X.w) X.A (f (.int i t) (.int j u)) Q E s) :
   OpR X f (rI0 fun i j=>.int (g i j)):=by
 intro pins s σ H x y v u Q I rx ry h;obtain⟨i,j,rfl,rfl,q⟩:=h;obtain⟨t,rfl⟩:=rx;obtain⟨t',rfl⟩:=ry;exact rule i j t t' s _ _ ⟨.int (g i j),H,I.tok _,⟨_,rfl⟩,q⟩
theorem ql3 {f:Value->Value->Sem Value}{g:Int->Int->Bool}
   (rule:∀ (i j:Int) (t u:Tok) (s:Shared) (Q:Value->Shared->Prop) (E:Value->Shared->Prop),Q (.bool (g i j)) s->wpAny (model X.prog X.w) X.A (f (.int i t) (.int j u)) Q E s) :
   OpR X f (rI0 fun i j=>.bl (g i j)):=by
 intro pins s σ H x y v u Q I rx ry h;obtain⟨i,j,rfl,rfl,q⟩:=h;obtain⟨t,rfl⟩:=rx;obtain⟨t',rfl⟩:=ry;exact rule i j t t' s _ _ ⟨.bl (g i j),H,I,rfl,q⟩
def qnl (i j:Int):Prop:=0 < j∧j < 1073741824
def qnk (i j:Int):Prop:=0≤j∧j≤1000000∧i.natAbs < 2 ^ 64
def CMul (i j:Int):Prop:=(-(2 ^ 64) < i∧i < 2 ^ 64)∨(-(2 ^ 64) < j∧j < 2 ^ 64)
theorem CMul.ok {i j:Int} (h:CMul i j):IntMulOk i j:=by
 rcases h with ⟨h1,h2⟩|⟨h1,h2⟩
 · exact .of_left (intBits_le_64 h1 h2)
 · exact .of_right (intBits_le_64 h1 h2)
theorem op_add:OpR X (binaryOp .Add) (rI0 fun i j=>.int (i+j)):=qmF fun _ _ _ _ _ _ _ q=>add_int q
theorem zK:OpR X (binaryOp .Sub) (rI0 fun i j=>.int (i - j)):=qmF fun _ _ _ _ _ _ _ q=>sub_int q
theorem ZH:OpR X (binaryOp .Mult) (rI CMul fun i j=>.int (i * j)):=opI fun _ _ _ _ _ _ _ hc q=>mul_int q hc.ok
theorem qgp:OpR X (binaryOp .FloorDiv) (rI qnl fun i j=>.int (i / j)):=opI fun i j _ _ _ _ _ hc q=>by
 have h1:(0:Int) < j:=hc.1;have h2:j < 1073741824:=hc.2;exact floordiv_int (by omega) (by rw[Int.fdiv_eq_ediv_of_nonneg i (by omega)];exact q) (.inl (PyProof.noPylong_small (by omega)))
theorem ZI:OpR X (binaryOp .Mod) (rI (fun _ j=>0 < j) fun i j=>.int (i % j)):=opI fun i j _ _ _ _ _ hc q=>by
 have h1:(0:Int) < j:=hc;exact mod_int' (by omega) (by rw[Int.fmod_eq_emod_of_nonneg i (by omega)];exact q)
theorem zH:OpR X (binaryOp .Pow) (rI qnk fun i j=>.int (i ^ j.toNat)):=opI fun _ _ _ _ _ _ _ hc q=>pow_int_small hc.1 hc.2.1 hc.2.2 q
theorem unI {f:Value->Sem Value}{g:Int->Int}
   (rule:∀ (i:Int) (t:Tok) (s:Shared) (Q:Value->Shared->Prop) (E:Value->Shared->Prop),Q (.int (g i) s.toks) { s with toks:=s.toks+1 }->wpAny (model X.prog X.w) X.A (f (.int i t)) Q E s) :
   UnR X f (rU fun i=>.int (g i)):=by
 intro pins s σ H x v Q I rx h;obtain⟨i,rfl,q⟩:=h;obtain⟨t,rfl⟩:=rx;exact rule i t s _ _ ⟨.int (g i),H,I.tok _,⟨_,rfl⟩,q⟩
theorem zU:UnR X (unaryOp .USub) (rU fun i=>.int (-i)):=unI fun _ _ _ _ _ q=>neg_int q
end
def qmu:V->V->Bool
 | .non,.non=>true|.non,.int _=>true|.int _,.non=>true|.non,.bl _=>true|.bl _,.non=>true|.non,.str _=>true|.str _,.non=>true
 | .int _,.int _=>true|.bl _,.bl _=>true|.str _,.str _=>true|.byt _,.byt _=>true
 | .int _,.str _=>true|.str _,.int _=>true|.bl _,.str _=>true|.str _,.bl _=>true
 | _,_=>false
def rEq:R2:=fun x y H Q=>qmu x y=true∧Q (.bl (decide (x=y))) H
def rNe:R2:=fun x y H Q=>qmu x y=true∧Q (.bl (!decide (x=y))) H
theorem qg8 {i j:Int}:decide (V.int i=V.int j)=(i == j):=by
 rw[Bool.eq_iff_iff];simp
theorem qjh {i j:Bool}:decide (V.bl i=V.bl j)=(i == j):=by
 rw[Bool.eq_iff_iff];simp
theorem qg7 {i j:Str}:decide (V.str i=V.str j)=(i == j):=by
 rw[Bool.eq_iff_iff];simp
theorem qg9 {i j:Array UInt8}:decide (V.byt i=V.byt j)=(i.toList == j.toList):=by
 rw[Bool.eq_iff_iff];cases i;cases j;simp
section
variable {X:Cx}{a b c:Expr}{ta tb tc:TE}{pos:Pos}
theorem q8 {pins:List (Addr×Obj)}{σ:St}{H:Hp}{s:Shared}{Q:VK}{k k':Bool} (I:Inv X pins σ H s) (q:Q (.bl k) H) (e:k=k'):EP X pins σ Q (.bool k') s:=by
 subst e;exact⟨.bl k,H,I,rfl,q⟩
theorem op_eq:OpR X (compareOp .Eq) rEq:=by
 intro pins s σ H x y v u Q I rx ry h;obtain⟨hs,q⟩:=h
 cases x with
 | non =>
   cases rx
   cases y with
   | non=>cases ry;exact PySem.EqNone.eq_none_none (q8 I q (by simp))
   | bl j=>cases ry;exact PySem.EqNone.eq_none_bool (q8 I q (by simp))
   | int j=>obtain⟨t',rfl⟩:=ry;exact PySem.EqNone.eq_none_int (q8 I q (by simp))
   | str j=>obtain⟨t',rfl⟩:=ry;exact PySem.EqNone.eq_none_str (q8 I q (by simp))
   | _=>exact absurd (show false=true from hs) Bool.false_ne_true
 | bl i =>
   cases rx
   cases y with
   | non=>cases ry;exact PySem.EqNone.eq_bool_none (q8 I q (by simp))
   | bl j=>cases ry;exact eq_bool (q8 I q qjh)
   | str j=>obtain⟨t',rfl⟩:=ry;exact PySem.EqMixed.eq_bool_str (q8 I q (by simp))
   | _=>exact absurd (show false=true from hs) Bool.false_ne_true
 | int i =>
   obtain⟨t,rfl⟩:=rx
   cases y with
   | non=>cases ry;exact PySem.EqNone.eq_int_none (q8 I q (by simp))
   | int j=>obtain⟨t',rfl⟩:=ry;exact eq_int (q8 I q qg8)
   | str j=>obtain⟨t',rfl⟩:=ry;exact PySem.EqMixed.eq_int_str (q8 I q (by simp))
   | _=>exact absurd (show false=true from hs) Bool.false_ne_true
 | str i =>
   obtain⟨t,rfl⟩:=rx
   cases y with
   | non=>cases ry;exact PySem.EqNone.eq_str_none (q8 I q (by simp))
   | bl j=>cases ry;exact PySem.EqMixed.eq_str_bool (q8 I q (by simp))
   | int j=>obtain⟨t',rfl⟩:=ry;exact PySem.EqMixed.eq_str_int (q8 I q (by simp))
   | str j=>obtain⟨t',rfl⟩:=ry;exact eq_str (q8 I q qg7)
   | _=>exact absurd (show false=true from hs) Bool.false_ne_true
 | byt i =>
   obtain⟨t,rfl⟩:=rx
   cases y with
   | byt j=>obtain⟨t',rfl⟩:=ry;exact PySem.W.eq_bytes (q8 I q qg9)
   | _=>exact absurd (show false=true from hs) Bool.false_ne_true
 | _=>cases y<;>exact absurd (show false=true from hs) Bool.false_ne_true
theorem op_ne:OpR X (compareOp .NotEq) rNe:=by
 intro pins s σ H x y v u Q I rx ry h;obtain⟨hs,q⟩:=h
 cases x with
 | non =>
   cases rx
   cases y with
   | non=>cases ry;exact PySem.EqNone.ne_none_none (q8 I q (by simp))
   | bl j=>cases ry;exact PySem.EqNone.ne_none_bool (q8 I q (by simp))
   | int j=>obtain⟨t',rfl⟩:=ry;exact PySem.EqNone.ne_none_int (q8 I q (by simp))
   | str j=>obtain⟨t',rfl⟩:=ry;exact PySem.EqNone.ne_none_str (q8 I q (by simp))
   | _=>exact absurd (show false=true from hs) Bool.false_ne_true
 | bl i =>
   cases rx
   cases y with
   | non=>cases ry;exact PySem.EqNone.ne_bool_none (q8 I q (by simp))
   | bl j=>cases ry;exact ne_bool (q8 I q (congrArg not qjh))
   | str j=>obtain⟨t',rfl⟩:=ry;exact PySem.EqMixed.ne_bool_str (q8 I q (by simp))
   | _=>exact absurd (show false=true from hs) Bool.false_ne_true
 | int i =>
   obtain⟨t,rfl⟩:=rx
   cases y with
   | non=>cases ry;exact PySem.EqNone.ne_int_none (q8 I q (by simp))
   | int j=>obtain⟨t',rfl⟩:=ry;exact ne_int (q8 I q (congrArg not qg8))
   | str j=>obtain⟨t',rfl⟩:=ry;exact PySem.EqMixed.ne_int_str (q8 I q (by simp))
   | _=>exact absurd (show false=true from hs) Bool.false_ne_true
 | str i =>
   obtain⟨t,rfl⟩:=rx
   cases y with
   | non=>cases ry;exact PySem.EqNone.ne_str_none (q8 I q (by simp))
   | bl j=>cases ry;exact PySem.EqMixed.ne_str_bool (q8 I q (by simp))
   | int j=>obtain⟨t',rfl⟩:=ry;exact PySem.EqMixed.ne_str_int (q8 I q (by simp))
   | str j=>obtain⟨t',rfl⟩:=ry;exact ne_str (q8 I q (congrArg not qg7))
   | _=>exact absurd (show false=true from hs) Bool.false_ne_true
 | byt i =>
   obtain⟨t,rfl⟩:=rx
   cases y with
   | byt j=>obtain⟨t',rfl⟩:=ry;exact PySem.W.ne_bytes (q8 I q (congrArg not qg9))
   | _=>exact absurd (show false=true from hs) Bool.false_ne_true
 | _=>cases y<;>exact absurd (show false=true from hs) Bool.false_ne_true
theorem qfg:OpR X (compareOp .Lt) (rI0 fun i j=>.bl (decide (i < j))):=ql3 fun _ _ _ _ _ _ _ q=>lt_int q
theorem JX:OpR X (compareOp .LtE) (rI0 fun i j=>.bl (decide (i≤j))):=ql3 fun _ _ _ _ _ _ _ q=>le_int q
theorem qdb:OpR X (compareOp .Gt) (rI0 fun i j=>.bl (decide (j < i))):=ql3 fun _ _ _ _ _ _ _ q=>gt_int q
theorem qk3:OpR X (compareOp .Is) (fun x y H Q=>y=.non∧Q (.bl (decide (x=.non))) H):=by
 intro pins s σ H x y v u Q I rx ry h;obtain⟨rfl,q⟩:=h;cases ry;refine is_none_gen (q8 I q ?_);cases x<;>first
   | (cases rx;rfl)
   | (obtain⟨t,rfl⟩:=rx;rfl)
theorem OpR.or {f:Value->Value->Sem Value}{r r':R2} (h:OpR X f r) (h':OpR X f r'):OpR X f (fun x y H Q=>r x y H Q∨r' x y H Q):=by
 intro pins s σ H x y v u Q I rx ry q;rcases q with q|q
 · exact h pins s σ H x y v u Q I rx ry q
 · exact h' pins s σ H x y v u Q I rx ry q
theorem qC (b:Expr) {op:CmpOp} (h:op≠.In:=by decide) (h2:op≠.NotIn:=by decide):behindInMarks op b=false:=by
 have e1:(op == CmpOp.In)=false:=by cases op<;>first|rfl|exact absurd rfl h
 have e2:(op == CmpOp.NotIn)=false:=by cases op<;>first|rfl|exact absurd rfl h2
 cases b<;>simp[behindInMarks,e1,e2]
theorem zA {op:CmpOp}{r:R2} (ho:OpR X (compareOp op) r) (ha:PE X a ta) (hb:PE X b tb) (hm:behindInMarks op b=false):PE X (.Compare a [op] [b] pos) (tOp r ta tb):=by
 intro pins s σ H Q I h;exact wpAny_Compare1 (qmm ha hb I h fun v u s2 x y H2 I2 rx ry q=>ho pins s2 σ H2 x y v u Q I2 rx ry q) hm
inductive qfK (Q:(Bool->Hp->Prop)) (x:V) (H':Hp):Prop
 | mk (k:_) (h1:x=.bl k) (h2:Q k H'):qfK Q x H'
def qkz (t:TE):TT:=fun σ H Q=>t σ H fun x H'=>qfK Q x H'
theorem qw {op:CmpOp}{r:R2} (ho:OpR X (compareOp op) r) (ha:PE X a ta) (hb:PE X b tb) (hm:behindInMarks op b=false):PT X (.Compare a [op] [b] pos) (qkz (tOp r ta tb)):=by
 intro pins s σ H Q I h
 refine wpAny_isTrue_Compare1 (thn (ha pins s σ H _ I h) fun v s1 ⟨x,H1,I1,r1,q1⟩=>thn (hb pins s1 σ H1 _ I1 q1) fun u s2 ⟨y,H2,I2,r2,q2⟩ =>
   thn (ho pins s2 σ H2 x y v u _ I2 r1 r2 q2) fun c s3 ⟨z,H3,I3,r3,k,e,q3⟩=>?_) hm
 subst e;cases r3;exact wpAny_truthy_bool ⟨H3,I3,q3⟩
def qiL (r r':R2) (ta tb tc:TE):TE:=fun σ H Q=>ta σ H fun x H1=>tb σ H1 fun y H2=>r x y H2 fun z H3=>∃ k,z=.bl k ∧
 (if k=true then tc σ H3 fun w' H4=>r' y w' H4 Q else Q (.bl false) H3)
theorem qeF {op op':CmpOp}{r r':R2} (ho:OpR X (compareOp op) r) (ho':OpR X (compareOp op') r') (ha:PE X a ta) (hb:PE X b tb) (hc:PE X c tc)
   (hm:lastMarks [op,op'] [b,c]=false:=by with_unfolding_all rfl):PE X (.Compare a [op,op'] [b,c] pos) (qiL r r' ta tb tc):=by
 intro pins s σ H Q I h
 refine Compare_chain (thn (ha pins s σ H _ I h) fun v s1 ⟨x,H1,I1,r1,q1⟩=>chain_link (thn (hb pins s1 σ H1 _ I1 q1) fun u s2 ⟨y,H2,I2,r2,q2⟩ =>
   thn (ho pins s2 σ H2 x y v u _ I2 r1 r2 q2) fun d s3 ⟨z,H3,I3,r3,k,e,q3⟩=>?_)) hm
 subst e;cases r3;refine wpAny_truthy_bool ?_
 cases k with
 | false=>exact ite_ff ⟨.bl false,H3,I3,rfl,q3⟩
 | true=>exact ite_tt (chain_last (thn (hc pins s3 σ H3 _ I3 q3) fun w' s4 ⟨z',H4,I4,r4,q4⟩=>ho' pins s4 σ H4 y z' u w' Q I4 r2 r4 q4))
theorem qhU {op op':CmpOp}{r r':R2} (ho:OpR X (compareOp op) r) (ho':OpR X (compareOp op') r') (ha:PE X a ta) (hb:PE X b tb) (hc:PE X c tc)
   (hm:lastMarks [op,op'] [b,c]=false:=by with_unfolding_all rfl):PT X (.Compare a [op,op'] [b,c] pos) (qkz (qiL r r' ta tb tc)):=by
 intro pins s σ H Q I h
 refine isTrue_chain (thn (ha pins s σ H _ I h) fun v s1 ⟨x,H1,I1,r1,q1⟩=>test_link (thn (hb pins s1 σ H1 _ I1 q1) fun u s2 ⟨y,H2,I2,r2,q2⟩ =>
   thn (ho pins s2 σ H2 x y v u _ I2 r1 r2 q2) fun d s3 ⟨z,H3,I3,r3,k,e,q3⟩=>?_)) hm
 subst e;cases r3;refine wpAny_truthy_bool ?_
 cases k with
 | false =>
   obtain⟨k',e',q'⟩:=q3;cases e';exact ite_ff ⟨H3,I3,q'⟩
 | true =>
   refine ite_tt (test_last (thn (hc pins s3 σ H3 _ I3 q3) fun w' s4 ⟨z',H4,I4,r4,q4⟩=>thn (ho' pins s4 σ H4 y z' u w' _ I4 r2 r4 q4) fun d' s5 zz_=>?_));obtain⟨z2,H5,I5,r5,k2,e2,q5⟩:=zz_;subst e2;cases r5;exact wpAny_truthy_bool ⟨H5,I5,q5⟩
def qmJ (K:Frag) (x:V) (H:Hp) (k:Bool):Prop :=
 match x with
 | .non=>k=false
 | .bl b=>k=b
 | .int i=>k=(i != 0)
 | .str y=>y.length≤sizeLine∧k=((y.length:Int) != 0)
 | .byt y=>y.size≤sizeLine∧k=((y.size:Int) != 0)
 | .ref p=>(∃ xs,SqL K H p xs∧k=!xs.isEmpty)∨(∃ xs,SqT K H p xs∧k=!xs.isEmpty)∨∃ kvs,H p=some (.dK kvs)∧k=!kvs.isEmpty
 | _=>False
theorem qfs {κ:Type}{kvs:List (κ×V)}{vs:List (κ×Value)} (r:KV kvs vs):(!vs.isEmpty)=!kvs.isEmpty:=by
 cases r<;>rfl
theorem qbU {xs:List V}{its:List Value} (r:Vals xs its):(!its.toArray.isEmpty)=!xs.isEmpty:=by
 cases r<;>simp
theorem qbT:(sizeLine:Nat) < 2 ^ 63:=by rw[sizeLine_eq];decide
theorem qku:qnh X (fun x H Q=>∃ k,qmJ X.K x H k∧Q k H):=by
 intro pins s σ H x v Q I rx h;obtain⟨k,e,q⟩:=h;have hl:=qbT;have hs:sizeLine=16777216:=sizeLine_eq
 cases x with
 | non =>
   cases rx;have e':k=false:=e;subst e';exact truthy_none ⟨H,I,q⟩
 | bl b =>
   cases rx;have e':k=b:=e;subst e';exact wpAny_truthy_bool ⟨H,I,q⟩
 | int i =>
   obtain⟨t,rfl⟩:=rx;have e':k=(i != 0):=e;subst e';exact PySem.P.truthy_int ⟨H,I,q⟩
 | str y =>
   obtain⟨t,rfl⟩:=rx;obtain⟨hy,e'⟩:y.length≤sizeLine∧k=((y.length:Int) != 0):=e;subst e';exact PySem.P.truthy_str (by omega) ⟨H,I.tok _,q⟩
 | byt y =>
   obtain⟨t,rfl⟩:=rx;obtain⟨hy,e'⟩:y.size≤sizeLine∧k=((y.size:Int) != 0):=e;subst e';exact PySem.W.truthy_bytes (by omega) ⟨H,I.tok _,q⟩
 | ref p =>
   cases rx;have e':(∃ xs,SqL X.K H p xs∧k=!xs.isEmpty)∨(∃ xs,SqT X.K H p xs∧k=!xs.isEmpty)∨∃ kvs,H p=some (.dK kvs)∧k=!kvs.isEmpty:=e;rcases e' with ⟨xs,hx,e'⟩|⟨xs,hx,e'⟩|⟨kvs,hx,e'⟩
   · subst e';obtain⟨its,r,pl,hz⟩:=I.list hx;have hlen:=r.length;exact wpAny_truthy_list pl.isList (by simp only[List.size_toArray];omega) ⟨H,I.tok _,by rw[qbU r];exact q⟩
   · subst e';obtain⟨its,r,pl,hz⟩:=I.tuple hx;have hlen:=r.length;exact truthy_tuple pl (by simp only[List.size_toArray];omega) ⟨H,I.tok _,by rw[qbU r];exact q⟩
   · subst e';obtain⟨hz,hS,vs,r,m⟩:kvs.length≤sizeLine∧(p == sysModules)=false∧∃ vs,KV kvs vs∧s.heap.DictOf (qP X.prog X.w) p vs:=I.hok p _ hx;have hlen:kvs.length=vs.length:=Paired.length r;exact wpAny_truthy_dict hS m (by omega) ⟨H,I.tok _,by rw[qfs r];exact q⟩
 | _=>exact(show False from e).elim
theorem qeC (ha:PE X a ta) (he:∀ whole,isTrue a X.env whole=(do let v ← whole;standAt a.pos;holding [v] (truthy v))) :
   PT X a (fun σ H Q=>ta σ H fun x H'=>∃ k,qmJ X.K x H' k∧Q k H'):=by
 intro pins s σ H Q I h;exact isTrue_plain (thn (ha pins s σ H _ I h) fun v s1 ⟨x,H1,I1,r1,q1⟩=>qku pins s1 σ H1 x v Q I1 r1 q1) (he _)
theorem qfh:OpR X (binaryOp .Add) (fun x y H Q=>∃ i j,x=.str i∧y=.str j∧i.length+j.length≤sizeLine∧Q (.str (i++j)) H):=by
 intro pins s σ H x y v u Q I rx ry h;obtain⟨i,j,rfl,rfl,hz,q⟩:=h;obtain⟨t,rfl⟩:=rx;obtain⟨t',rfl⟩:=ry;exact add_str (fun t' tk=>⟨.str (i++j),H,I.tok _,⟨_,rfl⟩,q⟩) hz
theorem j5 {x:V}{us:List Value} (r:Vals [x] us):∃ u,us=[u]∧RelV x u:=by
 cases r with
 | cons r1 r2=>cases r2;exact⟨_,rfl,r1⟩
theorem qfD {x y:V}{us:List Value} (r:Vals [x,y] us):∃ u w',us=[u,w']∧RelV x u∧RelV y w':=by
 cases r with
 | cons r1 r2 =>
   cases r2 with
   | cons r3 r4=>cases r4;exact⟨_,_,rfl,r1,r3⟩
theorem zh (hc:X.calm=true):CallR X (.builtin "max") (fun xs H Q=>∃ i j,xs=[.int i,.int j]∧Q (.int (if j > i then j else i)) H):=by
 intro pins s σ H xs us Q I r h;obtain⟨i,j,rfl,q⟩:=h;obtain⟨u,w',rfl,⟨t,rfl⟩,⟨t',rfl⟩⟩:=qfD r;refine max_two_ints (I.ok.hd hc) fun h' tk k=>⟨_,H,I.kept k,?_,q⟩
 by_cases hj:j > i
 · rw[if_pos hj,if_pos hj];exact⟨_,rfl⟩
 · rw[if_neg hj,if_neg hj];exact⟨_,rfl⟩
theorem zC (hc:X.calm=true):CallR X (.builtin "min") (fun xs H Q=>∃ i j,xs=[.int i,.int j]∧Q (.int (if j < i then j else i)) H):=by
 intro pins s σ H xs us Q I r h;obtain⟨i,j,rfl,q⟩:=h;obtain⟨u,w',rfl,⟨t,rfl⟩,⟨t',rfl⟩⟩:=qfD r;refine min_two_ints (I.ok.hd hc) fun h' tk k=>⟨_,H,I.kept k,?_,q⟩
 by_cases hj:j < i
 · rw[if_pos hj,if_pos hj];exact⟨_,rfl⟩
 · rw[if_neg hj,if_neg hj];exact⟨_,rfl⟩
theorem qa6:CallR X (.type "int") (fun xs H Q=>(∃ i,xs=[.int i]∧Q (.int i) H)∨∃ k,xs=[.bl k]∧Q (.int (if k then 1 else 0)) H):=by
 intro pins s σ H xs us Q I r h;rcases h with ⟨i,rfl,q⟩|⟨k,rfl,q⟩
 · obtain⟨u,rfl,t,rfl⟩:=j5 r;exact call_int_int ⟨.int i,H,I,⟨_,rfl⟩,q⟩
 · obtain⟨u,rfl,r1⟩:=j5 r;cases r1;exact call_int_bool ⟨.int (if k then 1 else 0),H,I.tok _,⟨_,rfl⟩,q⟩
def qnj (K:Frag) (x:V) (H:Hp) (n:Nat):Prop :=
 match x with
 | .str y=>y.length≤sizeLine∧n=y.length
 | .byt y=>y.size≤sizeLine∧n=y.size
 | .ref p=>(∃ xs,SqL K H p xs∧n=xs.length)∨∃ xs,SqT K H p xs∧n=xs.length
 | _=>False
theorem qW:CallR X (.builtin "len") (fun xs H Q=>∃ x n,xs=[x]∧qnj X.K x H n∧Q (.int n) H):=by
 intro pins s σ H xs us Q I r h;obtain⟨x,n,rfl,e,q⟩:=h;obtain⟨u,rfl,rx⟩:=j5 r;have hl:=qbT;have hs:sizeLine=16777216:=sizeLine_eq
 cases x with
 | str y =>
   obtain⟨t,rfl⟩:=rx;obtain⟨hy,e'⟩:y.length≤sizeLine∧n=y.length:=e;subst e';exact len_str (by omega) ⟨.int _,H,I.tok _,⟨_,rfl⟩,q⟩
 | byt y =>
   obtain⟨t,rfl⟩:=rx;obtain⟨hy,e'⟩:y.size≤sizeLine∧n=y.size:=e;subst e';exact PySem.W.len_bytes (by omega) ⟨.int _,H,I.tok _,⟨_,rfl⟩,q⟩
 | ref p =>
   cases rx;have e':(∃ xs,SqL X.K H p xs∧n=xs.length)∨∃ xs,SqT X.K H p xs∧n=xs.length:=e;rcases e' with ⟨xs,hx,e'⟩|⟨xs,hx,e'⟩
   · subst e';obtain⟨its,r',pl,hz⟩:=I.list hx;have hlen:=r'.length;exact Calls.call_len_list pl.isList (by simp only[List.size_toArray];omega) ⟨.int xs.length,H,I.tok _,⟨_,by simp only[List.size_toArray];rw[hlen]⟩,q⟩
   · subst e';obtain⟨its,r',pl,hz⟩:=I.tuple hx;have hlen:=r'.length;exact len_tuple pl (by simp only[List.size_toArray];omega) ⟨.int xs.length,H,I.tok _,⟨_,by simp only[List.size_toArray];rw[hlen]⟩,q⟩
 | _=>exact(show False from e).elim
end
structure ObjM (h:Heap) (x dx C:Addr) (mA:Str->Option Value):Prop where
 obj:h.get? x=some (instObj C dx)
 ns:h.Ns1 dx mA
 ne:dx≠x
theorem qdl {h:Heap}{dx:Addr}{mA:Str->Option Value} (n:h.Ns1 dx mA):∃ od,h.get? dx=some od∧∀ name,lookIn name od=some (mA name):=by
 obtain⟨o,es,ep,ho,hd,hk,_,hm⟩:=n;refine⟨o,ho,fun name=>?_⟩;have e:=hm name;unfold nsFind findBy at e;rw[← Array.find?_toList]at e;unfold lookIn;rw[hd];dsimp only;split
 · rename_i y q
   rw[q]at e;exact congrArg some e
 · rename_i q
   rw[q]at e
   have a:es.toList.any (·.refKey)=false:=by
     rw[List.any_eq_false];intro y hy;obtain⟨z,t,hkey⟩:=hk y (Array.mem_toList_iff.mp hy);simp[DictEntry.refKey,hkey]
   have a':¬ es.toList.any (·.refKey)=true:=by rw[a];exact Bool.false_ne_true
   rw[if_neg a'];exact congrArg some e
theorem ObjM.look {h:Heap}{x dx C:Addr}{mA:Str->Option Value} (I:ObjM h x dx C mA):∃ od,PySem.W.InstAt h x (instObj C dx) C (some od)∧∀ name,lookIn name od=some (mA name) :=
 let ⟨od,ho,hl⟩:=qdl I.ns
 ⟨od,⟨I.obj,rfl,rfl,ho⟩,hl⟩
section
variable {prog:Program}{w:World}{A:Around}{E:Value->Shared->Prop}{s:Shared}{K:Frag}{x dx C f:Addr}{mA:Str->Option Value}{name:Str}{v:Value}
theorem qj6 {expr:Bool}{Q:Value->Shared->Prop} (X:K.In s.heap) (I:ObjM s.heap x dx C mA) (hg:plainGet K C name=true) (hh:hasDictIn K C=true)
   (ha:findIn K (.ref C) name=some none) (hv:mA name=some v) (hv':handedIn v=true) (h:Q v { s with toks:=s.toks+1 }) :
   wpAny (model prog w) A (getAttr (.ref x) name expr) Q E s:=by
 obtain⟨od,J,hl⟩:=I.look;exact PySem.W.get_value X J (plainGet_of hg).1 (PySem.W.findObj_own hh ha rfl (by rw[hl,hv])) hv' h
theorem qiq {pl:Sem Bool}{Q:Value×List Value->Shared->Prop} (X:K.In s.heap) (I:ObjM s.heap x dx C mA) (hg:plainGet K C name=true)
   (hf:findIn K (.ref C) name=some (some (.ref f))) (ht:isFn K (.ref f)=true) (hv:mA name=none) (h:Q (.ref f,[.ref x]) s) :
   wpAny (model prog w) A (getMethod (.ref x) name pl) Q E s:=by
 obtain⟨od,J,hl⟩:=I.look;exact PySem.W.method_fn X J (plainGet_of hg).1 (plainGet_of hg).2 hf (beq_iff_eq.mp ht) (by show (lookIn name od).map (·.isSome)=some false;rw[hl,hv];rfl) h
theorem qjE {ns:List Str}{Q:Unit->Shared->Prop} (X:K.In s.heap) (I:ObjM s.heap x dx C mA)
   (hs:findIn K (.ref C) "__setattr__"=some (some (.builtin "object.__setattr__"))) (hp:plainOver K C=true) (ht:takerIn K C name=some none) (hh:hasDictIn K C=true)
   (hw:PySem.Within mA ns) (hsz:ns.length≤sizeLine)
   (h:∀ h',ObjM h' x dx C (fun y=>if y=name then some v else mA y)->Heap.SameBut dx s.heap h'->Q () { s with heap:=h',toks:=s.toks+2 }) :
   wpAny (model prog w) A (setAttr (.ref x) name v) Q E s:=by
 obtain⟨od,J,hl⟩:=I.look;refine PySem.W.set_plain X J hs (PySem.W.osa_open (s:={ s with toks:=s.toks+1 }) (r:=none) X J hp ht fun b=>?_);obtain⟨cd,hc,hd'⟩:=PySem.W.any_some hh;have hx:s.heap.get? x=some ⟨.ref C,some dx,.plain,#[]⟩:=I.obj;refine wpAny_bind (wpAny_pure (wpAny_bind (wpAny_bind (wpAny_loadPart hx (wpAny_bind (PySem.W.Looks.here (s:={ s with toks:=s.toks+1 }) (PySem.W.looks_clsIn X hc) ?_))))));rw[hd'];refine wpAny_pure (a:=some dx) (wpAny_bind (wpAny_pure (wpAny_bind ?_)));refine wpAny_nsSet1 (s:={ s with toks:=s.toks+1 }) I.ns fun h' hn2 hs2=>?_;obtain⟨oD,esD,epD,hoD,hdD,hcD⟩:=hn2.count (PySem.Within.cons name v hw);refine wpAny_bind (wpAny_lookBehind hoD (by rw[hdD];exact pastItsLine_dict (Nat.le_trans hcD (by rw[List.length_cons];omega))) ?_);exact wpAny_pure (h _ ⟨(hs2.2 _ (Ne.symm I.ne)).trans I.obj,hn2,I.ne⟩ hs2)
theorem qij {R:Result->Shared->Prop}{vs:List Value}{kw:List (Str×Value)} (X:K.In s.heap) (hm:makesIn K C=true)
   (hi:findIn K (.ref C) "__init__"=some (some (.ref f))) (hf:PySem.W.typeIn K (.ref f)=some (.type "function"))
   (h:codeAny (model prog w) (A.under (.builtin "type.__call__" ⟨.ref C::vs,kw⟩)) (.call (.ref f) ⟨.ref (s.heap.objs.size+1)::vs,kw⟩) (PySem.W.InitBack (s.heap.objs.size+1) R)
     { s with heap:=(s.heap.push emptyDict).push (instObj C s.heap.objs.size) }) :
   codeAny (model prog w) A (.call (.ref C) ⟨vs,kw⟩) R s:=by
 obtain⟨hh,g,d,t,os⟩:=s;exact PySem.W.make_core (PySem.W.makes_of X hm) (PySem.W.looks_findIn X hi) (fun self=>PySem.W.bind_fn X self hf) (.inl rfl) h
end
def qc7 (f:Str) (v:V):List (Str×V)->List (Str×V)
 | []=>[(f,v)]
 | (g,x)::r=>if g=f then (g,v)::r else (g,x)::qc7 f v r
theorem Q3 (f g:Str) (v:V):∀ fs:List (Str×V),(qc7 f v fs).lookup g=if g=f then some v else fs.lookup g
 | []=>by
   show List.lookup g [(f,v)]=_;by_cases h:g=f
   · have hb:(g == f)=true:=beq_iff_eq.mpr h;simp only[List.lookup,hb,if_pos h]
   · have hb:(g == f)=false:=beq_eq_false_iff_ne.mpr h;simp only[List.lookup,hb,if_neg h]
 | (k,x)::r=>by
   have ih:=Q3 f g v r;rw[show qc7 f v ((k,x)::r)=(if k=f then (k,v)::r else (k,x)::qc7 f v r) from rfl];by_cases hk:k=f
   · rw[if_pos hk];by_cases h:g=k
     · have hb:(g == k)=true:=beq_iff_eq.mpr h;simp only[List.lookup,hb,if_pos (h.trans hk)]
     · have hb:(g == k)=false:=beq_eq_false_iff_ne.mpr h;simp only[List.lookup,hb,if_neg (fun e:g=f=>h (e.trans hk.symm))]
   · rw[if_neg hk];by_cases h:g=k
     · have hb:(g == k)=true:=beq_iff_eq.mpr h;simp only[List.lookup,hb,if_neg (fun e:g=f=>hk (h.symm.trans e))]
     · have hb:(g == k)=false:=beq_eq_false_iff_ne.mpr h;simp only[List.lookup,hb];exact ih
theorem qa0 (f:Str) (v:V):∀ fs:List (Str×V),f∈(qc7 f v fs).map (·.1)∧∀ g,g∈fs.map (·.1)->g∈(qc7 f v fs).map (·.1)
 | []=>⟨by simp[qc7],fun g h=>by simp at h⟩
 | (k,x)::r=>by
   obtain⟨i1,i2⟩:=qa0 f v r;rw[show qc7 f v ((k,x)::r)=(if k=f then (k,v)::r else (k,x)::qc7 f v r) from rfl];by_cases hk:k=f
   · rw[if_pos hk];subst hk;exact⟨by simp,fun g h=>by simpa using h⟩
   · rw[if_neg hk];refine⟨?_,fun g h=>?_⟩
     · rw[List.map_cons];exact List.mem_cons_of_mem _ i1
     · rw[List.map_cons]at h ⊢;rcases List.mem_cons.mp h with e|e
       · exact List.mem_cons.mpr (.inl e)
       · exact List.mem_cons_of_mem _ (i2 g e)
theorem qaT (f:Str) (v:V):∀ fs:List (Str×V),(qc7 f v fs).length≤fs.length+1
 | []=>by simp[qc7]
 | (k,x)::r=>by
   have ih:=qaT f v r;rw[show qc7 f v ((k,x)::r)=(if k=f then (k,v)::r else (k,x)::qc7 f v r) from rfl];by_cases hk:k=f
   · rw[if_pos hk,List.length_cons,List.length_cons];omega
   · rw[if_neg hk,List.length_cons,List.length_cons];omega
theorem RelO.some_of {v:V}{o:Option Value} (r:RelO (some v) o):∃ u,o=some u∧RelV v u:=by
 cases o with
 | none=>exact(show False from r).elim
 | some u=>exact⟨u,rfl,r⟩
theorem RelO.none_of {o:Option Value} (r:RelO none o):o=none:=by
 cases o with
 | none=>rfl
 | some u=>exact(show False from r).elim
theorem qdu {v:V}{u:Value} (r:RelV v u):handedIn u=true:=by
 cases v with
 | non=>cases (show u=Value.none from r);rfl
 | bl b=>cases (show u=Value.bool b from r);rfl
 | int i=>obtain⟨t,e⟩:=(show ∃ t,u=Value.int i t from r);cases e;rfl
 | str x=>obtain⟨t,e⟩:=(show ∃ t,u=Value.str x t from r);cases e;rfl
 | byt b=>obtain⟨t,e⟩:=(show ∃ t,u=Value.bytes b t from r);cases e;rfl
 | flt b=>obtain⟨t,e⟩:=(show ∃ t,u=Value.float b t from r);cases e;rfl
 | ref a=>cases (show u=Value.ref a from r);rfl
 | ty n=>cases (show u=Value.type n from r);rfl
section
variable {P:Program}{w:World}{H H':Hp}{h h':Heap}{a C dx:Addr}{fs fs':List (Str×V)}
theorem qcA (hok:HOk P w H h) (e:H a=some (.ins C dx fs)):∃ mA,ObjM h a dx C mA∧(∀ f,RelO (fs.lookup f) (mA f))∧PySem.Within mA (fs.map (·.1))∧fs.length≤1000∧H dx=some (.own a):=by
 obtain⟨d,z,ne,ob,mA,n,r,q⟩:=(show ObjOk P w H h a (.ins C dx fs) from hok a _ e)
 exact⟨mA,⟨ob,n,ne⟩,r,q,z,d⟩
end
structure Cls (K:Frag) (C:Addr):Prop where
 pg:plainGet K C Str.empty=true
 hd:hasDictIn K C=true
 po:plainOver K C=true
 sa:findIn K (.ref C) "__setattr__"=some (some (.builtin "object.__setattr__"))
theorem Cls.get {K:Frag}{C:Addr} (c:Cls K C) (f:Str):plainGet K C f=true:=c.pg
def NoAttr (K:Frag) (C:Addr) (f:Str):Prop:=findIn K (.ref C) f=some none
theorem NoAttr.taker {K:Frag}{C:Addr}{f:Str} (n:NoAttr K C f):takerIn K C f=some none:=by
 unfold takerIn;rw[show findIn K (.ref C) f=some none from n];rfl
structure qhw (K:Frag) (C:Addr) (m:Str) (f:Addr):Prop where
 at_:findIn K (.ref C) m=some (some (.ref f))
 fn:isFn K (.ref f)=true
 kp:keepIn K (.ref f)=true
section
variable {X:Cx}{pins:List (Addr×Obj)}{σ:St}{H:Hp}{s:Shared}{a C dx:Addr}{fs:List (Str×V)}{f:Str}{v:V}{A:Around}{E:Value->Shared->Prop}
theorem qft {b:Bool}{Q:Value->Shared->Prop} (I:Inv X pins σ H s) (e:H a=some (.ins C dx fs)) (c:Cls X.K C) (n:NoAttr X.K C f) (l:fs.lookup f=some v)
   (h:∀ u s',Inv X pins σ H s'->RelV v u->Q u s'):wpAny (model X.prog X.w) A (getAttr (.ref a) f b) Q E s:=by
 obtain⟨mA,O,r,_,_,_⟩:=qcA I.hok e;obtain⟨u,hu,ru⟩:=RelO.some_of (v:=v) (o:=mA f) (by rw[← l];exact r f);exact qj6 I.kIn O (c.get f) c.hd n hu (qdu ru) (h u _ (I.tok _) ru)
theorem Jj {m:Str}{g:Addr}{pl:Sem Bool}{Q:Value×List Value->Shared->Prop} (I:Inv X pins σ H s) (e:H a=some (.ins C dx fs)) (c:Cls X.K C) (k:qhw X.K C m g) (l:fs.lookup m=none)
   (h:Q (.ref g,[.ref a]) s):wpAny (model X.prog X.w) A (getMethod (.ref a) m pl) Q E s:=by
 obtain⟨mA,O,r,_,_,_⟩:=qcA I.hok e;have hn:mA m=none:=RelO.none_of (by rw[← l];exact r m);exact qiq I.kIn O (c.get m) k.at_ k.fn hn h
theorem qfa {y:V}{u:Value}{Q:Unit->Shared->Prop} (I:Inv X pins σ H s) (e:H a=some (.ins C dx fs)) (c:Cls X.K C) (n:NoAttr X.K C f) (hl:fs.length < 1000) (ry:RelV y u)
   (h:∀ s',Inv X pins σ (upd H a (.ins C dx (qc7 f y fs))) s'->Q () s'):wpAny (model X.prog X.w) A (setAttr (.ref a) f u) Q E s:=by
 obtain⟨mA,O,r,wi,_,ho⟩:=qcA I.hok e;have hz:(fs.map (·.1)).length≤sizeLine:=by rw[List.length_map,sizeLine_eq];omega
 refine qjE I.kIn O c.sa c.po n.taker c.hd wi hz fun h' O' sb=>h _ ?_;have hd:∃ o,h'.get? dx=some o:=let ⟨o,_,_,e',_⟩:=O'.ns;⟨o,e'⟩;refine I.write (x:=a) (e:=dx) (by rw[e];exact True.intro) (.inr ho) (fun b q hb z=>(sb.2 b hb).trans z) hd ?_;refine⟨by rw[qj O.ne];exact ho,?_,O.ne,O'.obj,_,O'.ns,fun g=>?_,fun g hg=>?_⟩
 · have:=qaT f y fs;omega
 · show RelO ((qc7 f y fs).lookup g) (if g=f then some u else mA g);rw[Q3];by_cases q:g=f
   · rw[if_pos q,if_pos q];exact ry
   · rw[if_neg q,if_neg q];exact r g
 · by_cases q:g=f
   · rw[q];exact(qa0 f y fs).1
   · refine(qa0 f y fs).2 g (wi g fun z=>hg ?_);show (if g=f then some u else mA g)=none;rw[if_neg q];exact z
theorem Inv.made (I:Inv X pins σ H s):Inv X pins σ (upd (upd H s.heap.objs.size (.own (s.heap.objs.size+1))) (s.heap.objs.size+1) (.ins C s.heap.objs.size []))
   { s with heap:=(s.heap.push emptyDict).push (instObj C s.heap.objs.size) }:=by
 have e1:(s.heap.push emptyDict).get? s.heap.objs.size=some emptyDict:=Heap.get?_push_size s.heap rfl
 have e2:((s.heap.push emptyDict).push (instObj C s.heap.objs.size)).get? (s.heap.objs.size+1)=some (instObj C s.heap.objs.size):=by
   have:=Heap.get?_push_size (s.heap.push emptyDict) (o:=instObj C s.heap.objs.size) rfl
   rwa [Heap.size_push]at this
 have e3:(s.heap.push emptyDict).Ns s.heap.objs.size (fun _=>none):=⟨emptyDict,#[],_,e1,rfl,(fun e he=>absurd he (by simp)),fun _=>rfl⟩
 have I1:=I.laid (a:=s.heap.objs.size) (o:=.own (s.heap.objs.size+1)) (h':=s.heap.push emptyDict) (t':=s.toks) (fun b u q=>Heap.get?_push_of_some _ q) (Nat.le_refl _) ⟨_,e1⟩;refine I1.laid (a:=s.heap.objs.size+1) (o:=.ins C s.heap.objs.size []) (t':=s.toks) (fun b u q=>Heap.get?_push_of_some _ q) (Nat.le_of_eq (Heap.size_push _ _)) ?_;have ne:s.heap.objs.size≠s.heap.objs.size+1:=Nat.ne_of_lt (Nat.lt_succ_self _);refine⟨by rw[qj ne,qc],Nat.zero_le _,ne,e2,fun _=>none,(Heap.Ns1.of_empty e3).at fun o q=>Heap.get?_push_of_some _ q,fun _=>True.intro,fun y hy=>absurd rfl hy⟩
theorem qhs {prog:Program}{w:World}{env:Env}{e:Expr}{f:Str}{pos:Pos}{s:Shared}{Q:Value->Shared->Prop} (hb:attributeBase e f env (eval e env)=eval e env)
   (h:wpAny (model prog w) A (eval e env) (fun o s₁=>wpAny (model prog w) A (getAttr o f true) Q E s₁) E s):wpAny (model prog w) A (eval (.Attribute e f pos) env) Q E s :=
 Attribute_any_ h (by rw[arm_eval_Attribute,hb])
end
inductive qiK (K:Frag) (f:Str) (Q:VK) (x:V) (H1:Hp):Prop
 | mk (a C dx fs v:_) (h1:x=.ref a) (h2:H1 a=some (.ins C dx fs)) (h3:Cls K C) (h4:NoAttr K C f) (h5:fs.lookup f=some v) (h6:Q v H1):qiK K f Q x H1
def qmY (K:Frag) (ta:TE) (f:Str):TE:=fun σ H Q=>ta σ H fun x H1=>qiK K f Q x H1
def qm3 (K:Frag) (ta tv:TE) (f:Str):TS:=fun D σ H=>tv σ H fun y H1=>ta σ H1 fun x H2=>∃ a C dx fs,x=.ref a∧H2 a=some (.ins C dx fs)∧Cls K C∧NoAttr K C f∧fs.length < 1000 ∧
 D.nx σ (upd H2 a (.ins C dx (qc7 f y fs)))
section
variable {X:Cx}{o e value:Expr}{f:Str}{pos pos' tpos:Pos}{ta tv:TE}
theorem zl (he:PE X e ta) (hb:attributeBase e f X.env (eval e X.env)=eval e X.env):PE X (.Attribute e f pos) (qmY X.K ta f):=by
 intro pins s σ H Q I h;refine qhs hb (thn (he pins s σ H _ I h) fun u s1 zz_=>?_);obtain⟨x,H1,I1,rx,a,C,dx,fs,v,ex,ea,c,n,l,q⟩:=zz_;subst ex;obtain rfl:u=Value.ref a:=rx;exact qft I1 ea c n l fun u' s2 I2 ru=>⟨v,H1,I2,ru,q⟩
theorem jd (ha:PE X o ta) (hv:PE X value tv) (hs:swapsWith value (some (.Attribute o f pos')) pos.line X.env=pure false):PS X (.Assign [.Attribute o f pos'] value pos) (qm3 X.K ta tv f):=by
 intro pins s σ H D I h;refine plainObj_wpAny_Assign_Attribute (thn (hv pins s σ H _ I h) fun u s1 ⟨y,H1,I1,ry,q⟩=>thn (ha pins s1 σ H1 _ I1 q) fun ov s2 zz_=>?_) hs;obtain⟨x,H2,I2,rx,a,C,dx,fs,ex,ea,c,n,l,q2⟩:=zz_;subst ex;obtain rfl:ov=Value.ref a:=rx;exact qfa I2 ea c n l ry fun s3 I3=>⟨σ,_,I3,q2⟩
end
section
variable {X:Cx}{pins:List (Addr×Obj)}{σ:St}{H:Hp}{s:Shared}{A:Around}{E:Value->Shared->Prop}{Q:Value->Shared->Prop}{c:Value}{b:Bool}
inductive qdI (K:Frag) (H:Hp):V->Value->Prop where
 | non:qdI K H .non (.type "NoneType")
 | bl (x:Bool):qdI K H (.bl x) (.type "bool")
 | int (i:Int):qdI K H (.int i) (.type "int")
 | str (x:Str):qdI K H (.str x) (.type "str")
 | flt (x:UInt64):qdI K H (.flt x) (.type "float")
 | lst {a:Addr}{xs:List V} (e:H a=some (.lst xs)):qdI K H (.ref a) (.type "list")
 | frz {a:Addr}{o:Obj}{xs:List V} (e:H a=some (.frz o (.lst xs))):qdI K H (.ref a) (.type "list")
 | tup {a:Addr}{xs:List V} (e:H a=some (.tup xs)):qdI K H (.ref a) (.type "tuple")
 | dK {a:Addr}{kvs:List (Key×V)} (e:H a=some (.dK kvs)):qdI K H (.ref a) (.type "dict")
 | dT {a:Addr}{kvs:List (List Key×V)} (e:H a=some (.dT kvs)):qdI K H (.ref a) (.type "dict")
 | ins {a C dx:Addr}{fs:List (Str×V)} (e:H a=some (.ins C dx fs)) (cl:Cls K C) (ha:findIn K (.ref C) "__class__"=some (some (.builtin "object.__class__")))
     (hn:PySem.W.specialIn K (.builtin "object.__class__") "__get__"=some (some (.builtin "getset_descriptor.__get__"))) (htk:PySem.W.takesIn K (.builtin "object.__class__")=some true)
     (hm:PySem.W.mroIn K C (.type "object")=some true):qdI K H (.ref a) (.ref C)
theorem qds {x:V}{u t:Value} (I:Inv X pins σ H s) (rx:RelV x u) (ty:qdI X.K H x t) (e:PySem.W.kitOne X.K t c=some b) (h:∀ tk,Q (.bool b) { s with toks:=tk }) :
   wpAny (model X.prog X.w) A (call (.builtin "isinstance") [u,c]) Q E s:=by
 cases ty with
 | non=>cases (show u=Value.none from rx);exact kia_one PySem.W.kitx_none I.kIn True.intro e (fun z=>nomatch z) h
 | bl y=>cases (show u=Value.bool y from rx);exact kia_one PySem.W.kitx_bool I.kIn True.intro e (fun z=>nomatch z) h
 | int i=>obtain⟨t,q⟩:=(show ∃ t,u=Value.int i t from rx);cases q;exact kia_one PySem.W.kitx_int I.kIn True.intro e (fun z=>nomatch z) h
 | str y=>obtain⟨t,q⟩:=(show ∃ t,u=Value.str y t from rx);cases q;exact kia_one PySem.W.kitx_str I.kIn True.intro e (fun z=>nomatch z) h
 | flt y=>obtain⟨t,q⟩:=(show ∃ t,u=Value.float y t from rx);cases q;exact kia_one PySem.W.kitx_float I.kIn True.intro e (fun z=>nomatch z) h
 | @lst a xs ea =>
   cases (show u=Value.ref a from rx);obtain⟨_,_,n,_,h1⟩:=(show ObjOk X.prog X.w H s.heap a (.lst xs) from I.hok a _ ea)
   exact kia_one kitx_list I.kIn ⟨_,h1,rfl⟩ e (fun z=>nomatch z) h
 | @frz a ob xs ea =>
   cases (show u=Value.ref a from rx);obtain⟨_,_,_,n,_,h1⟩:=(show ObjOk X.prog X.w H s.heap a (.frz ob (.lst xs)) from I.hok a _ ea)
   exact kia_one kitx_list I.kIn ⟨_,h1,rfl⟩ e (fun z=>nomatch z) h
 | @tup a xs ea =>
   cases (show u=Value.ref a from rx);obtain⟨_,_,_,p⟩:=(show ObjOk X.prog X.w H s.heap a (.tup xs) from I.hok a _ ea)
   obtain⟨o,h1,h2,_⟩:=p;exact kia_one PySem.W.kitx_tuple I.kIn ⟨o,h1,h2⟩ e (fun z=>nomatch z) h
 | @dK a kvs ea =>
   cases (show u=Value.ref a from rx);obtain⟨_,_,vs,_,p⟩:=(show ObjOk X.prog X.w H s.heap a (.dK kvs) from I.hok a _ ea)
   obtain⟨o,es,ep,h1,h2,_⟩:=p;exact kia_one kitx_dict I.kIn ⟨o,h1,h2.1⟩ e (fun z=>nomatch z) h
 | @dT a kvs ea =>
   cases (show u=Value.ref a from rx);obtain⟨_,_,xs,_,o,es,ep,h1,h2,_⟩:=(show ObjOk X.prog X.w H s.heap a (.dT kvs) from I.hok a _ ea)
   exact kia_one kitx_dict I.kIn ⟨o,h1,h2.1⟩ e (fun z=>nomatch z) h
 | @ins a C dx fs ea cl ha hn htk hm =>
   cases (show u=Value.ref a from rx);obtain⟨mA,O,_⟩:=qcA I.hok ea;obtain⟨od,J,_⟩:=O.look;exact kia_one (PySem.W.kitx_own (cl.get _) cl.hd ha hn htk hm) I.kIn J e (fun z=>nomatch z) h
end
structure Room (k:Nat) (A:Around):Prop where
 hd:A.handled=none
 dp:A.depth+3 * k+5 < recursionLimit
 un:A.units+16 * k+200 < cLine
 gd:A.guards=some []
theorem Room.mono {j k:Nat}{A:Around} (r:Room k A) (h:j≤k):Room j A:=⟨r.hd,by have:=r.dp;omega,by have:=r.un;omega,r.gd⟩
theorem Room.deeper {k:Nat}{A:Around} (r:Room (k+1) A) (env:Env):Room k (A.deeper env) :=
 ⟨r.hd,by have:=r.dp;show A.depth+1+3 * k+5 < _;omega,by have:=r.un;show A.units+3+16 * k+200 < _;omega,r.gd⟩
theorem qfp {A:Around}{C:Addr}{us:List Value}{kw:List (Str×Value)}:(A.under (.builtin "type.__call__" ⟨.ref C::us,kw⟩)).depth=A.depth+1:=by
 first|rfl|simp[Around.under,Code.weight,Code.isCreation,Code.isGuard,Code.isCaller,Code.frames,Code.isFrame,guardIds]
theorem qfo {A:Around}{C:Addr}{us:List Value}{kw:List (Str×Value)}:(A.under (.builtin "type.__call__" ⟨.ref C::us,kw⟩)).units=A.units+1:=by
 first|rfl|simp[Around.under,Code.cUnits,Code.frames,Code.isFrame]
theorem Room.make {k:Nat}{A:Around} (r:Room (k+1) A) (C:Addr) (us:List Value) (kw:List (Str×Value)):Room k (A.under (.builtin "type.__call__" ⟨.ref C::us,kw⟩)) :=
 ⟨r.hd,by have:=r.dp;rw[qfp];omega,by have:=r.un;rw[qfo];omega,r.gd⟩
theorem Room.depth {k:Nat}{A:Around} (r:Room k A):A.depth < recursionLimit:=by have:=r.dp;omega
theorem Room.units {k:Nat}{A:Around} (r:Room k A):A.units+64 < cLine:=by have:=r.un;omega
def qfN:TA:=fun _ H Q=>Q [] H
def qlU (ta:TE) (tr:TA):TA:=fun σ H Q=>ta σ H fun x H1=>tr σ H1 fun xs H2=>Q (x::xs) H2
section
variable {X:Cx}{e:Expr}{es:List Expr}{te:TE}{t:TA}{pos:Pos}
theorem qb:PA X [] qfN:=fun _ _ _ _ H Q I h=>Calls.spliced_nil ⟨[],H,I,.nil,h⟩
theorem qa (ha:PE X e te) (hr:PA X es t) (hs:starEach (e::es) X.env=(false,eval e X.env)::starEach es X.env:=by rfl):PA X (e::es) (qlU te t):=by
 intro pos pins s σ H Q I h;rw[hs];show wpAny _ _ (spliced ((false,eval e X.env)::backTo pos (starEach es X.env))) _ _ s;refine Calls.spliced_cons (thn (ha pins s σ H _ I h) fun u s1 zz_=>?_);obtain⟨x,H1,I1,r1,q1⟩:=zz_;exact thn (hr pos pins s1 σ H1 _ I1 q1) fun us s2 ⟨xs,H2,I2,r2,q2⟩=>⟨x::xs,H2,I2,.cons r1 r2,q2⟩
def qmT (t:TA):TE:=fun σ H Q=>t σ H fun xs H1=>xs.length≤sizeLine∧∀ p,H1 p=none->Q (.ref p) (upd H1 p (.tup xs))
def qmW (t:TA):TE:=fun σ H Q=>t σ H fun xs H1=>xs.length≤sizeLine∧∀ p,H1 p=none->Q (.ref p) (upd H1 p (.lst xs))
theorem qV {x1} (h:PA X es t):PE X (.Tuple es x1 pos) (qmT t):=by
 intro pins s σ H Q I hq;refine wpAny_Tuple_spliced (thn (h pos pins s σ H _ I hq) fun us s1 ⟨xs,H1,I1,r,z,q⟩=>⟨by rw[← r.length];exact z,?_⟩);have hf:H1 s1.heap.objs.size=none:=I1.hok.fresh (Nat.le_refl _);refine⟨.ref s1.heap.objs.size,upd H1 s1.heap.objs.size (.tup xs),I1.laid (t':=s1.toks) (fun b u e=>Heap.get?_push_of_some _ e) (Nat.le_refl _) ?_,rfl,q _ hf⟩;exact⟨z,us,r,⟨_,Heap.get?_push_size _ rfl,rfl,_,rfl⟩⟩
theorem qJ (h:PA X es t):PE X (.List es pos) (qmW t):=by
 intro pins s σ H Q I hq;refine wpAny_List_spliced (thn (h pos pins s σ H _ I hq) fun us s1 ⟨xs,H1,I1,r,z,q⟩=>⟨by rw[← r.length];exact z,?_⟩);have hf:H1 s1.heap.objs.size=none:=I1.hok.fresh (Nat.le_refl _);refine⟨.ref s1.heap.objs.size,upd H1 s1.heap.objs.size (.lst xs),I1.laid (t':=s1.toks) (fun b u e=>Heap.get?_push_of_some _ e) (Nat.le_refl _) ?_,rfl,q _ hf⟩;exact⟨z,us,0,r,Heap.get?_push_size _ rfl⟩
end
abbrev Sp:=List V->Hp->VK->XK->Prop
abbrev CXT:=List Env->Hp->Shared->XK->Value->Shared->Prop
structure Env0 (P:Program) (w:World) (K:Frag) (mg:Str->Option Value) (base:Heap) (A:Around) (outer:List Env) (s:Shared) (H:Hp):Prop where
 frames:A.frames=some outer
 mod:Mod K mg base
 bs:∀ b o,base.get? b=some o->s.heap.get? b=some o∧H b=none
 bsz:base.objs.size≤s.heap.objs.size
 funs:s.heap.FunFrames base outer
 frf:∀ b∈frs outer,H b=none
 hok:HOk P w H s.heap
 bare:AllBare s.gens
def CE (outer:List Env) (P:Program) (w:World) (H:Hp) (s:Shared) (Q:VK) (u:Value) (s':Shared):Prop :=
 ∃ v H',s'.os=s.os∧AllBare s'.gens∧Un (frs outer) [] H H' s.heap s'.heap∧HOk P w H' s'.heap∧RelV v u∧Q v H'
def CR (CX:CXT) (outer:List Env) (P:Program) (w:World) (H:Hp) (s:Shared) (Q:VK) (E:XK) (r:Result) (s':Shared):Prop :=
 match r with
 | .ok (.ret u)=>CE outer P w H s Q u s'
 | .ok _=>False
 | .error e=>CX outer H s E e s'
structure qD (P:Program) (w:World) (K:Frag) (mg:Str->Option Value) (base:Heap) (CX:CXT) (k:Nat) (f:Addr) (fd:FuncData) (ps:List Str) (sp:Sp):Prop where
 len:∀ vs H Q E,sp vs H Q E->vs.length=ps.length
 run:∀ (A:Around) (outer:List Env) (s:Shared) (H:Hp) (args:Args) (us:List Value) (vs:List V) (Q:VK) (E:XK),Room k A->Env0 P w K mg base A outer s H->BindsTo s fd args (ps.zip us)->Vals vs us->sp vs H Q E ->
   codeAny (model P w) A (.call (.ref f) args) (CR CX outer P w H s Q E) s
theorem Env0.make {P:Program}{w:World}{K:Frag}{mg:Str->Option Value}{base:Heap}{A:Around}{outer:List Env}{s:Shared}{H:Hp} (e:Env0 P w K mg base A outer s H) (C:Addr) (us:List Value) (kw:List (Str×Value)) :
   Env0 P w K mg base (A.under (.builtin "type.__call__" ⟨.ref C::us,kw⟩)) outer s H:=⟨by first|exact e.frames|(simpa[Around.under,Code.envs,Code.isFrame,pushEnvs] using e.frames),e.mod,e.bs,e.bsz,e.funs,e.frf,e.hok,e.bare⟩
section
variable {X:Cx}{pins:List (Addr×Obj)}{σ:St}{H:Hp}{s s':Shared}
theorem Inv.env0 (I:Inv X pins σ H s):Env0 X.prog X.w X.K X.mg X.base X.A X.stack s H :=
 ⟨I.ok.frames,I.ok.mod,I.bs,Nat.le_trans I.ok.bsz I.sz,I.stack,I.stkFree,I.hok,I.bare⟩
theorem Inv.after {Q:VK}{u:Value} (I:Inv X pins σ H s) (h:CE X.stack X.prog X.w H s Q u s'):EP X pins σ Q u s':=by
 obtain⟨v,H',os,bare,un,hok,r,q⟩:=h;obtain⟨hh,g,d,t,os'⟩:=s';obtain rfl:os'=s.os:=os;exact⟨v,H',I.call (h':=hh) (g':=g) (d':=d) (t':=t) (ch:=[]) un hok bare (fun b z=>absurd z (by simp)),r,q⟩
end
def qkG (sp:Sp) (dvs:List V) (E:XK) (t:TA):TE:=fun σ H Q=>t σ H fun vs H1=>sp (vs++dvs) H1 Q E
inductive qfO (C:Addr) (m:Str) (sp:Sp) (dvs:List V) (E:XK) (t:TA) (σ:St) (Q:VK) (x:V) (H1:Hp):Prop
 | mk (a dx fs:_) (h1:x=.ref a) (h2:H1 a=some (.ins C dx fs)) (h3:fs.lookup m=none) (h4:t σ H1 fun vs H2=>sp (x::(vs++dvs)) H2 Q E):qfO C m sp dvs E t σ Q x H1
def QF (C:Addr) (m:Str) (sp:Sp) (dvs:List V) (E:XK) (ta:TE) (t:TA):TE:=fun σ H Q=>ta σ H fun x H1=>qfO C m sp dvs E t σ Q x H1
def qlR (C:Addr) (sp:Sp) (dvs:List V) (E:XK) (t:TA):TE:=fun σ H Q=>t σ H fun vs H1=>∀ x dx,H1 x=none->H1 dx=none->dx≠x ->
 sp (.ref x::(vs++dvs)) (upd (upd H1 dx (.own x)) x (.ins C dx [])) (fun v H2=>v=.non∧Q (.ref x) H2) E
def Binds (K:Frag) (fd:FuncData) (ps:List Str) (ds:List Value):Prop :=
 ∀ (s:Shared) (us:List Value),K.In s.heap->(us++ds).length=ps.length->BindsTo s fd ⟨us,[]⟩ (ps.zip (us++ds))
theorem Binds.all {K:Frag}{fd:FuncData}{ps:List Str} (h:∀ us:List Value,us.length=ps.length->bindArgs fd ⟨us,[]⟩=pure (ps.zip us)):Binds K fd ps []:=fun s us _ hl=>by
 rw[List.append_nil]at hl ⊢;exact .of_eq (h us hl)
def j4 (CX:CXT) (X:Cx) (E:XK):Prop:=∀ (pins:List (Addr×Obj)) (σ:St) (H:Hp) (s:Shared) (e:Value) (s':Shared),Inv X pins σ H s->CX X.stack H s E e s'->X.xe e s'
section
variable {X:Cx}{CX:CXT}{k:Nat}{f C:Addr}{fd:FuncData}{ps:List Str}{sp:Sp}{dvs:List V}{ds:List Value}{E:XK}{x m:Str}{p pos apos:Pos}{e o:Expr}{es:List Expr}{ta:TE}{t:TA}
theorem qev {pins:List (Addr×Obj)}{σ:St}{H:Hp}{s:Shared}{Q:VK}{us:List Value}{vs:List V} (F:qD X.prog X.w X.K X.mg X.base CX k f fd ps sp) (hr:Room k X.A) (hb:Binds X.K fd ps ds) (hd:Vals dvs ds) (hx:j4 CX X E)
   (I:Inv X pins σ H s) (r:Vals vs us) (h:sp (vs++dvs) H Q E):wpAny (model X.prog X.w) X.A (call (.ref f) us) (EP X pins σ Q) X.xe s:=by
 have r2:Vals (vs++dvs) (us++ds):=r.append hd;have hl:(us++ds).length=ps.length:=by rw[← r2.length];exact F.len _ _ _ _ h
 refine wpAny_call (codeAny_mono (F.run X.A X.stack s H ⟨us,[]⟩ (us++ds) (vs++dvs) Q E hr I.env0 (hb s us I.kIn hl) r2 h) fun r s' hq=>?_)
 cases r with
 | error e=>exact hx pins σ H s e s' I hq
 | ok fl =>
   cases fl with
   | ret u=>exact I.after hq
   | next=>exact False.elim hq
   | brk=>exact False.elim hq
   | cont=>exact False.elim hq
theorem qh (F:qD X.prog X.w X.K X.mg X.base CX k f fd ps sp) (hr:Room k X.A) (hg:Gl X x) (hm:X.mg x=some (.ref f)) (hk:keepIn X.K (.ref f)=true) (hb:Binds X.K fd ps ds) (hd:Vals dvs ds) (hx:j4 CX X E)
   (ha:PA X (e::es) t) (hdb:(x == ("__debug__":Str))=false:=by decide) (he:starEach (e::es) X.env=(false,eval e X.env)::starEach es X.env:=by rfl) (hpl:(backTo pos (starEach es X.env)).any (·.1)=false:=by rfl) :
   PE X (.Call (.Name x p) (e::es) [] pos) (qkG sp dvs E t):=by
 intro pins s σ H Q I h;refine wpAny_Call_Name_kw (Jg I hg hm ?_ hdb);refine callWith_K (h₀:=X.base) I.ok.mod.kin hk (thn (ha pos pins s σ H _ I h) fun us s1 ⟨vs,H1,I1,r,q⟩=>⟨I1.kIn,?_⟩) he hpl;exact qev F hr hb hd hx I1 r q
theorem zV {pl:Sem Bool} (he:PE X o ta) (c:Cls X.K C) (hm:qhw X.K C m f) (F:qD X.prog X.w X.K X.mg X.base CX k f fd ps sp) (hr:Room k X.A) (hb:Binds X.K fd ps ds) (hd:Vals dvs ds) (hx:j4 CX X E) (ha:PA X (e::es) t)
   (hst:starEach (e::es) X.env=(false,eval e X.env)::starEach es X.env:=by rfl) (hpl:(backTo pos (starEach es X.env)).any (·.1)=false:=by rfl)
   (ht:eval (.Call (.Attribute o m apos) (e::es) [] pos) X.env=(do
     let ov ← eval o X.env
     standAt apos.atName
     let (f,first) ← holding [ov] (getMethod ov m pl)
     callWith pos f first (backTo pos (starEach (e::es) X.env)) (backToKw pos (keywordEach [] X.env))):=by rfl) :
   PE X (.Call (.Attribute o m apos) (e::es) [] pos) (QF C m sp dvs E ta t):=by
 intro pins s σ H Q I h;refine PySem.W.methodCall_KW (pl:=pl) (thn (he pins s σ H _ I h) fun u s1 zz_=>?_) ht;obtain⟨x,H1,I1,rx,a,dx,fs,ex,ea,l,q⟩:=zz_;subst ex;obtain rfl:u=Value.ref a:=rx;refine Jj I1 ea c hm l ?_;refine callWith_K (first:=[.ref a]) (h₀:=X.base) I.ok.mod.kin hm.kp (thn (ha pos pins s1 σ H1 _ I1 q) fun us s2 ⟨vs,H2,I2,r,q2⟩=>⟨I2.kIn,?_⟩) hst hpl;exact qev (us:=.ref a::us) (vs:=.ref a::vs) F hr hb hd hx I2 (.cons rfl r) q2
theorem qG {pl:Sem Bool} (he:PE X o ta) (c:Cls X.K C) (hm:qhw X.K C m f) (F:qD X.prog X.w X.K X.mg X.base CX k f fd ps sp) (hr:Room k X.A) (hb:Binds X.K fd ps ds) (hd:Vals dvs ds) (hx:j4 CX X E)
   (ht:eval (.Call (.Attribute o m apos) [] [] pos) X.env=(do
     let ov ← eval o X.env
     standAt apos.atName
     let (f,first) ← holding [ov] (getMethod ov m pl)
     callWith pos f first (backTo pos (starEach [] X.env)) (backToKw pos (keywordEach [] X.env))):=by rfl) :
   PE X (.Call (.Attribute o m apos) [] [] pos) (QF C m sp dvs E ta qfN):=by
 intro pins s σ H Q I h;refine PySem.W.methodCall_KW (pl:=pl) (thn (he pins s σ H _ I h) fun u s1 zz_=>?_) ht;obtain⟨x,H1,I1,rx,a,dx,fs,ex,ea,l,q⟩:=zz_;subst ex;obtain rfl:u=Value.ref a:=rx;refine Jj I1 ea c hm l ?_;exact PySem.W.callWith_K0 (first:=[.ref a]) I1.kIn hm.kp (qev (us:=[.ref a]) (vs:=[.ref a]) F hr hb hd hx I1 (.cons rfl .nil) q)
structure Mk (K:Frag) (C f:Addr):Prop where
 makes:makesIn K C=true
 init:findIn K (.ref C) "__init__"=some (some (.ref f))
 fn:isFn K (.ref f)=true
 kp:keepIn K (.ref C)=true
theorem qhS {pins:List (Addr×Obj)}{σ:St}{H:Hp}{s:Shared}{Q:VK}{us:List Value}{vs:List V} (M:Mk X.K C f) (F:qD X.prog X.w X.K X.mg X.base CX k f fd ps sp) (hr:Room (k+1) X.A) (hb:Binds X.K fd ps ds) (hd:Vals dvs ds)
   (hx:j4 CX X E) (I:Inv X pins σ H s) (r:Vals vs us)
   (h:∀ x dx,H x=none->H dx=none->dx≠x->sp (.ref x::(vs++dvs)) (upd (upd H dx (.own x)) x (.ins C dx [])) (fun v H2=>v=.non∧Q (.ref x) H2) E) :
   wpAny (model X.prog X.w) X.A (call (.ref C) us) (EP X pins σ Q) X.xe s:=by
 have hq:=h (s.heap.objs.size+1) s.heap.objs.size (I.hok.fresh (Nat.le_succ _)) (I.hok.fresh (Nat.le_refl _)) (Nat.ne_of_lt (Nat.lt_succ_self _));have I2:=Inv.made (C:=C) I;have r2:Vals (V.ref (s.heap.objs.size+1)::(vs++dvs)) (Value.ref (s.heap.objs.size+1)::(us++ds)):=.cons rfl (r.append hd)
 have hl:(Value.ref (s.heap.objs.size+1)::us++ds).length=ps.length:=by
   have e:=r2.length;rw[F.len _ _ _ _ hq]at e;exact e.symm
 refine wpAny_call (qij (f:=f) I.kIn M.makes M.init (beq_iff_eq.mp M.fn) (codeAny_mono (F.run _ X.stack _ _ ⟨Value.ref (s.heap.objs.size+1)::us,[]⟩ (Value.ref (s.heap.objs.size+1)::(us++ds)) _ _ E (hr.make C us [])
   (I2.env0.make C us []) (hb _ (Value.ref (s.heap.objs.size+1)::us) I2.kIn hl) r2 hq) fun r s' hq'=>?_))
 cases r with
 | error e=>exact hx pins σ _ _ e s' I2 hq'
 | ok fl =>
   cases fl with
   | ret u =>
     obtain⟨v,H',I3,rv,ev,q3⟩:=I2.after hq';subst ev;exact⟨rv,⟨V.ref (s.heap.objs.size+1),H',I3,rfl,q3⟩⟩
   | next=>exact False.elim hq'
   | brk=>exact False.elim hq'
   | cont=>exact False.elim hq'
theorem QY (M:Mk X.K C f) (F:qD X.prog X.w X.K X.mg X.base CX k f fd ps sp) (hr:Room (k+1) X.A) (hg:Gl X x) (hm:X.mg x=some (.ref C)) (hb:Binds X.K fd ps ds) (hd:Vals dvs ds) (hx:j4 CX X E)
   (ha:PA X (e::es) t) (hdb:(x == ("__debug__":Str))=false:=by decide) (he:starEach (e::es) X.env=(false,eval e X.env)::starEach es X.env:=by rfl) (hpl:(backTo pos (starEach es X.env)).any (·.1)=false:=by rfl) :
   PE X (.Call (.Name x p) (e::es) [] pos) (qlR C sp dvs E t):=by
 intro pins s σ H Q I h;refine wpAny_Call_Name_kw (Jg I hg hm ?_ hdb);refine callWith_K (h₀:=X.base) I.ok.mod.kin M.kp (thn (ha pos pins s σ H _ I h) fun us s1 ⟨vs,H1,I1,r,q⟩=>⟨I1.kIn,?_⟩) he hpl;exact qhS M F hr hb hd hx I1 r q
end
section
variable {X:Cx}{CX:CXT}{k:Nat}{f C:Addr}{fd:FuncData}{ps ks:List Str}{sp:Sp}{E:XK}{x m:Str}{p pos apos kpos:Pos}{e o:Expr}{es:List Expr}{kws:List Keyword}{te ta:TE}{t tk:TA}{nm:Option Str}
variable {g:List Value->List Value->List Value}{gV:List V->List V->List V}
end
structure qo (N P:List Str) (sc:Scope):Prop where
 kind:sc.kind=.function
 co:sc.isCoroutine=false
 gen:sc.isGenerator=false
 nd:N.Nodup
 pre:N.take P.length=P
 par:∀ x∈P,sc.names.lookup x=some .local∨sc.names.lookup x=some .cell
 nofree:∀ y∈sc.names,y.2≠.free
theorem qdC {kindOf:Str->Option NameKind}{x:Str}:∀ {binds:List (Str×Value)}{m:Str->Option Value},(∀ v,(x,v)∉binds)->bindL kindOf binds m x=m x
 | [],_,_=>rfl
 | (n,v)::r,m,h=>by
   unfold bindL;rw[qdC fun w hw=>h w (List.mem_cons_of_mem _ hw)];split
   · have:x≠n:=by rintro rfl;exact h v List.mem_cons_self
     simp[this]
   · rfl
theorem qdE {kindOf:Str->Option NameKind}{x:Str}:∀ {binds:List (Str×Value)}{m:Str->Option Value},(∀ v,(x,v)∉binds)->bindC kindOf binds m x=m x
 | [],_,_=>rfl
 | (n,v)::r,m,h=>by
   unfold bindC;rw[qdE fun w hw=>h w (List.mem_cons_of_mem _ hw)];split
   · rfl
   · have:x≠n:=by rintro rfl;exact h v List.mem_cons_self
     simp[this]
theorem qdD {kindOf:Str->Option NameKind}{x:Str}{v:Value}:∀ {P:List Str}{vs:List Value}{i:Nat}{m:Str->Option Value},P.Nodup->P[i]?=some x->vs[i]?=some v->kindOf x=some .local ->
   bindL kindOf (P.zip vs) m x=some v
 | [],_,_,_,_,h,_,_=>by simp at h
 | _::_,[],_,_,_,_,h,_=>by simp at h
 | p::P,w::vs,0,m,nd,h1,h2,hk=>by
   simp at h1 h2;subst h1;subst h2;show bindL kindOf ((p,w)::P.zip vs) m p=_;unfold bindL;rw[qdC fun v hv=>(List.nodup_cons.mp nd).1 (List.of_mem_zip hv).1,if_pos hk];simp
 | p::P,w::vs,i+1,m,nd,h1,h2,hk=>by
   show bindL kindOf ((p,w)::P.zip vs) m x=_;unfold bindL;exact qdD (i:=i) (List.nodup_cons.mp nd).2 (by simpa using h1) (by simpa using h2) hk
theorem qdF {kindOf:Str->Option NameKind}{x:Str}{v:Value}:∀ {P:List Str}{vs:List Value}{i:Nat}{m:Str->Option Value},P.Nodup->P[i]?=some x->vs[i]?=some v->kindOf x≠some .local ->
   bindC kindOf (P.zip vs) m x=some v
 | [],_,_,_,_,h,_,_=>by simp at h
 | _::_,[],_,_,_,_,h,_=>by simp at h
 | p::P,w::vs,0,m,nd,h1,h2,hk=>by
   simp at h1 h2;subst h1;subst h2;show bindC kindOf ((p,w)::P.zip vs) m p=_;unfold bindC;rw[qdE fun v hv=>(List.nodup_cons.mp nd).1 (List.of_mem_zip hv).1,if_neg hk];simp
 | p::P,w::vs,i+1,m,nd,h1,h2,hk=>by
   show bindC kindOf ((p,w)::P.zip vs) m x=_;unfold bindC;exact qdF (i:=i) (List.nodup_cons.mp nd).2 (by simpa using h1) (by simpa using h2) hk
def j6 (N:List Str) (vs:List V):St:=vs.map some++List.replicate (N.length - vs.length) none
def zb (CX:CXT) (P:Program) (w:World) (K:Frag) (mg:Str->Option Value) (base:Heap) (N:List Str) (qual:Str) (scope:Scope) (f:Addr) (cd:Value) (A:Around) (outer:List Env) (s:Shared) (H:Hp) (E:XK):Cx where
 prog:=P
 w:=w
 K:=K
 mg:=mg
 base:=base
 A:=A.deeper (envOfC qual scope s.heap.objs.size f cd)
 N:=N
 s₀:=s
 H₀:=H
 env:=envOfC qual scope s.heap.objs.size f cd
 outer:=outer
 stack:=envOfC qual scope s.heap.objs.size f cd::outer
 ex:=[]
 calm:=true
 fn:=fun _=>true
 pn:=[]
 xe:=fun e s'=>wpAny (model P w) (A.deeper (envOfC qual scope s.heap.objs.size f cd)) (leaving (envOfC qual scope s.heap.objs.size f cd) e) (fun _ s''=>CX outer H s E e s'') (fun e' s''=>CX outer H s E e' s'') s'
theorem qcD {sc:Scope}{n:Nat}{x:Str} (h:sc.names.lookup x=some .cell):∃ c,(cellsFrom n sc.names []).lookup x=some c:=by
 have q:=PySem.W.cellsFrom_some sc.names n [] (.inl h);exact Option.isSome_iff_exists.mp q
theorem qdt {CX:CXT}{P:Program}{w:World}{K:Frag}{mg:Str->Option Value}{base:Heap}{N ps:List Str}{qual:Str}{scope:Scope}{f:Addr}{cd:Value}{A:Around}{outer:List Env}{s s1:Shared}{H:Hp}{E:XK}{us:List Value}{vs:List V}
   (S:qo N ps scope) (hd:A.handled=none) (e0:Env0 P w K mg base A outer s H) (hl:vs.length=ps.length) (r:Vals vs us)
   (x:InCallC s s.heap.objs.size (bindL (envOfC qual scope s.heap.objs.size f cd).kindOf (ps.zip us) fun _=>none) (cellsFrom (s.heap.objs.size+1) scope.names []) (bindC (envOfC qual scope s.heap.objs.size f cd).kindOf (ps.zip us) fun _=>none) s1) :
   Inv (zb CX P w K mg base N qual scope f cd A outer s H E) [] (j6 N vs) H s1:=by
 have hpl:ps.length≤N.length:=by have:=congrArg List.length S.pre;rw[List.length_take]at this;omega
 obtain⟨h1,tk,rfl,hk⟩:=x.done;have noA:∀ b:Addr,b∉(zb CX P w K mg base N qual scope f cd A outer s H E).ex:=fun b z=>absurd (show b∈([]:List Addr) from z) (by simp)
 refine⟨⟨e0.mod,S.kind,rfl,rfl,Nat.le_refl _,fun y z c h1 h2=>?_,fun y hy=>?_,fun y c _ h=>?_,fun _=>hd,Around.frames_deeper e0.frames,.inr ⟨rfl,rfl⟩,fun b z=>absurd z (noA b),e0.bs,e0.bsz,fun b _ _=>noA b,fun b z=>absurd z (noA b),e0.funs,e0.frf⟩,
   rfl,e0.bare,Un.kept hk,⟨_,x.toInCall.ns,fun i y v h1 h2 h3=>?_⟩,fun y c h=>⟨_,x.cell y c h⟩,e0.hok.fresh (Nat.le_refl _),fun y c h=>?_,fun p hp=>absurd (show p∈([]:List (Addr×Obj)) from hp) (by simp),e0.hok.kept hk,?_⟩
 · exact name_of_addr x.apart (PySem.mem_of_lookup h1) (PySem.mem_of_lookup h2)
 · have hy:scope.names.lookup y=some .cell∨scope.names.lookup y=some .free:=hy;rcases hy with hy|hy
   · exact qcD hy
   · exact absurd rfl (S.nofree _ (PySem.mem_of_lookup hy))
 · exact Nat.le_of_lt (x.above y c (PySem.mem_of_lookup h))
 · have hi:i < vs.length:=by
     unfold j6 at h2;by_cases hi:i < vs.length
     · exact hi
     · rw[List.getElem?_append_right (by simpa using hi)]at h2;rw[List.getElem?_replicate]at h2;split at h2<;>cases h2
   have ha:vs[i]?=some v:=by
     unfold j6 at h2;rw[List.getElem?_append_left (by simpa using hi),List.getElem?_map]at h2
     cases e:vs[i]? with
     | none=>rw[e]at h2;cases h2
     | some a=>rw[e]at h2;cases h2;rfl
   obtain⟨u,hu,rv⟩:=r.get ha
   have hp:ps[i]?=some y:=by
     rw[← S.pre,List.getElem?_take_of_lt (by omega)];exact h1
   have ndP:ps.Nodup:=by rw[← S.pre];exact S.nd.sublist (List.take_sublist _ _)
   refine⟨u,rv,?_⟩;rcases S.par y (List.mem_of_getElem? hp) with k|k
   · exact .inl ⟨k,qdD ndP hp hu k⟩
   · obtain⟨c,e⟩:=qcD (n:=s.heap.objs.size+1) k;refine .inr ⟨.inl k,c,e,?_⟩;have q:=x.cell y c e;rw[qdF ndP hp hu (by show scope.names.lookup y≠_;rw[k];decide)]at q;exact q
 · exact e0.hok.fresh (Nat.le_of_lt (x.above y c (PySem.mem_of_lookup h)))
 · unfold j6;show _=N.length;rw[List.length_append,List.length_map,List.length_replicate];omega
theorem qlm {CX:CXT}{P:Program}{w:World}{K:Frag}{mg:Str->Option Value}{base:Heap}{k:Nat}{f:Addr}{name qual:Str}{params:Arguments}{body:List Stmt}{scope:Scope}{dV kV doc pm cdv ct oc:Value}{an od:Option Addr}
   {osl:Array (Option Value)}{N ps:List Str}{sp:Sp} (lk:K.lookup f=some ⟨oc,od,.func (fnOf name qual params body scope dV kV doc pm an cdv ct),osl⟩) (hcd:PySem.W.codeIn K cdv qual=true) (S:qo N ps scope)
   (len:∀ vs H Q E,sp vs H Q E->vs.length=ps.length)
   (hbody:∀ (A:Around) (outer:List Env) (s:Shared) (H:Hp) (vs:List V) (Q:VK) (E:XK),Room k (A.deeper (envOfC qual scope s.heap.objs.size f cdv))->sp vs H Q E ->
     ∃ t,PSs (zb CX P w K mg base N qual scope f cdv A outer s H E) body t∧t { nx:=fun _ H'=>Q .non H',rt:=Q } (j6 N vs) H) :
   qD P w K mg base CX (k+1) f (fnOf name qual params body scope dV kV doc pm an cdv ct) ps sp:=by
 refine⟨len,fun A outer s H args us vs Q E hr e0 hb r hsp=>?_⟩;have hl:=len _ _ _ _ hsp;have KX:K.In s.heap:=e0.mod.kin.keeps fun b o e=>(e0.bs b o e).1;have lim:s.heap.NoLimit:=e0.mod.nolimit.keeps fun b o e=>(e0.bs b o e).1
 have hkind:∀ y∈ps.zip us,scope.names.lookup y.1=some .local∨(scope.names.lookup y.1=some .cell∧((cellsFrom (s.heap.objs.size+1) scope.names []).lookup y.1).isSome=true):=fun⟨n,v⟩ hy=>by
   rcases S.par n (List.of_mem_zip hy).1 with q|q
   · exact .inl q
   · exact .inr ⟨q,PySem.W.cellsFrom_some _ _ _ (.inl q)⟩
 refine codeAny_call_function hr.depth (KX _ _ lk) rfl S.co S.gen rfl (PySem.W.codeRec_of KX hcd) (hb _ _ _ _ ?_);refine wpAny_newFunctionEnv_cells S.kind hkind fun env he s1 x=>?_;subst he;refine⟨lim.keeps x.toInCall.keep,codeAny_func ?_⟩;obtain⟨t,ht,hq⟩:=hbody A outer s H vs Q E (hr.deeper _) hsp;have I:Inv (zb CX P w K mg base N qual scope f cdv A outer s H E) [] (j6 N vs) H s1:=qdt S hr.hd e0 hl r x;refine wpAny_mono (ht [] s1 (j6 N vs) H _ I hq) (fun fl s' hs=>?_) fun e s' hs=>hs
 have fin:∀ {σ':St}{H':Hp}{v:V}{u:Value},Inv (zb CX P w K mg base N qual scope f cdv A outer s H E) [] σ' H' s'->RelV v u->Q v H'->CE outer P w H s Q u s' :=
   fun {σ' H' v u} J rv q=>⟨v,H',J.os,J.bare,J.base,J.hok,rv,q⟩
 cases fl with
 | ret u =>
   obtain⟨v,σ',H',J,rv,q⟩:=hs;exact fin J rv q
 | next =>
   obtain⟨σ',H',J,q⟩:=hs;exact fin (v:=V.non) (u:=Value.none) J rfl q
 | brk =>
   obtain⟨_,_,_,q⟩:=hs;exact False.elim q
 | cont =>
   obtain⟨_,_,_,q⟩:=hs;exact False.elim q
section
variable {X:Cx}{x:Str}{p pos:Pos}{e:Expr}{es:List Expr}{t:TA}{id T:String}{r:List V->Hp->VK->Prop}
def tCB (r:List V->Hp->VK->Prop) (t:TA):TE:=fun σ H Q=>t σ H fun vs H1=>r vs H1 Q
theorem qm (hc:CallR X (.builtin id) r) (hg:Gl X x) (hm:X.mg x=none) (hv:bootBuiltins x=some (.builtin id)) (ha:PA X (e::es) t) (hn:x≠"__name__":=by decide) (hdb:(x == ("__debug__":Str))=false:=by decide)
   (he:starEach (e::es) X.env=(false,eval e X.env)::starEach es X.env:=by rfl) (hpl:(backTo pos (starEach es X.env)).any (·.1)=false:=by rfl):PE X (.Call (.Name x p) (e::es) [] pos) (tCB r t):=by
 intro pins s σ H Q I h;refine wpAny_Call_Name_kw (JQ I hg hm hv ?_ hn hdb);exact PyProof.Rows.callWith_builtin1 (thn (ha pos pins s σ H _ I h) fun us s1 ⟨vs,H1,I1,r1,q1⟩=>hc pins s1 σ H1 vs us Q I1 r1 q1) he hpl
theorem zB (hc:CallR X (.type T) r) (hg:Gl X x) (hm:X.mg x=none) (hv:bootBuiltins x=some (.type T)) (ha:PA X (e::es) t) (hn:x≠"__name__":=by decide) (hdb:(x == ("__debug__":Str))=false:=by decide)
   (he:starEach (e::es) X.env=(false,eval e X.env)::starEach es X.env:=by rfl) (hpl:(backTo pos (starEach es X.env)).any (·.1)=false:=by rfl):PE X (.Call (.Name x p) (e::es) [] pos) (tCB r t):=by
 intro pins s σ H Q I h;refine wpAny_Call_Name_kw (JQ I hg hm hv ?_ hn hdb);exact PyProof.Rows.callWith_type1 (thn (ha pos pins s σ H _ I h) fun us s1 ⟨vs,H1,I1,r1,q1⟩=>hc pins s1 σ H1 vs us Q I1 r1 q1) he hpl
end
end L2
namespace HT
open PySem PyProof.Rows
section
open PySem.SeqAt
open PySem.AutoSeq1 (wpAny_loadPart')
open PySem.MeetsSeq PySem.MeetsSeq2 PySem.MeetsSeq3
end
section
variable {prog:Program}{w:World}{A:Around}{E:Value->Shared->Prop}{s:Shared}
def sIx (n d:Nat):Option Int->Nat
 | none=>d
 | some v=>if v < 0 then (v+(n:Int)).toNat else min v.toNat n
theorem sIx_none (n d:Nat):sIx n d none=d:=rfl
theorem sIx_nat (n d k:Nat):sIx n d (some (k:Int))=min k n:=by
 show (if (k:Int) < 0 then ((k:Int)+(n:Int)).toNat else min (k:Int).toNat n)=min k n;rw[if_neg (by omega),Int.toNat_natCast]
end
end HT
namespace L2
open PySem PySem.Spec PyProof.Rows
open PySem.W (Frag)
abbrev TO:=St->Hp->(Option Int->Hp->Prop)->Prop
def PO (X:Cx) (e:Option Expr) (t:TO):Prop :=
 ∀ (pins:List (Addr×Obj)) (s:Shared) (σ:St) (H:Hp) (Q:Option Int->Hp->Prop),Inv X pins σ H s->t σ H Q ->
   wpAny (model X.prog X.w) X.A (evalPart e X.env) (fun u s'=>∃ o H',Inv X pins σ H' s'∧IsPart u o∧Q o H') X.xe s
def qjx:TO:=fun _ H Q=>Q none H
inductive qfL (Q:(Option Int->Hp->Prop)) (x:V) (H1:Hp):Prop
 | mk (i:_) (h1:x=.int i) (h2:Q (some i) H1):qfL Q x H1
def qlP (t:TE):TO:=fun σ H Q=>t σ H fun x H1=>qfL Q x H1
section
variable {X:Cx}{e:Expr}{te:TE}{lo hi:Option Expr}{tl th:TO}{pos p2:Pos}
theorem qaH:PO X none qjx:=by
 intro pins s σ H Q I h;rw[evalPart_none];exact wpAny_pure ⟨none,H,I,.none,h⟩
theorem jo (h:PE X e te):PO X (some e) (qlP te):=by
 intro pins s σ H Q I hw;rw[evalPart_some];refine thn (h pins s σ H _ I hw) fun u s1 zz_=>?_;obtain⟨x,H1,I1,r1,q1⟩:=zz_;obtain⟨i,rfl,q⟩:=q1;obtain⟨t,rfl⟩:=r1;exact⟨some i,H1,I1,.int i t,q⟩
def SlR (X:Cx) (r:V->Option Int->Option Int->Hp->VK->Prop):Prop :=
 ∀ (pins:List (Addr×Obj)) (s:Shared) (σ:St) (H:Hp) (x:V) (v vl vu:Value) (lo hi:Option Int) (sl:Addr) (Q:VK),Inv X pins σ H s->RelV x v->s.heap.IsSliceOf sl vl vu .none->IsPart vl lo->IsPart vu hi->r x lo hi H Q ->
   ∃ T id,typeLookup (.type T) "__getitem__"=pure (some (.builtin id))∧s.TypeIs v T∧wpAny (model X.prog X.w) X.A (getItem v (.ref sl)) (EP X pins σ Q) X.xe s
theorem SlR.or {r r':V->Option Int->Option Int->Hp->VK->Prop} (h:SlR X r) (h':SlR X r'):SlR X (fun x lo hi H Q=>r x lo hi H Q∨r' x lo hi H Q):=by
 intro pins s σ H x v vl vu lo hi sl Q I rx hs pl pu q;rcases q with q|q
 · exact h pins s σ H x v vl vu lo hi sl Q I rx hs pl pu q
 · exact h' pins s σ H x v vl vu lo hi sl Q I rx hs pl pu q
def tSl (r:V->Option Int->Option Int->Hp->VK->Prop) (te:TE) (tl th:TO):TE:=fun σ H Q=>te σ H fun x H1=>tl σ H1 fun l H2=>th σ H2 fun u H3=>r x l u H3 Q
theorem ZN {r:V->Option Int->Option Int->Hp->VK->Prop} (hr:SlR X r) (he:PE X e te) (hl:PO X lo tl) (hu:PO X hi th):PE X (.Subscript e (.Slice lo hi none p2) pos) (tSl r te tl th):=by
 intro pins s σ H Q I h;refine Subscript_ (thn (he pins s σ H _ I h) fun v s1 zz_=>?_);obtain⟨x,H1,I1,r1,q1⟩:=zz_;refine wpAny_Slice (thn (hl pins s1 σ H1 _ I1 q1) fun vl s2 ⟨l,H2,I2,pl,q2⟩=>thn (hu pins s2 σ H2 _ I2 q2) fun vu s3 zz_=>?_);obtain⟨u,H3,I3,pu,q3⟩:=zz_;rw[evalPart_none];refine wpAny_pure ?_;have I4:Inv X pins σ H3 { s3 with heap:=s3.heap.push { cls:=.type "slice",data:=.fields #[vl,vu,.none] } }:=I3.kept (t':=s3.toks) fun b ob q=>Heap.get?_push_of_some _ q;obtain⟨T,id,hT,ht,hg⟩:=hr pins { s3 with heap:=s3.heap.push { cls:=.type "slice",data:=.fields #[vl,vu,.none] } } σ H3 x v vl vu l u s3.heap.objs.size Q I4 r1 (Heap.IsSliceOf.new ..) pl pu q3;show wpAny (model X.prog X.w) X.A (subscriptTail e (.Slice lo hi none p2) v (.ref s3.heap.objs.size)) (EP X pins σ Q) X.xe { s3 with heap:=s3.heap.push { cls:=.type "slice",data:=.fields #[vl,vu,.none] } };exact tail_any (ops:=[.ref s3.heap.objs.size,v]) ht hT hg (by with_unfolding_all rfl)
def qfz (xs:List V) (lo hi:Option Int):List V:=(xs.drop (HT.sIx xs.length 0 lo)).take (HT.sIx xs.length xs.length hi - HT.sIx xs.length 0 lo)
theorem qd5 (xs:List V) (lo hi:Option Int):(qfz xs lo hi).length≤xs.length:=by
 unfold qfz;refine Nat.le_trans (List.length_take_le' _ _) ?_;rw[List.length_drop];exact Nat.sub_le _ _
end
def ixN (n:Nat) (i:Int):Option Nat:=if 0≤i then (if i < n then some i.toNat else none) else if -(n:Int)≤i then some (i+n).toNat else none
def atI {α:Type} (xs:List α) (i:Int):Option α:=(ixN xs.length i).bind fun j=>xs[j]?
theorem qgU {n:Nat}{i:Int}{j:Nat} (h:ixN n i=some j):seqIndex? i n=some j∧j < n∧-(n:Int)≤i∧i < n:=by
 unfold ixN at h;by_cases h0:0≤i
 · rw[if_pos h0]at h;by_cases h1:i < n
   · rw[if_pos h1]at h;have e:i.toNat=j:=Option.some.inj h;exact⟨by rw[seqIndex_of h0 h1,e],by omega,by omega,h1⟩
   · rw[if_neg h1]at h;cases h
 · rw[if_neg h0]at h;by_cases h1:-(n:Int)≤i
   · rw[if_pos h1]at h;have e:(i+n).toNat=j:=Option.some.inj h;exact⟨by rw[seqIndex_neg (by omega) h1,e],by omega,h1,by omega⟩
   · rw[if_neg h1]at h;cases h
theorem qd6 {α:Type}{xs:List α}{i:Int}{v:α} (h:atI xs i=some v):∃ j,seqIndex? i xs.length=some j∧xs[j]?=some v∧j < xs.length∧-(xs.length:Int)≤i∧i < xs.length:=by
 unfold atI at h
 cases e:ixN xs.length i with
 | none=>rw[e]at h;cases h
 | some j =>
   rw[e]at h;obtain⟨h1,h2,h3,h4⟩:=qgU e;exact⟨j,h1,h,h2,h3,h4⟩
theorem zo {α:Type}{xs:List α}{j:Nat}{v:α} (h:xs[j]?=some v):atI xs (j:Int)=some v:=by
 have hj:j < xs.length:=(List.getElem?_eq_some_iff.mp h).1
 have e:ixN xs.length (j:Int)=some j:=by
   unfold ixN;rw[if_pos (by omega),if_pos (by omega)];simp
 unfold atI;rw[e];exact h
def qkj (b:Expr):Prop:=∀ o i,subscripted b false o i=operate [o,i] (getItem o i)
def IxR (X:Cx) (r:R2):Prop :=
 ∀ (value slice:Expr) (pins:List (Addr×Obj)) (s:Shared) (σ:St) (H:Hp) (x y:V) (v u:Value) (Q:VK),Inv X pins σ H s->RelV x v->RelV y u->r x y H Q ->
   subscripted slice false v u=operate [v,u] (getItem v u)->wpAny (model X.prog X.w) X.A (subscriptTail value slice v u) (EP X pins σ Q) X.xe s
def MtR (X:Cx) (id:String) (r:V->List V->Hp->VK->Prop):Prop :=
 ∀ (pins:List (Addr×Obj)) (s:Shared) (σ:St) (H:Hp) (x:V) (xs:List V) (v:Value) (us:List Value) (Q:VK),Inv X pins σ H s->RelV x v->Vals xs us->r x xs H Q ->
   wpAny (model X.prog X.w) X.A (call (.builtin id) (v::us)) (EP X pins σ Q) X.xe s
section
variable {X:Cx}{a b:Expr}{ta tb:TE}{pos:Pos}
theorem IxR.or {r r':R2} (h:IxR X r) (h':IxR X r'):IxR X (fun x y H Q=>r x y H Q∨r' x y H Q):=by
 intro value slice pins s σ H x y v u Q I rx ry q hs;rcases q with q|q
 · exact h value slice pins s σ H x y v u Q I rx ry q hs
 · exact h' value slice pins s σ H x y v u Q I rx ry q hs
theorem qz {r:R2} (hr:IxR X r) (ha:PE X a ta) (hb:PE X b tb) (hs:qkj b):PE X (.Subscript a b pos) (tOp r ta tb):=by
 intro pins s σ H Q I h;exact Subscript_ (qmm ha hb I h fun v u s2 x y H2 I2 rx ry q=>hr a b pins s2 σ H2 x y v u Q I2 rx ry q (hs _ _))
inductive qiU (K:Frag) (x:V) (y:V) (H:Hp) (Q:VK):Prop
 | mk (p xs i v:_) (h1:x=.ref p) (h2:y=.int i) (h3:SqL K H p xs) (h4:atI xs i=some v) (h5:Q v H):qiU K x y H Q
def qmB (K:Frag):R2:=fun x y H Q=>qiU K x y H Q
inductive qiT (K:Frag) (x:V) (y:V) (H:Hp) (Q:VK):Prop
 | mk (p xs i v:_) (h1:x=.ref p) (h2:y=.int i) (h3:SqT K H p xs) (h4:atI xs i=some v) (h5:Q v H):qiT K x y H Q
def qmz (K:Frag):R2:=fun x y H Q=>qiT K x y H Q
def qmA:R2:=fun x y H Q=>∃ z i c,x=.str z∧y=.int i∧z.length≤sizeLine∧atI z.cps.toList i=some c∧Q (.str ⟨#[c]⟩) H
theorem ix_list:IxR X (qmB X.K):=by
 intro value slice pins s σ H x y v u Q I rx ry h hs;obtain⟨p,xs,i,z,rfl,rfl,hq,he,q⟩:=h;cases rx;obtain⟨t,rfl⟩:=ry;obtain⟨its,r,pl,hz⟩:=I.list hq;obtain⟨j,h1,h2,h3,h4,h5⟩:=qd6 he;obtain⟨w,ew,rw'⟩:=r.get h2;have hl:=r.length;have hn:=qbT;have fin:EP X pins σ Q w s:=⟨z,H,I,rw',q⟩
 by_cases h0:0≤i
 · have hj:i.toNat=j:=by
     rw[seqIndex_of h0 h5]at h1;exact Option.some.inj h1
   exact item_listR pl.isList h0 (by omega) (by rw[hj];simpa using ew) fin hs
 · have hj:(i+(its.toArray.size:Int)).toNat=j:=by
     rw[seqIndex_neg (by omega) h4]at h1;rw[List.size_toArray,← hl];exact Option.some.inj h1
   exact subscriptTail_builtinR (x:=w) pl.isList.typeIs slot_list_getitem.lookup
     (wpAny_getItem_list_neg (Q:=fun r s'=>r=w∧EP X pins σ Q r s') pl.isList (by omega) (by rw[List.size_toArray]<;>omega) (by omega) (by rw[hj];simpa using ew) ⟨rfl,fin⟩) hs
theorem ix_tup:IxR X (qmz X.K):=by
 intro value slice pins s σ H x y v u Q I rx ry h hs;obtain⟨p,xs,i,z,rfl,rfl,hq,he,q⟩:=h;cases rx;obtain⟨t,rfl⟩:=ry;obtain⟨its,r,pl,hz⟩:=I.tuple hq;obtain⟨j,h1,h2,h3,h4,h5⟩:=qd6 he;obtain⟨w,ew,rw'⟩:=r.get h2;have hl:=r.length;have hn:=qbT;have fin:EP X pins σ Q w s:=⟨z,H,I,rw',q⟩
 exact subscriptTail_builtinR (x:=w) pl.typeIs slot_tuple_getitem.lookup
   (getItem_tuple (j:=j) (Q:=fun r s'=>r=w∧EP X pins σ Q r s') pl (by omega) (by omega) (by rw[List.size_toArray,← hl];exact h1) (by simpa using ew) ⟨rfl,fin⟩) hs
theorem qlh:IxR X qmA:=by
 intro value slice pins s σ H x y v u Q I rx ry h hs;obtain⟨z,i,c,rfl,rfl,hz,he,q⟩:=h;obtain⟨t,rfl⟩:=rx;obtain⟨t',rfl⟩:=ry;obtain⟨j,h1,h2,h3,h4,h5⟩:=qd6 he;have hl:z.cps.toList.length=z.length:=by simp[Str.length]
 rw[hl]at h1 h4 h5;have hn:=qbT
 exact tail_any (typeIs_str s z t) slot_str_getitem.lookup (getItem_str (c:=c) (by
   have e1:decide (i < -(2 ^ 63:Int))=false:=decide_eq_false (by omega);have e2:decide (i ≥ 2 ^ 63)=false:=decide_eq_false (by omega)
   rw[e1,e2,Bool.or_false]) (by rw[h1];simpa using h2) ⟨.str ⟨#[c]⟩,H,I.tok _,⟨_,rfl⟩,q⟩) hs
def rIx (K:Frag):R2:=fun x y H Q=>qmB K x y H Q∨qmz K x y H Q∨qmA x y H Q
theorem qp:IxR X (rIx X.K):=ix_list.or (ix_tup.or qlh)
theorem qfn (its:List Value) (n j:Nat) (u:Value):Obj.mapSeq (·.setIfInBounds j u) { cls:=.type "list",data:=.seq its.toArray n }={ cls:=.type "list",data:=.seq (its.set j u).toArray n }:=by
 simp[Obj.mapSeq]
theorem Inv.lst {pins:List (Addr×Obj)}{σ:St}{H:Hp}{s:Shared}{p:Addr}{xs:List V} (I:Inv X pins σ H s) (h:H p=some (.lst xs)) :
   ∃ (its:List Value) (n:Nat),Vals xs its∧s.heap.get? p=some { cls:=.type "list",data:=.seq its.toArray n }∧xs.length≤sizeLine:=by
 obtain⟨z,its,n,r,e⟩:=I.hok p _ h;exact⟨its,n,r,e,z⟩
theorem Inv.lstUpd {pins:List (Addr×Obj)}{σ:St}{H:Hp}{s:Shared}{p:Addr}{xs ys:List V}{its its':List Value}{n n':Nat}{f:Obj->Obj} (I:Inv X pins σ H s) (h:H p=some (.lst xs))
   (ho:s.heap.get? p=some { cls:=.type "list",data:=.seq its.toArray n }) (hf:f { cls:=.type "list",data:=.seq its.toArray n }={ cls:=.type "list",data:=.seq its'.toArray n' }) (r:Vals ys its') (hz:ys.length≤sizeLine) (t:Nat) :
   Inv X pins σ (upd H p (.lst ys)) { s with heap:=s.heap.update p f,toks:=t }:=by
 have e:(s.heap.update p f).get? p=some { cls:=.type "list",data:=.seq its'.toArray n' }:=by
   rw[Heap.get?_update_self f ho (by rw[hf]<;>rfl),hf]
 refine I.write (x:=p) (e:=p) (by rw[h];trivial) (.inl rfl) (fun b u hb q=>(Heap.get?_update_other _ _ (Ne.symm hb)).trans q) ⟨_,e⟩ ?_;exact⟨hz,its',n',r,e⟩
inductive qgd (o:V) (i:V) (v:V) (H:Hp) (Q:(Hp->Prop)):Prop
 | mk (p xs k j:_) (h1:o=.ref p) (h2:i=.int k) (h3:H p=some (.lst xs)) (h4:ixN xs.length k=some j) (h5:Q (upd H p (.lst (xs.set j v)))):qgd o i v H Q
def ql0:V->V->V->Hp->(Hp->Prop)->Prop:=fun o i v H Q=>qgd o i v H Q
theorem jF:qmN X ql0:=by
 intro pins s σ H o i v ov iv u Q I ro ri rv h;obtain⟨p,xs,k,j,rfl,rfl,hp,hj,q⟩:=h;cases ro;obtain⟨t,rfl⟩:=ri;obtain⟨its,n,r,ho,hz⟩:=I.lst hp;obtain⟨h1,h2,h3,h4⟩:=qgU hj;have hl:=r.length;have hn:=qbT
 have I':Inv X pins σ (upd H p (.lst (xs.set j v))) { s with heap:=s.heap.update p (Obj.mapSeq (·.setIfInBounds j u)) } :=
   I.lstUpd hp ho (qfn its n j u) (r.set rv j) (by rw[List.length_set];exact hz) s.toks
 by_cases h0:0≤k
 · have hk:k.toNat=j:=by
     rw[seqIndex_of h0 h4]at h1;exact Option.some.inj h1
   exact PySem.W.ki_setAt ho h0 (by omega) (by rw[List.size_toArray,← hl];exact h4) (by rw[hk];exact⟨_,I',q⟩)
 · have hk:(k+(its.toArray.size:Int)).toNat=j:=by
     rw[seqIndex_neg (by omega) h3]at h1;rw[List.size_toArray,← hl];exact Option.some.inj h1
   exact PySem.W.ki_setBack ho (by omega) (by rw[List.size_toArray,← hl];exact h3) (by omega) (by rw[hk];exact⟨_,I',q⟩)
theorem tn_ (n:Nat):((-1:Int)+(n:Int)).toNat=n - 1:=by
 rw[Int.add_comm];exact Int.toNat_sub n 1
theorem qiM (i:Int) (n:Nat):max 0 (min (if i < 0 then i+(n:Int) else i) (n:Int))=((if i < 0 then (i+(n:Int)).toNat else min i.toNat n:Nat):Int):=by
 by_cases h:i < 0
 · have h':i+(n:Int)≤n:=by have:=Int.add_le_add_right (Int.le_of_lt h) n;rwa [Int.zero_add]at this
   rw[if_pos h,if_pos h,Int.min_eq_left h',Int.ofNat_toNat,Int.max_comm]
 · obtain⟨k,rfl⟩:=Int.eq_ofNat_of_zero_le (Int.not_lt.mp h);rw[if_neg h,if_neg h,Int.toNat_natCast];rcases Nat.le_total k n with g|g
   · rw[Nat.min_eq_left g,Int.min_eq_left (Int.ofNat_le.mpr g),Int.max_eq_right (Int.natCast_nonneg _)]
   · rw[Nat.min_eq_right g,Int.min_eq_right (Int.ofNat_le.mpr g),Int.max_eq_right (Int.natCast_nonneg _)]
theorem qcS (lo hi:Option Int) (n:Nat):(sliceBounds lo hi none n).1=((HT.sIx n 0 lo:Nat):Int)∧(sliceBounds lo hi none n).2.1=((HT.sIx n n hi:Nat):Int)∧(sliceBounds lo hi none n).2.2=1:=by
 refine⟨?_,?_,rfl⟩
 · cases lo with
   | none=>simp[sliceBounds,HT.sIx]
   | some i =>
     simp only[sliceBounds,HT.sIx,Option.getD_none,show (1:Int) > 0 by decide,if_true];exact qiM i n
 · cases hi with
   | none=>simp[sliceBounds,HT.sIx]
   | some i =>
     simp only[sliceBounds,HT.sIx,Option.getD_none,show (1:Int) > 0 by decide,if_true];exact qiM i n
theorem qb9 (its:List Value) (lo hi:Option Int):slicePick its.toArray lo hi none=((its.drop (HT.sIx its.length 0 lo)).take (HT.sIx its.length its.length hi - HT.sIx its.length 0 lo)).toArray:=by
 obtain⟨h1,h2,h3⟩:=qcS lo hi its.toArray.size;unfold slicePick;rw[h1,h2,h3];simp only[sliceRange_one,pick_run,List.size_toArray]<;>rfl
inductive qiR (K:Frag) (x:V) (lo:Option Int) (hi:Option Int) (H:Hp) (Q:VK):Prop
 | mk (a xs:_) (h1:x=.ref a) (h2:SqL K H a xs) (h3:∀ p,H p=none->Q (.ref p) (upd H p (.lst (qfz xs lo hi)))):qiR K x lo hi H Q
def qmx (K:Frag):V->Option Int->Option Int->Hp->VK->Prop:=fun x lo hi H Q=>qiR K x lo hi H Q
theorem sl_list:SlR X (qmx X.K):=by
 intro pins s σ H x v vl vu lo hi sl Q I rx hs pl pu h;obtain⟨a,xs,rfl,hx,q⟩:=h;cases rx;obtain⟨its,r,ht,hz⟩:=I.list hx;have hlen:=r.length;refine⟨"list",_,slot_list_getitem.lookup,ht.isList.typeIs,?_⟩;refine wpAny_getItem_list_slice ht.isList hs pl pu .none (by simp) ?_ (by rw[List.size_toArray]<;>omega);rw[qb9,← hlen];refine⟨.ref s.heap.objs.size,_,I.laid (t':=s.toks) (o:=.lst (qfz xs lo hi)) (fun b ob q=>Heap.get?_push_of_some _ q) (Nat.le_refl _) ?_,rfl,q _ (I.hok.fresh (Nat.le_refl _))⟩;exact⟨Nat.le_trans (qd5 xs lo hi) hz,_,0,(r.drop (HT.sIx xs.length 0 lo)).take (HT.sIx xs.length xs.length hi - HT.sIx xs.length 0 lo),Heap.get?_push_size _ rfl⟩
def qcB:V->Bool
 | .non=>true
 | .bl _=>true
 | .int _=>true
 | .str _=>true
 | _=>false
def eqV:V->V->Bool
 | .non,.non=>true
 | .bl a,.bl b=>a == b
 | .bl a,.int b=>(if a then 1 else 0) == b
 | .int a,.bl b=>a == (if b then 1 else 0)
 | .int a,.int b=>a == b
 | .str a,.str b=>a == b
 | _,_=>false
theorem qln {A:Around}{s:Shared}{y x:V}{u v:Value} (ry:RelV y u) (rx:RelV x v) (fy:qcB y=true) (fx:qcB x=true):SeqAt.EqAt A s u v (eqV y x):=by
 cases y with
 | non =>
   cases ry
   cases x with
   | non=>cases rx;exact SeqAt.EqAt.same _
   | bl b=>cases rx;exact SeqAt.EqAt.none_bool b
   | int b=>obtain⟨t,rfl⟩:=rx;exact SeqAt.EqAt.none_int b t
   | str b=>obtain⟨t,rfl⟩:=rx;exact SeqAt.EqAt.none_str b t
   | _=>exact absurd (show false=true from fx) Bool.false_ne_true
 | bl a =>
   cases ry
   cases x with
   | non=>cases rx;exact SeqAt.EqAt.bool_none a
   | bl b=>cases rx;exact SeqAt.EqAt.bool_bool a b
   | int b=>obtain⟨t,rfl⟩:=rx;exact SeqAt.EqAt.bool_int a b t
   | str b=>obtain⟨t,rfl⟩:=rx;exact SeqAt.EqAt.bool_str a b t
   | _=>exact absurd (show false=true from fx) Bool.false_ne_true
 | int a =>
   obtain⟨t',rfl⟩:=ry
   cases x with
   | non=>cases rx;exact SeqAt.EqAt.int_none a t'
   | bl b=>cases rx;exact SeqAt.EqAt.int_bool a t' b
   | int b=>obtain⟨t,rfl⟩:=rx;exact SeqAt.EqAt.int_int a t' b t
   | str b=>obtain⟨t,rfl⟩:=rx;exact SeqAt.EqAt.int_str a t' b t
   | _=>exact absurd (show false=true from fx) Bool.false_ne_true
 | str a =>
   obtain⟨t',rfl⟩:=ry
   cases x with
   | non=>cases rx;exact SeqAt.EqAt.str_none a t'
   | bl b=>cases rx;exact SeqAt.EqAt.str_bool a t' b
   | int b=>obtain⟨t,rfl⟩:=rx;exact SeqAt.EqAt.str_int a t' b t
   | str b=>obtain⟨t,rfl⟩:=rx;exact SeqAt.EqAt.str_str a t' b t
   | _=>exact absurd (show false=true from fx) Bool.false_ne_true
 | _=>exact absurd (show false=true from fy) Bool.false_ne_true
def eqU (x:V) (u:Value):Bool:=match u with
 | .none=>eqV .non x
 | .bool b=>eqV (.bl b) x
 | .int i _=>eqV (.int i) x
 | .str z _=>eqV (.str z) x
 | _=>false
theorem qjf {x y:V}{u:Value} (r:RelV y u) (f:qcB y=true):eqU x u=eqV y x:=by
 cases y with
 | non=>cases r;rfl
 | bl b=>cases r;rfl
 | int i=>obtain⟨t,rfl⟩:=r;rfl
 | str z=>obtain⟨t,rfl⟩:=r;rfl
 | _=>exact absurd (show false=true from f) Bool.false_ne_true
theorem qa8 {x:V}:∀ {xs:List V}{us:List Value},Vals xs us->xs.all qcB=true->us.any (eqU x)=xs.any fun y=>eqV y x
 | _,_,.nil,_=>rfl
 | y::xs,u::us,.cons r t,f=>by
   rw[List.all_cons,Bool.and_eq_true]at f;rw[List.any_cons,List.any_cons,qjf r f.1,qa8 t f.2]
theorem jV {A:Around}{s:Shared}{x:V}{v:Value} (rx:RelV x v) (fx:qcB x=true):∀ {xs:List V}{us:List Value},Vals xs us->xs.all qcB=true->∀ u∈us,SeqAt.EqAt A s u v (eqU x u)
 | _,_,.nil,_=>fun u hu=>by cases hu
 | y::xs,u::us,.cons r t,f=>fun u' hu=>by
   rw[List.all_cons,Bool.and_eq_true]at f;rcases List.mem_cons.mp hu with rfl|hu
   · rw[qjf r f.1];exact qln r rx f.1 fx
   · exact jV rx fx t f.2 u' hu
def inV (x:V) (xs:List V):Bool:=xs.any fun y=>eqV y x
inductive qkO (K:Frag) (neg:Bool) (x:V) (y:V) (H:Hp) (Q:VK):Prop
 | mk (p xs:_) (h1:y=.ref p) (h2:(SqL K H p xs∨SqT K H p xs)) (h3:qcB x=true) (h4:xs.all qcB=true) (h5:Q (.bl (if neg then !inV x xs else inV x xs)) H):qkO K neg x y H Q
def rIn (K:Frag) (neg:Bool):R2:=fun x y H Q=>qkO K neg x y H Q
theorem jQ:OpR X (compareOp .In) (rIn X.K false):=by
 intro pins s σ H x y v u Q I rx ry h;obtain⟨p,xs,rfl,hq,fx,fs,q⟩:=h;cases ry;rcases hq with hq|hq
 · obtain⟨its,r,pl,hz⟩:=I.list hq;refine SeqAt.in_listAt (eqU x) pl.isList (fun w hw=>jV rx fx r fs w (by simpa using hw)) ⟨.bl _,H,I,rfl,?_⟩;rw[show its.toArray.any (eqU x)=its.any (eqU x) by simp,qa8 r fs];exact q
 · obtain⟨its,r,pl,hz⟩:=I.tuple hq;refine SeqAt.in_tupleAt (eqU x) pl (fun w hw=>jV rx fx r fs w (by simpa using hw)) ⟨.bl _,H,I,rfl,?_⟩;rw[show its.toArray.any (eqU x)=its.any (eqU x) by simp,qa8 r fs];exact q
theorem JN:OpR X (compareOp .NotIn) (rIn X.K true):=by
 intro pins s σ H x y v u Q I rx ry h;obtain⟨p,xs,rfl,hq,fx,fs,q⟩:=h;cases ry;rcases hq with hq|hq
 · obtain⟨its,r,pl,hz⟩:=I.list hq;refine SeqAt.notIn_listAt (eqU x) pl.isList (fun w hw=>jV rx fx r fs w (by simpa using hw)) ⟨.bl _,H,I,rfl,?_⟩;rw[show its.toArray.any (eqU x)=its.any (eqU x) by simp,qa8 r fs];exact q
 · obtain⟨its,r,pl,hz⟩:=I.tuple hq;refine SeqAt.notIn_tupleAt (eqU x) pl (fun w hw=>jV rx fx r fs w (by simpa using hw)) ⟨.bl _,H,I,rfl,?_⟩;rw[show its.toArray.any (eqU x)=its.any (eqU x) by simp,qa8 r fs];exact q
theorem CallR.or {f:Value}{r r':List V->Hp->VK->Prop} (h:CallR X f r) (h':CallR X f r'):CallR X f (fun xs H Q=>r xs H Q∨r' xs H Q):=by
 intro pins s σ H xs us Q I rs q;rcases q with q|q
 · exact h pins s σ H xs us Q I rs q
 · exact h' pins s σ H xs us Q I rs q
theorem Qy:CallR X (.type "list") (fun xs H Q=>∃ p ys,xs=[.ref p]∧(SqL X.K H p ys∨SqT X.K H p ys)∧∀ l,H l=none->Q (.ref l) (upd H l (.lst ys))):=by
 intro pins s σ H xs us Q I r h;obtain⟨p,ys,rfl,hq,q⟩:=h;obtain⟨u,rfl,rx⟩:=j5 r;cases rx;have fin:∀ (its:List Value),Vals ys its->ys.length≤sizeLine->∀ (h':Heap) (c':Nat),(∀ b o',s.heap.get? b=some o'->h'.get? b=some o') ->
     h'.get? s.heap.objs.size=some { cls:=.type "list",dict:=none,data:=.seq its.toArray c',slots:=#[] }->EP X pins σ Q (.ref s.heap.objs.size) { s with heap:=h' }:=fun its r' hz h' c' kp e =>
   ⟨.ref s.heap.objs.size,_,I.laid (t':=s.toks) kp (Nat.le_refl _) (show ObjOk X.prog X.w _ h' _ (.lst ys) from ⟨hz,its,c',r',e⟩),rfl,q _ (I.hok.fresh (Nat.le_refl _))⟩
 rcases hq with hq|hq
 · obtain⟨its,r',pl,hz⟩:=I.list hq;have hlen:=r'.length;obtain⟨o,ho,hc,n,hd⟩:=pl.isList;exact call_list_seq p (.inl rfl) ho hc hd (fun h' c' kp e=>fin its r' hz h' c' kp e) (by simp only[List.size_toArray]<;>omega)
 · obtain⟨its,r',pl,hz⟩:=I.tuple hq;have hlen:=r'.length;obtain⟨o,ho,hc,n,hd⟩:=pl;exact call_list_seq p (.inr rfl) ho hc hd (fun h' c' kp e=>fin its r' hz h' c' kp e) (by simp only[List.size_toArray]<;>omega)
def tyV (K:Frag) (T:String) (x:V) (H:Hp):Prop:=match x with
 | .str _=>T="str"
 | .int _=>T="int"
 | .ref p=>(T="list"∧∃ xs,SqL K H p xs)∨(T="tuple"∧∃ o,K.lookup p=some o∧o.cls=.type "tuple"∧o.dict=none) ∨
     (T="dict"∧((∃ kvs,H p=some (.dK kvs))∨∃ kvs,H p=some (.dT kvs)))∨(T="set"∧∃ S n,H p=some (.set S n))
 | _=>False
theorem qiF {pins:List (Addr×Obj)}{σ:St}{H:Hp}{s:Shared}{T:String}{x:V}{v:Value} (I:Inv X pins σ H s) (r:RelV x v) (ty:tyV X.K T x H) :
   s.TypeIs v T∧∀ a,v=.ref a->∃ ob,s.heap.get? a=some ob∧ob.dict=none:=by
 cases x with
 | str z =>
   obtain⟨t,rfl⟩:=r;cases (show T="str" from ty);exact⟨typeIs_str s z t,fun _ e=>nomatch e⟩
 | int i =>
   obtain⟨t,rfl⟩:=r;cases (show T="int" from ty);exact⟨typeIs_int s i t,fun _ e=>nomatch e⟩
 | ref p =>
   cases r;rcases ty with ⟨rfl,xs,hq⟩|⟨rfl,o,hk,hc,hd⟩|⟨rfl,hk⟩|⟨rfl,S,n,hk⟩
   · obtain⟨its,_,pl,_⟩:=I.list hq;refine⟨pl.isList.typeIs,fun a e=>?_⟩;cases e;obtain⟨o,n,e,c,hd,_⟩:=pl;exact⟨o,e,hd⟩
   · refine⟨⟨o,I.kIn p o hk,hc⟩,fun a e=>?_⟩;cases e;exact⟨o,I.kIn _ o hk,hd⟩
   · have z:∃ o,s.heap.get? p=some o∧o.ExactDict:=by
       rcases hk with ⟨kvs,hk⟩|⟨kvs,hk⟩
       · obtain⟨_,_,_,_,o,_,_,e,ex,_⟩:=I.hok p _ hk;exact⟨o,e,ex⟩
       · obtain⟨_,_,_,_,o,_,_,e,ex,_⟩:=I.hok p _ hk;exact⟨o,e,ex⟩
     obtain⟨o,e,ex⟩:=z;refine⟨⟨o,e,ex.1⟩,fun a e2=>?_⟩;cases e2;exact⟨o,e,ex.2.1⟩
   · obtain⟨o,_,_,_,e,ex,_⟩:=I.hok p _ hk;refine⟨⟨o,e,ex.1⟩,fun a e2=>?_⟩;cases e2;exact⟨o,e,ex.2.1⟩
 | _=>exact False.elim ty
def qmZ (K:Frag) (T:String) (r:V->List V->Hp->VK->Prop) (to:TE):TE:=fun σ H Q=>to σ H fun x H1=>tyV K T x H1∧r x [] H1 Q
def tBM (K:Frag) (T:String) (r:V->List V->Hp->VK->Prop) (to:TE) (t:TA):TE:=fun σ H Q=>to σ H fun x H1=>tyV K T x H1∧t σ H1 fun xs H2=>r x xs H2 Q
variable {o e:Expr}{es:List Expr}{to:TE}{t:TA}{name:Str}{apos cpos:Pos}{T id:String}{r:V->List V->Hp->VK->Prop}
theorem qk1 (pa:PlainAttrs T) (slot:Slot T name id) (hty:typeOf (.builtin id)=pure (.type "method_descriptor")) (hm:MtR X id r) (ho:PE X o to)
   (hbase:attributeBase o name X.env (eval o X.env)=eval o X.env:=by rfl) (hline:(apos.endLine == cpos.line)=true:=by rfl):PE X (.Call (.Attribute o name apos) [] [] cpos) (qmZ X.K T r to):=by
 intro pins s σ H Q I h;refine wpAny_Call_method0_late hbase hline (thn (ho pins s σ H _ I h) fun v s1 zz_=>?_);obtain⟨x,H1,I1,r1,ty,q1⟩:=zz_;obtain⟨h1,h2⟩:=qiF I1 r1 ty;exact⟨T,id,pa,slot,hty,h1,h2,Calls.callWith_builtin rfl (PySem.evalArgs_none (hm pins s1 σ H1 x [] v [] Q I1 r1 .nil q1))⟩
theorem ZG (pa:PlainAttrs T) (slot:Slot T name id) (hty:typeOf (.builtin id)=pure (.type "method_descriptor")) (hm:MtR X id r) (ho:PE X o to) (ha:PA X (e::es) t)
   (hbase:attributeBase o name X.env (eval o X.env)=eval o X.env:=by rfl)
   (hfew:((backTo cpos (starEach (e::es) X.env)).all (fun x=>!x.1) && (backToKw cpos (keywordEach [] X.env)).all (fun x=>x.1.isSome)
     && decide ((e::es).length+([]:List Keyword).length+(if ([]:List Keyword).isEmpty then 0 else 1) < 30))=true:=by rfl)
   (hline:(apos.endLine == cpos.line)=true:=by rfl) (hs:starEach (e::es) X.env=(false,eval e X.env)::starEach es X.env:=by rfl) (hplain:(backTo cpos (starEach es X.env)).any (·.1)=false:=by rfl) :
   PE X (.Call (.Attribute o name apos) (e::es) [] cpos) (tBM X.K T r to t):=by
 intro pins s σ H Q I h;refine wpAny_Call_method_late hbase hfew hline rfl (thn (ho pins s σ H _ I h) fun v s1 zz_=>?_);obtain⟨x,H1,I1,r1,ty,q1⟩:=zz_;obtain⟨h1,h2⟩:=qiF I1 r1 ty;refine⟨T,id,pa,slot,hty,h1,h2,?_⟩;have hA:=ha cpos pins s1 σ H1 _ I1 q1;rw[hs]at hA ⊢;refine Calls.callWith_builtin (by show (false || (backTo cpos (starEach es X.env)).any (·.1))=false;rw[hplain]<;>rfl) (Calls.evalArgs_plain ?_);exact thn hA fun us s2 ⟨vs,H2,I2,r2,q2⟩=>hm pins s2 σ H2 x vs v us Q I2 r1 r2 q2
end
def MtM (X:Cx) (id:String) (r:V->List V->Hp->VK->Prop):Prop :=
 ∀ (pins:List (Addr×Obj)) (s:Shared) (σ:St) (H:Hp) (x:V) (xs:List V) (v:Value) (us:List Value) (Q:VK),Inv X pins σ H s->RelV x v->Vals xs us->r x xs H Q ->
   wpAny (model X.prog X.w) X.A (call (.builtin id) (v::us)) (EP X pins σ Q) X.xe s
theorem Vals.one {x:V}{us:List Value} (h:Vals [x] us):∃ u,us=[u]∧RelV x u:=by
 cases h with
 | cons r t=>cases t;exact⟨_,rfl,r⟩
theorem Vals.zero:∀ {us:List Value},Vals [] us->us=[]
 | _,.nil=>rfl
section
variable {X:Cx}{pins:List (Addr×Obj)}{σ:St}{H:Hp}{s:Shared}{l b:Addr}{xs ys zs:List V}
theorem Inv.lset {its its':List Value}{n:Nat}{f:Array Value->Array Value}{t':Nat} (I:Inv X pins σ H s) (hH:H l=some (.lst xs))
   (e:s.heap.get? l=some { cls:=.type "list",data:=.seq its.toArray n }) (hf:f its.toArray=its'.toArray) (hv:Vals ys its') (hz:ys.length≤sizeLine) :
   Inv X pins σ (upd H l (.lst ys)) { s with heap:=s.heap.update l (Obj.mapSeq f),toks:=t' }:=by
 have q:=PySem.IsL.update e f;rw[hf]at q;refine I.write (x:=l) (e:=l) (by rw[hH];exact trivial) (.inl rfl) (fun b' u hb hu=>(Heap.get?_update_other s.heap (Obj.mapSeq f) (Ne.symm hb)).trans hu) ⟨_,q⟩ ?_;exact⟨hz,its',_,hv,q⟩
theorem Inv.lnew {its:List Value}{t':Nat} (I:Inv X pins σ H s) (hv:Vals ys its) (hz:ys.length≤sizeLine) :
   Inv X pins σ (upd H s.heap.objs.size (.lst ys)) { s with heap:=s.heap.push { cls:=.type "list",data:=.seq its.toArray },toks:=t' } :=
 I.laid (fun _ _ q=>Heap.get?_push_of_some _ q) (Nat.le_refl _) ⟨hz,its,0,hv,Heap.get?_push_size _ rfl⟩
theorem Inv.fresh (I:Inv X pins σ H s):H s.heap.objs.size=none:=I.hok.fresh (Nat.le_refl _)
theorem Inv.lstM (I:Inv X pins σ H s) (hH:H l=some (.lst xs)):xs.length≤sizeLine∧∃ (its:List Value) (n:Nat),Vals xs its∧xs.length=its.length∧s.heap.get? l=some { cls:=.type "list",data:=.seq its.toArray n }:=by
 obtain⟨z,its,n,r,e⟩:=I.hok l _ hH;exact⟨z,its,n,r,r.length,e⟩
theorem qif {n:Nat} (h:n≤sizeLine):Builtin.List.listTooLong n=false:=by
 unfold Builtin.List.listTooLong;exact decide_eq_false (by omega)
end
section
variable {X:Cx}
inductive qc6 (x:V) (vs:List V) (H:Hp) (Q:VK):Prop
 | mk (l xs y:_) (h1:x=.ref l) (h2:vs=[y]) (h3:H l=some (.lst xs)) (h4:xs.length < sizeLine) (h5:Q .non (upd H l (.lst (xs++[y])))):qc6 x vs H Q
def qjL:V->List V->Hp->VK->Prop:=fun x vs H Q=>qc6 x vs H Q
theorem qY:MtM X "list.append" qjL:=by
 intro pins s σ H x vs v us Q I rx rv h;obtain⟨l,xs,y,rfl,rfl,hH,hz,q⟩:=h;cases rx;obtain⟨u,rfl,ru⟩:=rv.one;obtain⟨z,its,n,r,hl,e⟩:=I.lstM hH;refine call_meets F.slot_list_append ⟨_,e,rfl⟩ F.entry_list_append (F.args_list_append_2 _ _) (PySem.list_append l its.toArray n u (by rw[List.size_toArray];omega)) ⟨e,?_⟩;refine⟨.non,_,I.lset (its':=its++[u]) hH e (by simp) (r.append (.cons ru .nil)) ?_,rfl,q⟩;rw[List.length_append,List.length_singleton];omega
def qjK:V->List V->Hp->VK->Prop:=fun x vs H Q=>∃ l b xs zs,x=.ref l∧vs=[.ref b]∧H l=some (.lst xs)∧H b=some (.lst zs)∧xs.length+zs.length≤sizeLine∧Q .non (upd H l (.lst (xs++zs)))
theorem qdi:MtM X "list.extend" qjK:=by
 intro pins s σ H x vs v us Q I rx rv h;obtain⟨l,b,xs,zs,rfl,rfl,hH,hB,hz,q⟩:=h;cases rx;obtain⟨u,rfl,ru⟩:=rv.one;cases ru;obtain⟨z,its,n,r,hl,e⟩:=I.lstM hH;obtain⟨z2,its2,n2,r2,hl2,e2⟩:=I.lstM hB;have hsz:its.toArray.size+its2.toArray.size≤sizeLine:=by rw[List.size_toArray,List.size_toArray];omega
 have hlong:¬ (!its.toArray.isEmpty && Builtin.List.listTooLong (its.toArray.size+its2.toArray.size))=true:=by
   rw[qif hsz,Bool.and_false];exact Bool.false_ne_true
 refine call_meets F.slot_list_extend ⟨_,e,rfl⟩ F.entry_list_extend (F.args_list_extend_2 _ _)
   (AutoSeq1.list_extend_list_list_0 l its.toArray n b its2.toArray n2 hlong (by rw[List.size_toArray];omega) (by omega)) ⟨e,e2,?_⟩
 refine⟨.non,_,I.lset (its':=its++its2) hH e (by simp) (r.append r2) ?_,rfl,q⟩;rw[List.length_append];omega
inductive qeA (x:V) (vs:List V) (H:Hp) (Q:VK):Prop
 | mk (l xs:_) (h1:x=.ref l) (h2:vs=[]) (h3:H l=some (.lst xs)) (h4:Q .non (upd H l (.lst []))):qeA x vs H Q
def qkQ:V->List V->Hp->VK->Prop:=fun x vs H Q=>qeA x vs H Q
theorem qih:MtM X "list.clear" qkQ:=by
 intro pins s σ H x vs v us Q I rx rv h;obtain⟨l,xs,rfl,rfl,hH,q⟩:=h;cases rx;have hus:=rv.zero;subst hus;obtain⟨z,its,n,r,hl,e⟩:=I.lstM hH;refine call_meets F.slot_list_clear ⟨_,e,rfl⟩ F.entry_list_clear (F.args_list_clear_1 _) (AutoSeq1.list_clear_list_0 l its.toArray n (by rw[List.size_toArray];omega)) ⟨e,?_⟩;exact⟨.non,_,I.lset (its':=[]) (ys:=[]) hH e rfl .nil (Nat.zero_le _),rfl,q⟩
inductive qiZ (x:V) (y:V) (H:Hp) (Q:VK):Prop
 | mk (l b xs zs:_) (h1:x=.ref l) (h2:y=.ref b) (h3:H l=some (.lst xs)) (h4:H b=some (.lst zs)) (h5:xs.length+zs.length≤sizeLine) (h6:∀ p,H p=none->Q (.ref p) (upd H p (.lst (xs++zs)))):qiZ x y H Q
def qmE:R2:=fun x y H Q=>qiZ x y H Q
theorem op_cat:OpR X (binaryOp .Add) qmE:=by
 intro pins s σ H x y v u Q I rx ry h;obtain⟨l,b,xs,zs,rfl,rfl,hH,hB,hz,q⟩:=h;cases rx;cases ry;obtain⟨z,its,n,r,hl,e⟩:=I.lstM hH;obtain⟨z2,its2,n2,r2,hl2,e2⟩:=I.lstM hB;refine PySem.P.add_list e e2 ?_ (by rw[List.size_toArray,List.size_toArray];omega);have ea:its.toArray++its2.toArray=(its++its2).toArray:=by simp
 rw[ea];exact⟨.ref _,_,I.lnew (t':=s.toks) (r.append r2) (by rw[List.length_append];omega),rfl,q _ I.fresh⟩
end
section
variable {κ:Type} [DecidableEq κ]
def qcG (kvs:List (κ×V)) (k:κ):Option V:=(kvs.find? fun kv=>decide (kv.1=k)).map (·.2)
def qeB (kvs:List (κ×V)) (k:κ) (v:V):List (κ×V) :=
 if (kvs.any fun kv=>decide (kv.1=k))=true then kvs.map (fun kv=>if kv.1=k then (kv.1,v) else kv) else kvs++[(k,v)]
def qd2 (kvs:List (κ×V)) (k:κ):List (κ×V):=kvs.filter fun kv=>decide (kv.1≠k)
theorem qb4 {p:κ×V}{r:List (κ×V)}{k:κ} (e:p.1=k):qcG (p::r) k=some p.2:=by simp[qcG,List.find?_cons,e]
theorem qb5 {p:κ×V}{r:List (κ×V)}{k:κ} (e:¬ p.1=k):qcG (p::r) k=qcG r k:=by simp[qcG,List.find?_cons,e]
theorem qb6 (k:κ):∀ kvs:List (κ×V),(kvs.any fun kv=>decide (kv.1=k))=(qcG kvs k).isSome
 | []=>rfl
 | p::r=>by
   rw[List.any_cons];by_cases e:p.1=k
   · simp only[qb4 e,decide_eq_true e,Bool.true_or,Option.isSome_some]
   · rw[qb5 e,decide_eq_false e,Bool.false_or];exact qb6 k r
theorem qaS (kvs:List (κ×V)) (k:κ) (v:V):(qeB kvs k v).length≤kvs.length+1:=by
 unfold qeB;split
 · rw[List.length_map];omega
 · rw[List.length_append,List.length_cons,List.length_nil];omega
theorem qhT {kvs:List (κ×V)}{k:κ} (v:V) (h:qcG kvs k=none):qeB kvs k v=kvs++[(k,v)]:=by
 unfold qeB;rw[qb6,h];exact if_neg (by decide)
theorem RelO.isSome_eq {o:Option V}{u:Option Value} (r:RelO o u):o.isSome=u.isSome:=by
 cases o with
 | none=>cases u with
   | none=>rfl
   | some _=>exact(show False from r).elim
 | some _=>cases u with
   | none=>exact(show False from r).elim
   | some _=>rfl
theorem KV.val {kvs:List (κ×V)}{vs:List (κ×Value)} (r:KV kvs vs) (k:κ):RelO (qcG kvs k) (valueAt vs k):=by
 unfold KV at r
 induction r with
 | nil=>exact True.intro
 | @cons p q ps qs h t ih =>
   obtain⟨h1,h2⟩:=h;by_cases e:p.1=k
   · have e':q.1=k:=h1.symm.trans e;have b:valueAt (q::qs) k=some q.2:=by simp[valueAt,List.find?_cons,e']
     rw[qb4 e,b];exact h2
   · have e':¬ q.1=k:=fun z=>e (h1.trans z);have b:valueAt (q::qs) k=valueAt qs k:=by simp[valueAt,List.find?_cons,e']
     rw[qb5 e,b];exact ih
theorem KV.any {kvs:List (κ×V)}{vs:List (κ×Value)} (r:KV kvs vs) (k:κ):(kvs.any fun kv=>decide (kv.1=k))=vs.any fun kv=>decide (kv.1=k):=by
 unfold KV at r
 induction r with
 | nil=>rfl
 | cons h t ih=>rw[List.any_cons,List.any_cons,ih,h.1]
theorem KV.repl {kvs:List (κ×V)}{vs:List (κ×Value)} (r:KV kvs vs) (k:κ) {y:V}{u:Value} (ry:RelV y u) :
   KV (kvs.map fun kv=>if kv.1=k then (kv.1,y) else kv) (vs.map fun kv=>if kv.1=k then (kv.1,u) else kv):=by
 unfold KV at r ⊢
 induction r with
 | nil=>exact .nil
 | @cons p q ps qs h t ih =>
   rw[List.map_cons,List.map_cons];refine .cons ?_ ih;obtain⟨h1,h2⟩:=h;by_cases e:p.1=k
   · rw[if_pos e,if_pos (h1.symm.trans e)];exact⟨h1,ry⟩
   · rw[if_neg e,if_neg (fun z=>e (h1.trans z))];exact⟨h1,h2⟩
theorem KV.put {kvs:List (κ×V)}{vs:List (κ×Value)} (r:KV kvs vs) (k:κ) {y:V}{u:Value} (ry:RelV y u):KV (qeB kvs k y) (stored vs k u):=by
 unfold qeB stored;rw[r.any k];by_cases e:(vs.any fun kv=>decide (kv.1=k))=true
 · rw[if_pos e,if_pos e];exact r.repl k ry
 · rw[if_neg e,if_neg e];exact Paired.snoc r ⟨rfl,ry⟩
theorem KV.drop {kvs:List (κ×V)}{vs:List (κ×Value)} (r:KV kvs vs) (k:κ):KV (qd2 kvs k) (without vs k):=by
 unfold KV at r ⊢;unfold qd2 without
 induction r with
 | nil=>exact .nil
 | @cons p q ps qs h t ih =>
   obtain⟨h1,h2⟩:=h;rw[List.filter_cons,List.filter_cons];by_cases e:p.1=k
   · have a:¬ decide (p.1≠k)=true:=by simp[e]
     have b:¬ decide (q.1≠k)=true:=by simp[h1.symm.trans e]
     rw[if_neg a,if_neg b];exact ih
   · have e':¬ q.1=k:=fun z=>e (h1.trans z);have a:decide (p.1≠k)=true:=by simp[e]
     have b:decide (q.1≠k)=true:=by simp[e']
     rw[if_pos a,if_pos b];exact .cons ⟨h1,h2⟩ ih
theorem KV.length {kvs:List (κ×V)}{vs:List (κ×Value)} (r:KV kvs vs):kvs.length=vs.length:=Paired.length r
theorem qit (kvs:List (κ×V)) (k:κ):(qd2 kvs k).length≤kvs.length:=List.length_filter_le _ _
end
theorem qfr {P:Program}{w:World}{k:Key}{u:Value} (r:RelV (kV k) u):(qP P w).is k u=true:=by
 cases k with
 | inl i=>obtain⟨t,e⟩:=(show ∃ t,u=Value.int i t from r);subst e;exact qdV P w i t
 | inr x=>obtain⟨t,e⟩:=(show ∃ t,u=Value.str x t from r);subst e;exact qdU P w x t
theorem qdr {P:Program}{w:World}:∀ {ks:List Key}{us:List Value},Vals (ks.map kV) us->ItemsAre (qP P w) ks us
 | [],_,r=>by rw[List.map_nil]at r;cases r;exact .nil
 | k::ks,_,r=>by
   rw[List.map_cons]at r
   cases r with
   | cons h t=>exact .cons (qfr h) (qdr t)
abbrev KT (H:Hp):List (List Key×V)->List (List Key×Addr×Value)->Prop:=Paired fun p q=>p.1=q.1∧H q.2.1=some (.tup (p.1.map kV))∧RelV p.2 q.2.2
theorem KT.val {H:Hp}{kvs:List (List Key×V)}{xs:List (List Key×Addr×Value)} (r:KT H kvs xs) (k:List Key):RelO (qcG kvs k) ((atKey xs k).map (·.2)):=by
 induction r with
 | nil=>exact True.intro
 | @cons p q ps qs h t ih =>
   obtain⟨h1,_,h2⟩:=h;by_cases e:p.1=k
   · have e':q.1=k:=h1.symm.trans e;have b:atKey (q::qs) k=some q.2:=by simp[atKey,List.find?_cons,e']
     rw[qb4 e,b];exact h2
   · have e':¬ q.1=k:=fun z=>e (h1.trans z);have b:atKey (q::qs) k=atKey qs k:=by simp[atKey,List.find?_cons,e']
     rw[qb5 e,b];exact ih
theorem KT.repl {H:Hp}{kvs:List (List Key×V)}{xs:List (List Key×Addr×Value)} (r:KT H kvs xs) (k:List Key) {y:V}{u:Value} (ry:RelV y u) :
   KT H (kvs.map fun kv=>if kv.1=k then (kv.1,y) else kv) (xs.map (putAt k u)):=by
 induction r with
 | nil=>exact .nil
 | @cons p q ps qs h t ih =>
   rw[List.map_cons,List.map_cons];refine .cons ?_ ih;obtain⟨h1,h2,h3⟩:=h;unfold putAt;by_cases e:p.1=k
   · rw[if_pos e,if_pos (h1.symm.trans e)];exact⟨h1,h2,ry⟩
   · rw[if_neg e,if_neg (fun z=>e (h1.trans z))];exact⟨h1,h2,h3⟩
theorem KT.put {H:Hp}{kvs:List (List Key×V)}{xs:List (List Key×Addr×Value)} (r:KT H kvs xs) (k:List Key) {b:Addr}{y:V}{u:Value} (hb:H b=some (.tup (k.map kV))) (ry:RelV y u) :
   KT H (qeB kvs k y) (storedH xs k b u):=by
 have e:(kvs.any fun kv=>decide (kv.1=k))=(atKey xs k).isSome:=by
   rw[qb6,(r.val k).isSome_eq,Option.isSome_map]
 unfold qeB storedH;rw[e];by_cases q:(atKey xs k).isSome=true
 · rw[if_pos q,if_pos q];exact r.repl k ry
 · rw[if_neg q,if_neg q];exact Paired.snoc r ⟨rfl,hb,ry⟩
theorem KT.keeps {H H':Hp}{kvs:List (List Key×V)}{xs:List (List Key×Addr×Value)} (r:KT H kvs xs) (ht:∀ b ys,H b=some (.tup ys)->H' b=some (.tup ys)):KT H' kvs xs :=
 Paired.mapP r fun _ _ z=>⟨z.1,ht _ _ z.2.1,z.2.2⟩
section
variable {P:Program}{w:World}{H:Hp}{h:Heap}{a:Addr}
theorem qkM {u:HO} (ok:HOk P w H h) (e:Rd H a u):ObjOk P w H h a u:=e.ok ok
theorem qdz {kvs:List (Key×V)} (ok:HOk P w H h) (e:Rd H a (.dK kvs)):kvs.length≤sizeLine∧(a == sysModules)=false∧∃ vs,KV kvs vs∧h.DictOf (qP P w) a vs :=
 show ObjOk P w H h a (.dK kvs) from qkM ok e
theorem qls {kvs:List (Key×V)} (ok:HOk P w H h) (e:H a=some (.dK kvs)):kvs.length≤sizeLine∧(a == sysModules)=false∧∃ vs,KV kvs vs∧h.DictOf (qP P w) a vs:=qdz ok (.inl e)
theorem qeM {ks:List Key} (ok:HOk P w H h) (e:H a=some (.tup (ks.map kV))):(tupleKind (qP P w)).is h ks a:=by
 obtain⟨_,its,r,o,h1,h2,n,h3⟩:=(show ObjOk P w H h a (.tup (ks.map kV)) from ok a _ e)
 exact⟨o,its.toArray,n,h1,h2,h3,by simpa using qdr r⟩
theorem qg6 {kvs:List (List Key×V)} (ok:HOk P w H h) (e:Rd H a (.dT kvs)):kvs.length≤sizeLine∧(a == sysModules)=false ∧
   ∃ xs,KT H kvs xs∧h.DictOfH (tupleKind (qP P w)) a xs:=by
 obtain⟨z,y,xs,r,o,es,ep,h1,h2,h3,h4,h5⟩:=(show ObjOk P w H h a (.dT kvs) from qkM ok e)
 refine⟨z,y,xs,r,o,es,ep,h1,h2,h3,h4,fun x hx=>?_,h5⟩
 have all:∀ {l:List (List Key×V)}{m:List (List Key×Addr×Value)},KT H l m->∀ x∈m,(tupleKind (qP P w)).is h x.1 x.2.1:=by
   intro l m q
   induction q with
   | nil=>intro x hx;exact nomatch hx
   | @cons p q ps qs hq t ih =>
     intro x hx;rcases List.mem_cons.mp hx with e|hx
     · subst e;exact qeM ok (by rw[← hq.1];exact hq.2.1)
     · exact ih x hx
 exact all r x hx
theorem qmj {kvs:List (List Key×V)} (ok:HOk P w H h) (e:H a=some (.dT kvs)):kvs.length≤sizeLine∧(a == sysModules)=false ∧
   ∃ xs,KT H kvs xs∧h.DictOfH (tupleKind (qP P w)) a xs:=qg6 ok (.inl e)
end
def qjq (H:Hp) (a:Addr) (y:V) (r:Option V):Prop :=
 (∃ kvs k,Rd H a (.dK kvs)∧y=kV k∧r=qcG kvs k)∨∃ kvs k b,Rd H a (.dT kvs)∧y=.ref b∧H b=some (.tup (k.map kV))∧r=qcG kvs k
def DPut (H:Hp) (a:Addr) (y v:V) (H':Hp):Prop :=
 (∃ kvs k,H a=some (.dK kvs)∧y=kV k∧kvs.length < sizeLine∧H'=upd H a (.dK (qeB kvs k v))) ∨
 ∃ kvs k b,H a=some (.dT kvs)∧y=.ref b∧H b=some (.tup (k.map kV))∧kvs.length < sizeLine∧H'=upd H a (.dT (qeB kvs k v))
theorem DPut.k {H:Hp}{a:Addr}{kvs:List (Key×V)}{k:Key}{v:V} (e:H a=some (.dK kvs)) (hl:kvs.length < sizeLine):DPut H a (kV k) v (upd H a (.dK (qeB kvs k v))):=.inl ⟨kvs,k,e,rfl,hl,rfl⟩
section
variable {X:Cx}{pins:List (Addr×Obj)}{σ:St}{H:Hp}{s:Shared}{a:Addr}{y v:V}{u r:Value}{o:Option V}{A:Around}{E:Value->Shared->Prop}
theorem Inv.big (I:Inv X pins σ H s):sysModules < s.heap.objs.size:=by
 have h:mainGlobals < s.heap.objs.size:=(I.mod.glob.keeps I.bk).lt;exact Nat.lt_trans (by decide) h
theorem qhb {Q:Value->Shared->Prop} (hu:A.units+1 < cLine) (I:Inv X pins σ H s) (g:qjq H a y (some v)) (ry:RelV y u) (h:∀ w' s',Inv X pins σ H s'->RelV v w'->Q w' s') :
   wpAny (model X.prog X.w) A (getItem (.ref a) u) Q E s:=by
 rcases g with ⟨kvs,k,e,ey,l⟩|⟨kvs,k,b,e,ey,eb,l⟩
 · subst ey;obtain⟨z,hd,vs,rel,dd⟩:=qdz I.hok e;obtain⟨w',hw,rw'⟩:=RelO.some_of (v:=v) (o:=valueAt vs k) (by rw[l];exact rel.val k);exact wpAny_getItem_of (qfr ry) dd.mapOf hw (h w' _ (I.tok _) rw')
 · subst ey;cases (show u=Value.ref b from ry);obtain⟨z,hd,xs,rel,dd⟩:=qg6 I.hok e;obtain⟨w',hw,rw'⟩:=RelO.some_of (v:=v) (o:=(atKey xs k).map (·.2)) (by rw[l];exact rel.val k);obtain⟨p,hp,hp2⟩:=Option.map_eq_some_iff.mp hw;refine wpAny_getItem_heap (tupleKind_room_in1 hu) (qeM I.hok eb) dd hp ?_;rw[hp2];exact h w' _ (I.tok _) rw'
theorem qkd {Q:Value->Shared->Prop} (hu:A.units+1 < cLine) (I:Inv X pins σ H s) (g:qjq H a y o) (ry:RelV y u) (h:∀ s',Inv X pins σ H s'->Q (.bool (!o.isSome)) s') :
   wpAny (model X.prog X.w) A (compareOp .NotIn u (.ref a)) Q E s:=by
 rcases g with ⟨kvs,k,e,ey,l⟩|⟨kvs,k,b,e,ey,eb,l⟩
 · subst ey;obtain⟨z,hd,vs,rel,dd⟩:=qdz I.hok e;refine wpAny_notIn_of (qfr ry) hd dd.mapOf ?_;rw[← (rel.val k).isSome_eq,← l];exact h _ (I.tok _)
 · subst ey;cases (show u=Value.ref b from ry);obtain⟨z,hd,xs,rel,dd⟩:=qg6 I.hok e;refine wpAny_notIn_heap (tupleKind_room_in1 hu) (qeM I.hok eb) hd dd ?_;have q:=(rel.val k).isSome_eq;rw[Option.isSome_map]at q;rw[← q,← l];exact h _ (I.tok _)
theorem qd4 {h':Heap}{t':Nat}{ob:HO} (I:Inv X pins σ H s) (mu:Mut (H a)) (hs:Heap.SameBut a s.heap h') (he:∃ q,h'.get? a=some q) (new:ObjOk X.prog X.w (upd H a ob) h' a ob) :
   Inv X pins σ (upd H a ob) { s with heap:=h',toks:=t' } :=
 I.write (x:=a) (e:=a) mu (.inl rfl) (fun b q hb z=>(hs.2 b hb).trans z) he new
theorem qjg {P:Program}{w:World}{H':Hp}{h':Heap}{kvs:List (Key×V)}{vs:List (Key×Value)} (z:kvs.length≤sizeLine) (hd:(a == sysModules)=false) (rel:KV kvs vs) (dd:h'.DictOf (qP P w) a vs) :
   ObjOk P w H' h' a (.dK kvs):=⟨z,hd,vs,rel,dd⟩
theorem qha {H':Hp}{Q:Unit->Shared->Prop} (hu:A.units+1 < cLine) (I:Inv X pins σ H s) (g:DPut H a y v H') (ry:RelV y u) (rv:RelV v r) (h:∀ s',Inv X pins σ H' s'->Q () s') :
   wpAny (model X.prog X.w) A (setItem (.ref a) u r) Q E s:=by
 rcases g with ⟨kvs,k,e,ey,l,eH⟩|⟨kvs,k,b,e,ey,eb,l,eH⟩
 · subst ey eH;obtain⟨z,hd,vs,rel,dd⟩:=qls I.hok e;have hz:vs.length≤sizeLine:=by rw[← rel.length];exact z
   have hl:(qeB kvs k v).length≤sizeLine:=by have:=qaS kvs k v;omega
   refine wpAny_setItem_pairs (hsz:=hz) (qfr ry) dd fun h' dd' hs=>h _ ?_;have he:∃ q,h'.get? a=some q:=let ⟨q,_,_,hq,_⟩:=dd';⟨q,hq⟩;exact qd4 I (by rw[e];exact True.intro) hs he (qjg hl hd (rel.put k rv) dd')
 · subst ey eH;cases (show u=Value.ref b from ry);obtain⟨z,hd,xs,rel,dd⟩:=qmj I.hok e;have hz:xs.length≤sizeLine:=by rw[← Paired.length rel];exact z
   have hl:(qeB kvs k v).length≤sizeLine:=by have:=qaS kvs k v;omega
   refine wpAny_setItem_heap (hsz:=hz) (tupleKind_room_in1 hu) (qeM I.hok eb) dd fun h' dd' hs=>h _ ?_;obtain⟨q,es,ep,hq,h2,h3,h4,_,h5⟩:=dd';refine qd4 I (by rw[e];exact True.intro) hs ⟨q,hq⟩ ⟨hl,hd,_,(rel.put k eb rv).keeps fun c ys ec=>?_,q,es,ep,hq,h2,h3,h4,h5⟩;rw[qj (Qm ec e (fun z=>nomatch z))];exact ec
end
section
variable {X:Cx}{pins:List (Addr×Obj)}{σ:St}{H:Hp}{s:Shared}{a:Addr}{kvs:List (Key×V)}{k:Key}{u:Value}{A:Around}{E:Value->Shared->Prop}
theorem qml {v:V}{more:List Value}{Q:Value->Shared->Prop} (I:Inv X pins σ H s) (e:H a=some (.dK kvs)) (ry:RelV (kV k) u) (l:qcG kvs k=some v) (hm:more=[]∨∃ x,more=[x])
   (h:∀ w' s',Inv X pins σ (upd H a (.dK (qd2 kvs k))) s'->RelV v w'->Q w' s'):wpAny (model X.prog X.w) A (call (.builtin "dict.pop") (.ref a::u::more)) Q E s:=by
 obtain⟨z,hd,vs,rel,dd⟩:=qls I.hok e;obtain⟨w',hw,rw'⟩:=RelO.some_of (v:=v) (o:=valueAt vs k) (by rw[← l];exact rel.val k)
 have hp:(keyPart u).isSome=true:=by
   cases k with
   | inl i=>obtain⟨t,q⟩:=(show ∃ t,u=Value.int i t from ry);subst q;rfl
   | inr x=>obtain⟨t,q⟩:=(show ∃ t,u=Value.str x t from ry);subst q;rfl
 have ha:argsOk "dict.pop" ⟨.ref a::u::more,[]⟩:=by
   rcases hm with q|⟨x,q⟩
   · subst q;exact PySem.F.args_dict_pop_2 _ _
   · subst q;exact PySem.F.args_dict_pop_3 _ _ _
 refine call_meetsIn PySem.F.slot_dict_pop dd.typeIs PySem.F.entry_dict_pop ha (meets_dict_pop_there (qP X.prog X.w) a (qfr ry) more hm hp)
   ⟨vs,w',dd,by rw[← rel.length];exact z,hw,fun h' dd' hs=>h w' _ ?_ rw'⟩
 have he:∃ q,h'.get? a=some q:=let ⟨q,_,_,hq,_⟩:=dd';⟨q,hq⟩;exact qd4 I (by rw[e];exact True.intro) hs he (qjg (Nat.le_trans (qit kvs k) z) hd (rel.drop k) dd')
end
def qmO (i:Expr):Prop:=∀ ov iv,subscripted i false ov iv=operate [ov,iv] (getItem ov iv)
theorem qjy {prog:Program}{w:World}{A:Around}{E:Value->Shared->Prop}{s:Shared}{env:Env}{value slice:Expr}{pos:Pos}{T id:String}{Q:Value->Shared->Prop}
   (hl:typeLookup (.type T) "__getitem__"=pure (some (.builtin id))) (hs:qmO slice)
   (h:wpAny (model prog w) A (eval value env) (fun o s₁=>wpAny (model prog w) A (eval slice env) (fun i s₂=>s₂.TypeIs o T∧wpAny (model prog w) A (getItem o i) Q E s₂) E s₁) E s) :
   wpAny (model prog w) A (eval (.Subscript value slice pos) env) Q E s:=by
 refine Subscript_ (wpAny_mono h (fun o s₁ h₁=>wpAny_mono h₁ (fun i s₂ h₂=>?_) fun _ _ x=>x) fun _ _ x=>x);obtain⟨hT,h₂⟩:=h₂;unfold subscriptTail;refine wpAny_bind ?_;rw[getitemInPython_of_ne hT.not_modules];refine wpAny_bind (wpAny_specialOf hT hl ?_)
 have fin:wpAny (model prog w) A (subscripted slice false o i) (fun r s₃=>wpAny (model prog w) A (letTemporaryGo value o r >>= fun _=>pure r) Q E s₃) E s₂:=by
   rw[hs o i];exact wpAny_operating (wpAny_mono h₂ (fun r s₃ h₃=>wpAny_bind (wpAny_letTemporaryGo (wpAny_pure h₃))) fun _ _ x=>x)
 first
   | exact wpAny_pure (wpAny_bind fin)
   | exact wpAny_bind (wpAny_pure (wpAny_bind fin))
   | exact wpAny_bind fin
theorem qd3 {X:Cx}{pins:List (Addr×Obj)}{σ:St}{H:Hp}{s:Shared}{a:Addr}{y:V}{o:Option V} (I:Inv X pins σ H s) (g:qjq H a y o):s.TypeIs (.ref a) "dict":=by
 rcases g with ⟨kvs,k,e,_,_⟩|⟨kvs,k,b,e,_,_,_⟩
 · obtain⟨_,_,vs,_,dd⟩:=qdz I.hok e;exact dd.typeIs
 · obtain⟨_,_,xs,_,dd⟩:=qg6 I.hok e;exact dd.typeIs
def qlT (td ty:TE):TE:=fun σ H Q=>td σ H fun x H1=>ty σ H1 fun y H2=>∃ a v,x=.ref a∧qjq H2 a y (some v)∧Q v H2
def qlY (td ty tv:TE):TS:=fun D σ H=>tv σ H fun v H1=>td σ H1 fun x H2=>ty σ H2 fun y H3=>∃ a H4,x=.ref a∧DPut H3 a y v H4∧D.nx σ H4
section
variable {X:Cx}{o i e value:Expr}{pos pos' tpos:Pos}{td ty tv:TE}
theorem Jc (hu:X.A.units+1 < cLine) (ho:PE X o td) (hi:PE X i ty) (hs:qmO i):PE X (.Subscript o i pos) (qlT td ty):=by
 intro pins s σ H Q I h;refine qjy PySem.F.slot_dict_getitem.lookup hs (thn (ho pins s σ H _ I h) fun u s1 ⟨x,H1,I1,rx,q1⟩=>thn (hi pins s1 σ H1 _ I1 q1) fun iv s2 zz_=>?_);obtain⟨y,H2,I2,ry,a,v,ex,g,q2⟩:=zz_;subst ex;obtain rfl:u=Value.ref a:=rx;exact⟨qd3 I2 g,qhb hu I2 g ry fun w' s3 I3 rw'=>⟨v,H2,I3,rw',q2⟩⟩
theorem qjQ (hu:X.A.units+1 < cLine) (ho:PE X o td) (hi:PE X i ty) (hv:PE X value tv) (hs:swapsWith value (some (.Subscript o i pos')) pos.line X.env=pure false) :
   PS X (.Assign [.Subscript o i pos'] value pos) (qlY td ty tv):=by
 intro pins s σ H D I h;refine wpAny_Assign_Subscript (thn (hv pins s σ H _ I h) fun r s1 ⟨v,H1,I1,rv,q1⟩=>thn (ho pins s1 σ H1 _ I1 q1) fun u s2 ⟨x,H2,I2,rx,q2⟩=>thn (hi pins s2 σ H2 _ I2 q2) fun iv s3 zz_=>?_) hs;obtain⟨y,H3,I3,ry,a,H4,ex,g,q3⟩:=zz_;subst ex;obtain rfl:u=Value.ref a:=rx;exact qha hu I3 g ry rv fun s4 I4=>⟨σ,H4,I4,q3⟩
end
theorem qiu {P:Program}{w:World}{H:Hp} (h:Heap) (hb:sysModules < h.objs.size):ObjOk P w H (h.push { cls:=.type "dict",data:=.dict #[] }) h.objs.size (.dK []) :=
 ⟨Nat.zero_le _,beq_eq_false_iff_ne.mpr (Ne.symm (Nat.ne_of_lt hb)),[],.nil,Heap.DictOf.new h⟩
def qkD:TE:=fun _ H Q=>∀ p,H p=none->Q (.ref p) (upd H p (.dK []))
section
variable {X:Cx}{pos:Pos}
theorem qcl:PE X (.Dict [] [] pos) qkD:=fun pins s σ H Q I h =>
 wpAny_Dict_empty ⟨.ref s.heap.objs.size,_,I.laid (a:=s.heap.objs.size) (o:=.dK []) (t':=s.toks) (fun _ _ q=>Heap.get?_push_of_some _ q) (Nat.le_refl _) (qiu s.heap I.big),rfl,h _ (I.hok.fresh (Nat.le_refl _))⟩
end
structure M1 (X:Cx) (o:Expr) (m:Str) (apos:Pos) (e:Expr) (cpos:Pos):Prop where
 base:attributeBase o m X.env (eval o X.env)=eval o X.env
 few:((backTo cpos (starEach [e] X.env)).all (fun x=>!x.1) && (backToKw cpos (keywordEach [] X.env)).all (fun x=>x.1.isSome)
   && decide (([e]:List Expr).length+([]:List Keyword).length+(if ([]:List Keyword).isEmpty then 0 else 1) < 30))=true
 line:(apos.endLine == cpos.line)=true
 trees:backTo cpos (starEach [e] X.env)=[(false,eval e X.env)]
def IsD (H:Hp) (a:Addr):Prop:=(∃ kvs,Rd H a (.dK kvs))∨∃ kvs,Rd H a (.dT kvs)
theorem qlk {X:Cx}{pins:List (Addr×Obj)}{σ:St}{H:Hp}{s:Shared}{a:Addr} (I:Inv X pins σ H s) (d:IsD H a) :
   s.TypeIs (.ref a) "dict"∧(∀ b,Value.ref a=.ref b->∃ ob,s.heap.get? b=some ob∧ob.dict=none)∧(a == sysModules)=false:=by
 rcases d with ⟨kvs,e⟩|⟨kvs,e⟩
 · obtain⟨_,hd,vs,_,dd⟩:=qdz I.hok e;refine⟨dd.typeIs,fun b q=>?_,hd⟩;cases q;obtain⟨ob,_,_,h1,h2,_⟩:=dd;exact⟨ob,h1,h2.2.1⟩
 · obtain⟨_,hd,xs,_,dd⟩:=qg6 I.hok e;refine⟨dd.typeIs,fun b q=>?_,hd⟩;cases q;obtain⟨ob,_,_,h1,h2,_⟩:=dd;exact⟨ob,h1,h2.2.1⟩
def qkC (td ty:TE):TE:=fun σ H Q=>td σ H fun x H1=>∃ a,x=.ref a∧IsD H1 a∧ty σ H1 fun y H2=>∃ kvs k v,H2 a=some (.dK kvs)∧y=kV k∧qcG kvs k=some v∧Q v (upd H2 a (.dK (qd2 kvs k)))
section
variable {X:Cx}{o e f:Expr}{apos cpos:Pos}{td ty tx:TE}
theorem qh3 (ho:PE X o td) (he:PE X e ty) (m:M1 X o "pop" apos e cpos):PE X (.Call (.Attribute o "pop" apos) [e] [] cpos) (qkC td ty):=by
 intro pins s σ H Q I h;refine wpAny_Call_method m.base m.few m.line PySem.F.plainAttrs_dict PySem.F.slot_dict_pop PySem.F.type_dict_pop (thn (ho pins s σ H _ I h) fun u s1 zz_=>?_);obtain⟨x,H1,I1,rx,a,ex,d,q1⟩:=zz_;subst ex;obtain rfl:u=Value.ref a:=rx;obtain⟨t1,t2,_⟩:=qlk I1 d;refine⟨t1,t2,?_⟩;rw[m.trees];refine Calls.callWith_builtin rfl (Calls.evalArgs_plain (Calls.spliced_cons (thn (he pins s1 σ H1 _ I1 q1) fun iv s2 ⟨y,H2,I2,ry,kvs,k,v,ea,ey,l,q2⟩=>Calls.spliced_nil ?_)));subst ey;exact qml I2 ea ry l (.inl rfl) fun w' s3 I3 rw'=>⟨v,_,I3,rw',q2⟩
end
end L2
namespace Att
open PySem PySem.W PySem.Calls PyProof.Rows
theorem qa1 {P:Params}{h:Heap}:∀ (ns:List Int) (vs:List Value),WellAll P h vs (ns.map WData.int)->IntsAre vs ns:=by
 intro ns
 induction ns with
 | nil =>
   intro vs w;rw[List.map_nil]at w;cases w;exact .nil
 | cons n ns ih =>
   intro vs w;rw[List.map_cons]at w
   cases w with
   | cons a b =>
     cases a;exact .cons _ _ (ih _ b)
theorem qfY {l:OpenLaw}{n:Nat} (hn:l.most=some n) {P:Params}{h:Heap}{args:List WData}{vals:List Value}
   (hpre:l.row.toRowW.claim.pre args=true) (hwl:WellAll P h vals args) :
   ∃ a vs ns,vals=[Value.ref a]∧args=[WData.list (ns.map WData.int)]∧h.get? a=some { cls:=.type "list",data:=.seq vs.toArray }∧IntsAre vs ns∧ns.length≤n:=by
 have hsh:WShape.hasAll [] args [.list .int]=true:=(pre_splitW hpre).1;have hc:l.pre.holds [] { args:=args }=true:=(pre_splitW hpre).2;obtain⟨d,r,rfl,h1,h2⟩:=hasAllW_cons hsh;obtain rfl:=hasAllW_nil h2;obtain⟨xs,rfl,h3⟩:=hasW_list h1;obtain⟨ns,rfl⟩:=items_int h3
 have hlen:ns.length≤n:=by
   unfold OpenLaw.pre at hc
   have h4:(WTm.not (.lt (.lit (.int (n:Int))) (.len (.arg 0)))).holds [] { args:=[.list (ns.map .int)] }=true:=by
     have h4:=(holds_andW hc).1;rw[hn]at h4;exact h4
   have h5:=condW_of h4 (w_not (w_lt w_lit (w_len_list (w_arg rfl))));rw[List.length_map]at h5;refine Nat.le_of_not_lt fun q=>?_;have q':(n:Int) < ((ns.length:Nat):Int):=by omega
   first
     | (rw[decide_eq_true q']at h5;exact absurd h5 (by decide))
     | (simp at h5;omega)
 cases hwl with
 | cons w1 w2 =>
   cases w2
   cases w1 with
   | list ho hall=>exact⟨_,_,ns,rfl,rfl,ho,qa1 ns _ hall,hlen⟩
theorem qgi (l:OpenLaw) (args:List WData):l.row.toRowW.claim.post args (.bool true) args=true :=
 postW_of (r:=l.row.toRowW) (X:=(true == true))
   (show WShape.has [] (.bool true) .bool=true by first|rfl|decide|simp[WShape.has,WShape.arms,WShape.armsAll])
   (show (WTm.eq .res (.lit (.bool true))).value [] { args:=args,res:=some (.bool true),after:=args }=some (.bool (true == true)) from w_eq_bool (w_res rfl) w_lit) rfl
theorem attach_call {l:OpenLaw}{n:Nat}{q:Program}{loose:List Str}{XP:(Str->Option Value)->Heap->Prop}{YP:World->Heap->Prop}{d:DefRec}
   (hn:l.most=some n) (hdf:d.params.defaults=[])
   (call:∀ (w:World) (s₀ s₁:Shared) (mg mb:Str->Option Value) (fa:Addr) (o:Obj) (pm cd doc:Value) (a:Addr) (vs:List Value) (ns:List Int),
     Ground q loose [] XP w s₀ mg mb s₁.heap->YP w s₁.heap ->
     s₁.heap.get? fa=some o->o.data=.func (docDef d.name d.params d.body d.scope pm cd doc)->s₁.heap.CodeRec cd d.name->mg d.name=some (.ref fa) ->
     s₁.heap.get? a=some { cls:=.type "list",data:=.seq vs.toArray }->IntsAre vs ns->ns.length≤n->s₁.gens=#[] ->
     codeAny (model l.prog w) callerA (.call (.ref fa) ⟨[.ref a],[]⟩) (fun r s'=>r=.ok (.ret (.bool true))∧OldK s₁.heap s'.heap∧s'.os=s₁.os∧AllBare s'.gens) s₁) :
   WalkO q loose XP YP l.row.toRowW d [] (fun f vs=>PySem.call f vs):=by
 intro w s₀ s₁ mg mb G Y fa o pm cd doc dV kV ho hd hcd hD hmg hg args vals as hpre hlay hrd hwl hlo;obtain rfl:dV=.none:=Dflts.none hD hdf;obtain rfl:kV=.none:=Dflts.noKw hD;obtain⟨a,vs,ns,rfl,rfl,hobj,hints,hlen⟩:=qfY hn hpre hwl;refine enter_call (codeAny_mono (call w s₀ s₁ mg mb fa o pm cd doc a vs ns G Y ho (fd_plain hd) hcd hmg hobj hints hlen hg) fun r s' hq=>?_);obtain⟨rfl,h2,h3,h4⟩:=hq;exact⟨.inl ⟨.bool true,.bool true,[],rfl,fun _=>rfl,.bool true,qgi l _,fun _=>⟨List.Pairwise.nil,fun _ hm=>(nomatch hm)⟩⟩,h2,h3,h4⟩
end Att
namespace L2
open PySem PySem.Spec PyProof.Rows
open PySem.W (Frag keepIn kitOne fnOf codeIn)
theorem qcF:∀ {vs:List Value}{ns:List Int},IntsAre vs ns->Vals (ns.map V.int) vs
 | _,_,.nil=>.nil
 | _,_,.cons n t h=>.cons ⟨t,rfl⟩ (qcF h)
def qQ (s:Stmt) (j:Nat):Stmt:=match s with
 | .ClassDef _ _ _ body _ _ _ _ _ _ _=>body.getD j (.Pass ⟨0,0,0,0⟩)
 | _=>.Pass ⟨0,0,0,0⟩
def QE (s:Stmt):Arguments:=match s with
 | .FunctionDef _ a _ _ _ _ _ _ _ _=>a
 | _=>{ posonlyargs:=[],args:=[],vararg:=none,kwonlyargs:=[],kw_defaults:=[],kwarg:=none,defaults:=[] }
def zT (s:Stmt):List Stmt:=match s with
 | .FunctionDef _ _ b _ _ _ _ _ _ _=>b
 | _=>[]
def qg (s:Stmt):Scope:=match s with
 | .FunctionDef _ _ _ _ _ _ sc _ _ _=>sc
 | _=>{ kind:=.function,names:=[],isGenerator:=false,isCoroutine:=false }
abbrev CX0:CXT:=fun _ _ _ _ _ _=>False
abbrev E0:XK:=fun _ _ _=>False
theorem qq {X:Cx}:j4 CX0 X E0:=fun _ _ _ _ _ _ _ h=>h.elim
structure Fun (K:Frag) (x qual:Str) (st:Stmt) (f:Addr) (fd:FuncData):Prop where
 ex:∃ (oc:Value) (od:Option Addr) (kV doc pm:Value) (an:Option Addr) (cdv ct:Value) (osl:Array (Option Value)),
   fd=fnOf x qual (QE st) (zT st) (qg st) .none kV doc pm an cdv ct∧K.lookup f=some ⟨oc,od,.func fd,osl⟩∧codeIn K cdv qual=true
 kp:keepIn K (.ref f)=true
section
variable {P:Program}{w:World}{K:Frag}{mg:Str->Option Value}{base:Heap}
theorem Fun.ok {x qual:Str}{st:Stmt}{f:Addr}{fd:FuncData}{N ps:List Str}{k:Nat}{sp:Sp} (F:Fun K x qual st f fd) (S:qo N ps (qg st)) (len:∀ vs H Q E,sp vs H Q E->vs.length=ps.length)
   (hbody:∀ (cdv:Value) (A:Around) (outer:List Env) (s:Shared) (H:Hp) (vs:List V) (Q:VK) (E:XK),Room k (A.deeper (envOfC qual (qg st) s.heap.objs.size f cdv))->sp vs H Q E ->
     ∃ t,PSs (zb CX0 P w K mg base N qual (qg st) f cdv A outer s H E).nox (zT st) t∧t { nx:=fun _ H'=>Q .non H',rt:=Q } (j6 N vs) H):qD P w K mg base CX0 (k+1) f fd ps sp:=by
 obtain⟨oc,od,kV,doc,pm,an,cdv,ct,osl,rfl,lk,hcd⟩:=F.ex;refine qlm lk hcd S len fun A outer s H vs Q E hr hsp=>?_;obtain⟨t,h,q⟩:=hbody cdv A outer s H vs Q E hr hsp;exact⟨t,h.nox,q⟩
theorem Fun.binds {x qual:Str}{st:Stmt}{f:Addr}{fd:FuncData}{ps:List Str} (F:Fun K x qual st f fd)
   (h:∀ (kV doc pm:Value) (an:Option Addr) (cdv ct:Value) (us:List Value),us.length=ps.length->bindArgs (fnOf x qual (QE st) (zT st) (qg st) .none kV doc pm an cdv ct) ⟨us,[]⟩=pure (ps.zip us)):Binds K fd ps []:=by
 obtain⟨oc,od,kV,doc,pm,an,cdv,ct,osl,rfl,lk,hcd⟩:=F.ex;exact .all (h kV doc pm an cdv ct)
theorem qeR {x qual:Str}{st:Stmt}{f:Addr}{oc:Value}{od an:Option Addr}{osl:Array (Option Value)}{kV doc pm cdv ct:Value} (l:K.lookup f=some ⟨oc,od,.func (fnOf x qual (QE st) (zT st) (qg st) .none kV doc pm an cdv ct),osl⟩)
   (c:codeIn K cdv qual=true) (k:keepIn K (.ref f)=true):Fun K x qual st f (fnOf x qual (QE st) (zT st) (qg st) .none kV doc pm an cdv ct):=⟨⟨oc,od,kV,doc,pm,an,cdv,ct,osl,rfl,l,c⟩,k⟩
end
theorem qH {A:Around}{k:Nat} (hr:Room k A):A.units+1 < cLine:=Nat.lt_of_le_of_lt (Nat.add_le_add_left (by decide:1≤64) _) hr.units
theorem qB {n:Nat} (h:n≤1000):n < sizeLine:=Nat.lt_of_le_of_lt h (by decide)
section
variable {X:Cx}
theorem pv (i:Nat) {x:Str}{pos:Pos} (hN:X.N[i]?=some x:=by rfl) (hv:Vis X.env.scope x:=by first|exact Or.inl rfl|exact Or.inr (Or.inl rfl)|exact Or.inr (Or.inr rfl)) (hd:(x == ("__debug__":Str))=false:=by decide)
   (hcd:(x == ("__classdict__":Str))=false:=by decide):PE X (.Name x pos) (qiI i):=qkX hN hv hd hcd
end
theorem qbt {A B:Prop} (h:B):if false=true then A else B:=by
 rw[if_neg Bool.false_ne_true];exact h
theorem qfy {A B:Prop} (h:A):if true=true then A else B:=by
 rw[if_pos rfl];exact h
def Same (H H':Hp):Prop:=∀ b o,H b=some o->H' b=some o
theorem Same.refl (H:Hp):Same H H:=fun _ _ h=>h
theorem Same.trans {H H1 H2:Hp} (a:Same H H1) (b:Same H1 H2):Same H H2:=fun c o h=>b c o (a c o h)
theorem Same.seq {K:Frag}{H H':Hp}{a:Addr}{xs:List V} (e:Same H H') (h:SqL K H a xs):SqL K H' a xs:=by
 rcases h with (h|⟨o,h⟩)|h
 · exact .inl (.inl (e _ _ h))
 · exact .inl (.inr ⟨o,e _ _ h⟩)
 · exact .inr h
section
variable {X:Cx}{pins:List (Addr×Obj)}{σ:St}{H:Hp}{s:Shared}{h':Heap}
theorem Inv.turnLaid {ch:List Addr}{a:Addr}{o:HO}{t':Nat} (I:Inv X pins σ H s) (k:∀ b u,b∉ch->s.heap.get? b=some u->h'.get? b=some u) (hf:∀ b∈ch,qfw X pins H b)
   (hp:s.heap.objs.size≤a) (new:ObjOk X.prog X.w (upd H a o) h' a o):Inv X pins σ (upd H a o) { s with heap:=h',toks:=t' }:=by
 have hn:H a=none:=I.hok.fresh hp;refine I.step (g':=s.gens) (d':=s.drawn) (ch:=ch) (fun b hb=>?_) (fun b u _ _ hc e _=>k b u hc e) (fun b u _ _ hc e _=>⟨u.slots,k b u hc e⟩)
   (fun b u _ e n=>?_) (fun b u hc e=>⟨u,k b u hc e⟩) (fun b xs e=>?_) (fun b u v e=>?_) (fun b ps e=>?_) (fun m hm=>?_) (fun b u e=>?_) I.bare
 · obtain⟨_,f1,_,f3,f4,f5⟩:=hf b hb;exact⟨f3,f1,f4,f5⟩
 · rw[qj (Nat.ne_of_lt (Nat.lt_of_lt_of_le (Heap.lt_size e) hp))];exact n
 · rw[qj (qi e hn)];exact e
 · rw[qj (qi e hn)];exact e
 · exact⟨#[],by rw[qj (qi e hn),e];simp⟩
 · obtain⟨ob,es,ep,ho,r⟩:=hm;exact⟨ob,es,ep,k _ ob (fun z=>(hf _ z).2.1 rfl) ho,r⟩
 · by_cases hb:b=a
   · subst hb;rw[qc]at e;cases e;exact new
   · rw[qj hb]at e;refine(I.hok b u e).stay (fun c v hc q=>k c v ?_ q) (fun c q=>by rw[qj (qi q hn)];exact q) fun c xs q=>by rw[qj (qi q hn)];exact q
     intro z;have zz:=(hf c z).1;rcases hc with rfl|hc
     · rw[e]at zz;cases zz
     · rw[hc]at zz;cases zz
theorem Inv.turnL {ch:List Addr}{t':Nat} (I:Inv X pins σ H s) (k:∀ b u,b∉ch->s.heap.get? b=some u->h'.get? b=some u) (hf:∀ b∈ch,qfw X pins H b) :
   Inv X pins σ H { s with heap:=h',toks:=t' }:=by
 refine I.step (g':=s.gens) (d':=s.drawn) (ch:=ch) (fun b hb=>?_) (fun b u _ _ hc e _=>k b u hc e) (fun b u _ _ hc e _=>⟨u.slots,k b u hc e⟩)
   (fun b u _ e n=>n) (fun b u hc e=>⟨u,k b u hc e⟩) (fun b xs e=>e) (fun b u v e=>e) (fun b ps e=>⟨#[],by rw[e];simp⟩) (fun m hm=>?_) (fun b u e=>?_) I.bare
 · obtain⟨_,f1,_,f3,f4,f5⟩:=hf b hb;exact⟨f3,f1,f4,f5⟩
 · obtain⟨ob,es,ep,ho,r⟩:=hm;exact⟨ob,es,ep,k _ ob (fun z=>(hf _ z).2.1 rfl) ho,r⟩
 · refine(I.hok b u e).stay (fun c v hc q=>k c v ?_ q) (fun c q=>q) fun c xs q=>q;intro z;have zz:=(hf c z).1;rcases hc with rfl|hc
   · rw[e]at zz;cases zz
   · rw[hc]at zz;cases zz
end
def Ite (K:Frag) (a:Addr):It :=
 ⟨fun i H=>∃ xs x,SqL K H a xs∧xs[i]?=some x,
  fun i H x H'=>∃ p v,H p=none∧x=.ref p∧(∀ xs,SqL K H a xs->xs[i]?=some v)∧H'=upd H p (.tup [.int i,v]),
  fun i H=>∃ xs,SqL K H a xs∧xs.length≤i⟩
theorem qfF {P:Program}{w:World}{K:Frag}{elts:List Expr}{k:Nat}{pos:Pos} (a e it:Addr) (hne:e≠it) :
   qjo P w K (.Tuple elts k pos) (Ite K a) [e,it] e (fun i h=>(∃ old,IsEnum h e it i old)∧h.IsListIter it a i) where
 mem:=by simp
 obj:=fun i h st b hb=>by
   obtain⟨⟨old,he⟩,hit⟩:=st;rcases List.mem_cons.mp hb with rfl|hb
   · exact⟨_,he,fun v z=>by cases z⟩
   · have e1:b=it:=by simpa using hb
     subst e1;obtain⟨o,q,c,d⟩:=hit;exact⟨o,q,fun v z=>by rw[d]at z;cases z⟩
 keep:=fun i h h' st kk=>by
   obtain⟨⟨old,he⟩,hit⟩:=st;exact⟨⟨old,kk e (by simp) _ he⟩,hit.at fun o q=>kk it (by simp) o q⟩
 item:=by
   intro X hP hw hK hc i pins s σ H E I hf st hg;subst hP hw hK;obtain⟨xs,x,hq,hx⟩:=hg;obtain⟨its,rv,p,hz⟩:=I.list hq;obtain⟨u,hu,ru⟩:=rv.get hx;obtain⟨⟨old,he⟩,hit⟩:=st;refine wpAny_pyNext_enum_item he hit p.isList (x:=u) (by simpa using hu) hne fun h1 ho hit1 hT hsz hk=>?_;refine⟨_,rfl,wpAny_letOwnedTupleGo_enum (s:={ s with heap:=h1,toks:=s.toks+1 }) ho fun h2 he2 hs2=>?_⟩;have hel:e < s.heap.objs.size:=Heap.lt_size he;have hil:it < s.heap.objs.size:=by obtain⟨_,q,_⟩:=hit;exact Heap.lt_size q
   have hT2:h2.get? s.heap.objs.size=some { cls:=.type "tuple",data:=.seq #[.int i s.toks,u] }:=(hs2.2 _ (Nat.ne_of_gt hel)).trans hT
   have I1:Inv X pins σ (upd H s.heap.objs.size (.tup [.int i,x])) { s with heap:=h2,toks:=s.toks+1 }:=by
     refine I.turnLaid (ch:=[e,it]) (fun b o hb q=>?_) hf (Nat.le_refl _) ⟨by show 2≤sizeLine;decide,[.int i s.toks,u],.cons ⟨_,rfl⟩ (.cons ru .nil),⟨_,hT2,rfl,_,rfl⟩⟩;have b1:b≠e:=fun z=>hb (by simp[z]);have b2:b≠it:=fun z=>hb (by simp[z]);exact(hs2.2 b b1).trans (hk b o b1 b2 q)
   refine⟨.ref s.heap.objs.size,_,I1,rfl,⟨_,x,I.hok.fresh (Nat.le_refl _),rfl,fun ys hy=>by rw[I.list_inj hy hq];exact hx,rfl⟩,⟨⟨_,by simpa using he2⟩,hit1.at fun o q=>(hs2.2 it hne.symm).trans q⟩,fun b hb=>?_⟩
   have hbl:b < s.heap.objs.size:=by
     rcases List.mem_cons.mp hb with rfl|hb
     · exact hel
     · have e1:b=it:=by simpa using hb
       rw[e1];exact hil
   rw[qj (Nat.ne_of_lt hbl)];exact(hf b hb).1
 done:=by
   intro X hP hw hK hc i pins s σ H E I hf st hg;subst hP hw hK;obtain⟨xs,hq,hx⟩:=hg;obtain⟨its,rv,p,hz⟩:=I.list hq;obtain⟨⟨old,he⟩,hit⟩:=st;have hl:=rv.length;refine wpAny_pyNext_enum_end (I.ok.hd hc) he hit p.isList (by simp;omega) fun h' eb=>⟨rfl,I.turnL (t':=s.toks) (ch:=[e,it]) (fun b o hb q=>eb b o (fun z=>hb (by simp[z])) q) hf⟩
 self:=fun _ _ _ _ _ st h=>by
   obtain⟨⟨old,he⟩,_⟩:=st;exact wpAny_pyIter_enum he h
theorem qho:bootBuiltins "enumerate"=some (.type "enumerate"):=by decide +kernel
inductive qg0 (K:Frag) (R:(It->Hp->Prop)) (vs:List V) (H1:Hp):Prop
 | mk (a:_) (h1:vs=[.ref a]) (h2:(∃ xs,SqL K H1 a xs)) (h3:R (Ite K a) H1):qg0 K R vs H1
def qmg (K:Frag) (ta:TA):TI:=fun σ H R=>ta σ H fun vs H1=>qg0 K R vs H1
section
variable {X:Cx}
theorem qgl {a:Expr}{ta:TA}{p pos tp:Pos}{elts:List Expr}{kk:Nat} (hg:Gl X "enumerate") (hm:X.mg "enumerate"=none) (ha:PA X [a] ta) (hs:starEach [a] X.env=[(false,eval a X.env)]:=by rfl) :
   PI X (.Tuple elts kk tp) (.Call (.Name "enumerate" p) [a] [] pos) (qmg X.K ta):=by
 intro pins s σ H R I h;refine Call_ (JQ I hg hm qho (PyProof.Rows.callWith_type1 (thn (ha pos pins s σ H _ I h) fun us s1 zz_=>?_) hs rfl));obtain⟨vs,H1,I1,r1,q1⟩:=zz_;obtain⟨l,e,⟨xs,hq⟩,q⟩:=q1;subst e;obtain⟨u,rfl,ru⟩:=j5 r1;cases ru;obtain⟨its,rv,pl,hz⟩:=I1.list hq;refine call_enumerate_list pl.isList fun h' he hit hsz hk=>?_;have I2:Inv X pins σ H1 { s1 with heap:=h' }:=I1.kept (t':=s1.toks) hk;refine wpAny_pyIter_enum he ⟨s1.heap.objs.size+1,[s1.heap.objs.size+1,s1.heap.objs.size],_,Ite X.K l,H1,rfl,I2,qfF l _ _ (Nat.succ_ne_self _),⟨⟨_,he⟩,hit⟩,fun b hb=>?_,q⟩
 have hb1:s1.heap.objs.size≤b:=by
   rcases List.mem_cons.mp hb with e1|hb
   · rw[e1];exact Nat.le_succ _
   · have e1:b=s1.heap.objs.size:=by simpa using hb
     rw[e1];exact Nat.le_refl _
 exact I1.fpOk hb1 (I1.hok.fresh hb1)
end
theorem qeU {K:Frag}{a:Addr}{xs:List V}{g:TG}{tb:TS}{D:qfx}{σ:St}{H:Hp} (Pv:Nat->St->Hp->Prop) (h0:Pv 0 σ H) (hl:∀ i σ H,i≤xs.length->Pv i σ H->SqL K H a xs)
   (hs:∀ i x σ H p,xs[i]?=some x->Pv i σ H->H p=none->g (.ref p) σ (upd H p (.tup [.int i,x])) fun σ2 H2=>tb { D with nx:=Pv (i+1),ct:=Pv (i+1),bk:=D.nx } σ2 H2) (hd:∀ σ H,Pv xs.length σ H->D.nx σ H) :
   ∃ W:Nat->Nat->St->Hp->Prop,(∃ m,W 0 m σ H)∧∀ i m σ H,W i m σ H ->
     ((Ite K a).stop i H∧D.nx σ H)∨((Ite K a).go i H∧∃ N:St->Hp->Prop,(∀ σ' H',N σ' H'->∃ m',m' < m∧W (i+1) m' σ' H')∧∀ x H',(Ite K a).yld i H x H'->g x σ H' fun σ2 H2=>tb { D with nx:=N,ct:=N,bk:=D.nx } σ2 H2):=by
 refine⟨fun i m σ H=>m=xs.length - i∧i≤xs.length∧Pv i σ H,⟨xs.length,by simp,Nat.zero_le _,h0⟩,?_⟩;rintro i m σ H ⟨rfl,hi,p⟩;have q:=hl i σ H hi p;by_cases hlt:i < xs.length
 · refine .inr ⟨⟨xs,xs[i],q,by simp[hlt]⟩,Pv (i+1),fun σ' H' p'=>⟨xs.length - (i+1),by omega,rfl,hlt,p'⟩,fun x H' y=>?_⟩;obtain⟨t,v,hn,rfl,y,rfl⟩:=y;exact hs i v σ _ t (y xs q) p hn
 · have e:i=xs.length:=by omega
   subst e;exact .inl ⟨⟨xs,q,Nat.le_refl _⟩,hd σ H p⟩
def tyN (H:Hp):V->Option String
 | .non=>some "NoneType"
 | .bl _=>some "bool"
 | .int _=>some "int"
 | .str _=>some "str"
 | .ref a=>match H a with
   | some (.lst _)=>some "list"
   | some (.tup _)=>some "tuple"
   | some (.dK _)=>some "dict"
   | _=>none
 | _=>none
def qmH (c t:String):Bool:=t == c || (t == "bool" && c == "int")
theorem qhH {K:Frag}{H:Hp}{v:V}{t:String} (h:tyN H v=some t):qdI K H v (.type t):=by
 cases v with
 | non=>cases h;exact .non
 | bl b=>cases h;exact .bl b
 | int b=>cases h;exact .int b
 | str b=>cases h;exact .str b
 | byt b=>cases h
 | flt b=>cases h
 | ty b=>cases h
 | ref a =>
   simp only[tyN]at h;split at h
   · rename_i e;cases h;exact .lst e
   · rename_i e;cases h;exact .tup e
   · rename_i e;cases h;exact .dK e
   · cases h
def qdK:List String:=["NoneType","bool","int","str","list","tuple","dict"]
theorem qjw {H:Hp}{v:V}{t:String} (h:tyN H v=some t):t∈qdK:=by
 cases v with
 | non=>cases h;decide
 | bl b=>cases h;decide
 | int b=>cases h;decide
 | str b=>cases h;decide
 | byt b=>cases h
 | flt b=>cases h
 | ty b=>cases h
 | ref a =>
   simp only[tyN]at h;split at h<;>first|(cases h;decide)|cases h
def qcz:List String:=["bool","int","str","list","tuple","dict"]
theorem qlj (K:Frag) {t c:String} (ht:t∈qdK) (hc:c∈qcz):kitOne K (.type t) (.type c)=some (qmH c t):=by
 simp only[qdK,qcz,List.mem_cons,List.not_mem_nil,or_false]at ht hc;rcases ht with rfl|rfl|rfl|rfl|rfl|rfl|rfl<;>rcases hc with rfl|rfl|rfl|rfl|rfl|rfl<;>(unfold kitOne PySem.W.kitCls;rfl)
inductive qiV (xs:List V) (H:Hp) (Q:VK):Prop
 | mk (x c t:_) (h1:xs=[x,.ty c]) (h2:c∈qcz) (h3:tyN H x=some t) (h4:Q (.bl (qmH c t)) H):qiV xs H Q
def qm4:List V->Hp->VK->Prop:=fun xs H Q=>qiV xs H Q
section
variable {X:Cx}
theorem zN:CallR X (.builtin "isinstance") qm4:=by
 intro pins s σ H xs us Q I r h;obtain⟨x,c,t,rfl,hc,ht,q⟩:=h;obtain⟨u,w',rfl,ru,rw'⟩:=qfD r;cases (show w'=Value.type c from rw');exact qds I ru (qhH ht) (qlj X.K (qjw ht) hc) fun tk=>⟨.bl _,H,I.tok tk,rfl,q⟩
end
mutual
inductive DV (H:Hp):V->PyData->Prop
 | non:DV H .non .none
 | bl (b):DV H (.bl b) (.bool b)
 | int (i):DV H (.int i) (.int i)
 | str (x):DV H (.str x) (.str x)
 | lst {a xs ds}:Rd H a (.lst xs)->DVs H xs ds->DV H (.ref a) (.list ds)
 | tup {a xs ds}:Rd H a (.tup xs)->DVs H xs ds->DV H (.ref a) (.tuple ds)
inductive DVs (H:Hp):List V->List PyData->Prop
 | nil:DVs H [] []
 | cons {x xs d ds}:DV H x d->DVs H xs ds->DVs H (x::xs) (d::ds)
end
section
variable {P:Program}{w:World}{H:Hp}{h:Heap}
mutual
theorem DV.reads (ok:HOk P w H h):∀ {v:V}{d:PyData}{u:Value},DV H v d->RelV v u->∃ as,Reads h u d as
 | _,_,u,.non,r=>by cases (show u=Value.none from r);exact⟨_,.none⟩
 | _,_,u,.bl b,r=>by cases (show u=Value.bool b from r);exact⟨_,.bool b⟩
 | _,_,u,.int i,r=>by obtain⟨t,q⟩:=(show ∃ t,u=Value.int i t from r);cases q;exact⟨_,.int i t⟩
 | _,_,u,.str x,r=>by obtain⟨t,q⟩:=(show ∃ t,u=Value.str x t from r);cases q;exact⟨_,.str x t⟩
 | _,_,u,.lst (a:=a) rd q,r=>by
   cases (show u=Value.ref a from r);obtain⟨_,its,n,rv,e⟩:=rd.ok ok;obtain⟨as,z⟩:=DVs.reads ok q rv;exact⟨_,.list e rfl rfl z⟩
 | _,_,u,.tup (a:=a) rd q,r=>by
   cases (show u=Value.ref a from r);obtain⟨_,its,rv,ob,e,c,n,d⟩:=rd.ok ok;obtain⟨as,z⟩:=DVs.reads ok q rv;exact⟨_,.tuple e c d z⟩
theorem DVs.reads (ok:HOk P w H h):∀ {vs:List V}{ds:List PyData}{us:List Value},DVs H vs ds->Vals vs us->∃ as,ReadsAll h us ds as
 | _,_,_,.nil,.nil=>⟨_,.nil⟩
 | _,_,_,.cons a b,.cons r t=>by
   obtain⟨as,z⟩:=DV.reads ok a r;obtain⟨bs,y⟩:=DVs.reads ok b t;exact⟨_,.cons z y⟩
end
end
section
variable {X:Cx}
inductive qiW (x:V) (y:V) (H:Hp) (Q:VK):Prop
 | mk (d e:_) (h1:DV H x d) (h2:DV H y e) (h3:SeqAt.shaped d=true) (h4:SeqAt.shaped e=true) (h5:Q (.bl (PyData.eqv d e)) H):qiW x y H Q
def qmD:R2:=fun x y H Q=>qiW x y H Q
inductive qiS (x:V) (y:V) (H:Hp) (Q:VK):Prop
 | mk (d e:_) (h1:DV H x d) (h2:DV H y e) (h3:SeqAt.shaped d=true) (h4:SeqAt.shaped e=true) (h5:Q (.bl (!PyData.eqv d e)) H):qiS x y H Q
def qmy:R2:=fun x y H Q=>qiS x y H Q
theorem qk4 (hu:X.A.units+64 < cLine):OpR X (compareOp .Eq) qmD:=by
 intro pins s σ H x y v u Q I rx ry h;obtain⟨d,e,hd,he,sd,se,q⟩:=h;obtain⟨as,ra⟩:=hd.reads I.hok rx;obtain⟨bs,rb⟩:=he.reads I.hok ry;exact eq_dataH ra rb sd se hu ⟨.bl _,H,I,rfl,q⟩
theorem qk2 (hu:X.A.units+64 < cLine):OpR X (compareOp .NotEq) qmy:=by
 intro pins s σ H x y v u Q I rx ry h;obtain⟨d,e,hd,he,sd,se,q⟩:=h;obtain⟨as,ra⟩:=hd.reads I.hok rx;obtain⟨bs,rb⟩:=he.reads I.hok ry;exact ne_dataH ra rb sd se hu ⟨.bl _,H,I,rfl,q⟩
def ql2:R2:=fun x y H Q=>rI0 (fun i j=>.int (i+j)) x y H Q∨qmE x y H Q∨∃ i j,x=.str i∧y=.str j∧i.length+j.length≤sizeLine∧Q (.str (i++j)) H
theorem QT:OpR X (binaryOp .Add) ql2:=op_add.or (op_cat.or qfh)
def qm5:R2:=fun x y H Q=>rEq x y H Q∨qmD x y H Q
def qlB:R2:=fun x y H Q=>rNe x y H Q∨qmy x y H Q
theorem uEq (hU:X.A.units+64 < cLine):OpR X (compareOp .Eq) qm5:=op_eq.or (qk4 hU)
theorem uNe (hU:X.A.units+64 < cLine):OpR X (compareOp .NotEq) qlB:=op_ne.or (qk2 hU)
end
theorem jr:bootBuiltins "tuple"=some (.type "tuple"):=by decide +kernel
theorem zj:bootBuiltins "list"=some (.type "list"):=by decide +kernel
theorem jY:bootBuiltins "int"=some (.type "int"):=by decide +kernel
theorem qb2:bootBuiltins "bool"=some (.type "bool"):=by decide +kernel
theorem qhn:bootBuiltins "str"=some (.type "str"):=by decide +kernel
theorem qb1:bootBuiltins "dict"=some (.type "dict"):=by decide +kernel
theorem qM:bootBuiltins "len"=some (.builtin "len"):=by decide +kernel
theorem zi:bootBuiltins "max"=some (.builtin "max"):=by decide +kernel
theorem zD:bootBuiltins "min"=some (.builtin "min"):=by decide +kernel
theorem qv:bootBuiltins "isinstance"=some (.builtin "isinstance"):=by decide +kernel
structure Df (K:Frag) (mg:Str->Option Value) (x:Str) (st:Stmt) (ps:List Str) (f:Addr) (fd:FuncData):Prop where
 F:Fun K x x st f fd
 b:Binds K fd ps []
 m:mg x=some (.ref f)
 k:keepIn K (.ref f)=true
theorem Same.new {H:Hp}{p:Addr} (o:HO) (h:H p=none):Same H (upd H p o):=fun b u e=>by rw[qj (qi e h)];exact e
theorem Same.then {H H1:Hp} (s:Same H H1) {p:Addr} (o:HO) (h:H1 p=none):Same H (upd H1 p o):=s.trans (Same.new o h)
def But (p:Addr) (H H':Hp):Prop:=∀ b o,H b=some o->b≠p->H' b=some o
theorem But.refl (p:Addr) (H:Hp):But p H H:=fun _ _ h _=>h
theorem But.trans {p:Addr}{H H1 H2:Hp} (a:But p H H1) (b:But p H1 H2):But p H H2:=fun c o h n=>b c o (a c o h n) n
theorem But.put {p:Addr}{H H1:Hp} (s:But p H H1) (o:HO):But p H (upd H1 p o):=fun b u e n=>by rw[qj n];exact s b u e n
theorem But.same {p:Addr}{H H1 H2:Hp} (a:But p H H1) (b:Same H1 H2):But p H H2:=fun c o h n=>b c o (a c o h n)
theorem qk {n:Nat} (h:n≤1000):n≤sizeLine:=Nat.le_of_lt (qB h)
theorem qS {b:Bool}{A B:Prop} (e:b=false) (h:B):if b=true then A else B:=by rw[e];exact qbt h
theorem Ji {b:Bool}{A B:Prop} (e:b=true) (h:A):if b=true then A else B:=by rw[e];exact qfy h
theorem qhA {b:Bool}{A B:Prop} (h1:b=true->A) (h2:b=false->B):if b=true then A else B:=by
 cases b
 · exact qbt (h2 rfl)
 · exact qfy (h1 rfl)
theorem zP {c A B:Prop} [Decidable c] (h1:c->A) (h2:¬ c->B):if (decide c)=true then A else B:=by
 by_cases h:c
 · rw[decide_eq_true h];exact qfy (h1 h)
 · rw[decide_eq_false h];exact qbt (h2 h)
theorem qli {c A B:Prop} [Decidable c] (h1:¬ c->A) (h2:c->B):if (!decide c)=true then A else B:=by
 by_cases h:c
 · rw[decide_eq_true h];exact qbt (h2 h)
 · rw[decide_eq_false h];exact qfy (h1 h)
section
variable {prog:Program}{w:World}{A:Around}{R:Result->Shared->Prop}{s:Shared}
abbrev noE:Value->Shared->Prop:=fun _ _=>False
theorem qa5 {elt target iter:Expr}{ifs:List Expr}{scope:Scope}{pos:Pos}{it acc:Value}{env:Env} (I:Nat->Shared->Prop)
   (turn:∀ n s,I n s->wpAny (model prog w) A (pyNext it) (fun r s₁=>match r with
     | none=>R (.ok .next) s₁
     | some v=>wpAny (model prog w) A (letOwnedTupleGo target it v) (fun _ s₀=>wpAny (model prog w) A (assign target env v) (fun _ s₂ =>
         wpAny (model prog w) A (forIn ifs true fun c r=>if r=true then do let ok ← isTrue c env (eval c env);pure (ForInStep.yield ok) else pure (ForInStep.yield r)) (fun ok s₃ =>
           if ok=true then wpAny (model prog w) A (eval elt env) (fun x s₄ =>
             wpAny (model prog w) A (call (.builtin "list.append") [acc,x]) (fun _ s₅=>∃ m,m < n∧I m s₅) noE s₄) noE s₃
           else ∃ m,m < n∧I m s₃) noE s₂) noE s₀) noE s₁) noE s)
   (n:Nat) (h:I n s) :
   codeAny (model prog w) A (.compLoop (.ListComp elt [⟨target,iter,ifs,0⟩] scope pos) 0 it acc env) R s:=by
 refine codeAny_loop rfl I (fun n s hI=>?_) n h;show wpAny _ A ((compTurn (.ListComp elt [⟨target,iter,ifs,0⟩] scope pos) 0 it acc env).onRaise (fun x=>do noteFrame x env;theTreesLotGoes x)) _ _ s;refine wpAny_noted ?_;rw[compTurn_list];refine wpAny_bind (wpAny_standAt (wpAny_bind (wpAny_mono (turn n s hI) (fun r s₁ h₁=>?_) fun _ _ h'=>h'.elim)))
 cases r with
 | none=>exact wpAny_pure h₁
 | some v =>
   refine wpAny_bind (wpAny_mono h₁ (fun _ s₀ h₀=>?_) fun _ _ h'=>h'.elim);refine wpAny_bind (wpAny_mono h₀ (fun _ s₂ h₂=>wpAny_bind (wpAny_mono h₂ (fun ok s₃ h₃=>?_) fun _ _ h'=>h'.elim)) fun _ _ h'=>h'.elim)
   cases ok with
   | false=>exact wpAny_pure ⟨rfl,h₃⟩
   | true =>
     exact wpAny_bind (wpAny_bind (wpAny_mono h₃ (fun x s₄ h₄=>wpAny_bind (wpAny_mono h₄ (fun _ s₅ h₅=>wpAny_pure (wpAny_pure ⟨rfl,h₅⟩)) fun _ _ h'=>h'.elim)) fun _ _ h'=>h'.elim))
end
def zg (X:Cx) (scope:Scope) (N:List Str) (cl:List (Str×Addr)) (C:Addr) (s₀:Shared) (H₀:Hp) (ex:List Addr) (pn:List (Addr×Obj)):Cx where
 prog:=X.prog
 w:=X.w
 K:=X.K
 mg:=X.mg
 base:=X.base
 A:=X.A
 N:=N
 s₀:=s₀
 H₀:=H₀
 env:=compEnvC scope cl C X.env
 outer:=X.stack
 stack:=X.stack
 ex:=ex
 fn:=fun x=>!(cl.lookup x).isSome
 calm:=X.calm
 pn:=pn
 xe:=noE
def st0 (js:List (Option Nat)) (σ:St):St:=js.map fun o=>o.bind fun j=>(σ[j]?).join
def PTs (X:Cx) (ifs:List Expr) (t:TT):Prop :=
 ∀ (pins:List (Addr×Obj)) (s:Shared) (σ:St) (H:Hp) (Q:Bool->Hp->Prop),Inv X pins σ H s->t σ H Q ->
   wpAny (model X.prog X.w) X.A (forIn ifs true fun c r=>if r=true then do let ok ← isTrue c X.env (eval c X.env);pure (ForInStep.yield ok) else pure (ForInStep.yield r)) (TP X pins σ Q) X.xe s
def qmS:TT:=fun _ H Q=>Q true H
theorem Qb {X:Cx}:PTs X [] qmS:=fun _ _ _ H _ I h=>wpAny_tests_nil ⟨H,I,h⟩
theorem Jb {X:Cx}{c:Expr}{t:TT} (h:PT X c t):PTs X [c] t:=fun pins s σ H Q I q=>wpAny_tests_one (h pins s σ H Q I q)
def Q4 (J:It) (g:TG) (tt:TT) (te:TE) (D:Addr) (Q:VK) (σ0:St) (H0:Hp):Prop :=
 ∃ W:Nat->Nat->St->Hp->Prop,(∃ m,W 0 m σ0 H0)∧∀ i m σ' H',W i m σ' H' ->
   (J.stop i H'∧Q (.ref D) H')∨(J.go i H'∧∃ N:St->Hp->Prop,(∀ σ2 H2,N σ2 H2->∃ m',m' < m∧W (i+1) m' σ2 H2) ∧
     ∀ x H2,J.yld i H' x H2->g x σ' H2 fun σ3 H3=>tt σ3 H3 fun ok H4=>if ok=true then te σ3 H4 fun y H5=>∃ ys,H5 D=some (.lst ys)∧ys.length < sizeLine∧N σ3 (upd H5 D (.lst (ys++[y]))) else N σ3 H4)
def qkE (wi:TI) (g:TG) (tt:TT) (te:TE) (js:List (Option Nat)):TE:=fun σ H Q=>wi σ H fun J H1=>∀ D,H1 D=none->Q4 J g tt te D Q (st0 js σ) (upd H1 D (.lst []))
structure CompOk (X:Cx) (scope:Scope) (N:List Str) (cl:List (Str×Addr)) (js:List (Option Nat)):Prop where
 clos:closureFor scope X.env=pure cl
 sub:∀ x c,cl.lookup x=some c->X.env.cells.lookup x=some c
 all:∀ x,((relabel scope X.env).names.lookup x=some .cell∨(relabel scope X.env).names.lookup x=some .free)->∃ c,cl.lookup x=some c
 cell:∀ y∈scope.names,y.2≠.cell
 kind:scope.kind=.function
 names:∀ y∈scope.names,y.2=.local->scope.names.lookup y.1=some .local
 len:js.length=N.length
 fr:∀ (i j:Nat) (x:Str),js[i]?=some (some j)->N[i]?=some x->X.N[j]?=some x∧X.env.kindOf x=some .cell∧((relabel scope X.env).names.lookup x=some .cell∨(relabel scope X.env).names.lookup x=some .free)
section
variable {X:Cx}
theorem qjA {js:List (Option Nat)}{σ:St}{i:Nat}{v:V} (h:(st0 js σ)[i]?=some (some v)):∃ j,js[i]?=some (some j)∧σ[j]?=some (some v):=by
 unfold st0 at h;rw[List.getElem?_map]at h
 cases e:js[i]? with
 | none=>rw[e]at h;cases h
 | some o =>
   rw[e]at h
   cases o with
   | none=>cases h
   | some j =>
     refine⟨j,rfl,?_⟩;have h':(σ[j]?).join=some v:=by simpa using h
     cases e2:σ[j]? with
     | none=>rw[e2]at h';cases h'
     | some o2=>rw[e2]at h';cases o2 with
       | none=>cases h'
       | some u=>rw[show u=v by simpa using h']
theorem qke {pins:List (Addr×Obj)}{σ:St}{H:Hp}{s:Shared}{scope:Scope}{N:List Str}{cl:List (Str×Addr)}{js:List (Option Nat)}{C:Addr}{fp:List Addr} (k:CompOk X scope N cl js) (I:Inv X pins σ H s)
   (hf:∀ b∈fp,qfw X pins H b) (hfl:∀ b∈fp,b < s.heap.objs.size) (hC:s.heap.objs.size≤C):(zg X scope N cl C s H fp (X.pn++pins)).Ok where
 mod:=I.ok.mod
 kind:=k.kind
 glob:=I.ok.glob
 blt:=I.ok.blt
 above:=hC
 inj:=fun x y c h1 h2=>I.ok.inj x y c (k.sub _ _ h1) (k.sub _ _ h2)
 has:=fun x h=>k.all x h
 cab:=fun x c h1 h2=>by
   have h1':(!(cl.lookup x).isSome)=true:=h1;have h2':cl.lookup x=some c:=h2;rw[h2']at h1';cases h1'
 hd:=I.ok.hd
 frames:=I.ok.frames
 stk:=.inl rfl
 exf:=fun b hb=>⟨Nat.ne_of_lt (Nat.lt_of_lt_of_le (hfl b hb) hC),fun x c h=>(hf b hb).2.2.2.2.1 x c (k.sub _ _ h)⟩
 bs:=I.bs
 bsz:=Nat.le_trans I.ok.bsz I.sz
 noex:=fun b o e hb=>by
   rcases (hf b hb).2.2.2.1 with z|z
   · exact I.ok.noex b o e z
   · exact absurd (Nat.lt_of_lt_of_le (Heap.lt_size e) (Nat.le_trans I.ok.bsz z)) (Nat.lt_irrefl _)
 exfs:=fun b hb z=>by
   rcases List.mem_cons.mp (I.stkSub b z) with e|e
   · exact(hf b hb).2.1 e
   · exact(hf b hb).2.2.1 e
 funs:=I.stack
 frf:=I.stkFree
theorem qe1 {pins:List (Addr×Obj)}{σ:St}{H:Hp}{s:Shared}{h1:Heap}{t':Nat}{scope:Scope}{N:List Str}{cl:List (Str×Addr)}{js:List (Option Nat)}{C D:Addr}{fp:List Addr}{m:Str->Option Value} (k:CompOk X scope N cl js) (I:Inv X pins σ H s)
   (hf:∀ b∈fp,qfw X pins H b) (hfl:∀ b∈fp,b < s.heap.objs.size) (hD:s.heap.objs.size≤D) (hC:s.heap.objs.size≤C) (hDC:D≠C)
   (hn:h1.Ns C m) (hl:h1.get? D=some { cls:=.type "list",data:=.seq ([]:List Value).toArray }) (hk:∀ b o,s.heap.get? b=some o->h1.get? b=some o) :
   Inv (zg X scope N cl C s H fp (X.pn++pins)) [] (st0 js σ) (upd H D (.lst [])) { s with heap:=h1,toks:=t' }:=by
 have fD:H D=none:=I.hok.fresh hD;have fC:H C=none:=I.hok.fresh hC;have nC:∀ b,b < s.heap.objs.size->b≠C:=fun b hb=>Nat.ne_of_lt (Nat.lt_of_lt_of_le hb hC);refine⟨qke k I hf hfl hC,rfl,I.bare,?_,?_,?_,?_,?_,?_,?_,?_⟩
 · exact(Un.laid (fs:=frs X.stack) (ex:=fp) (o:=.lst []) hk hD fD)
 · refine⟨m,hn,fun i x v e1 e2 e3=>?_⟩;obtain⟨j,f1,f2⟩:=qjA e2;obtain⟨g1,g2,g3⟩:=k.fr i j x f1 e1;obtain⟨m',hn',hl'⟩:=I.loc;obtain⟨u,ru,lk⟩:=hl' j x v g1 f2 (.inr (.inl g2));refine⟨u,ru,.inr ⟨g3,?_⟩⟩;obtain⟨c,hc⟩:=k.all x g3;rcases lk with ⟨z,_⟩|⟨_,c',hc',ic⟩
   · rw[g2]at z;cases z
   · have e:=k.sub _ _ hc;rw[hc']at e;cases e;obtain⟨o,ho,hd⟩:=ic;exact⟨c,hc,o,hk _ _ ho,hd⟩
 · intro x c h;obtain⟨v,o,ho,hd⟩:=I.cell x c (k.sub _ _ h);exact⟨v,o,hk _ _ ho,hd⟩
 · show (upd H D (.lst [])) C=none;rw[qj hDC.symm];exact fC
 · intro x c h;obtain⟨v,o,ho,hd⟩:=I.cell x c (k.sub _ _ h);rw[qj (Nat.ne_of_lt (Nat.lt_of_lt_of_le (Heap.lt_size ho) hD))];exact I.freeC x c (k.sub _ _ h)
 · intro p hp;have hp':p∈X.pn++pins:=by simpa[zg] using hp
   obtain⟨e,n,ne,nf,d⟩:=I.pin p hp';have lt:=Heap.lt_size e;refine⟨hk _ _ e,by rw[qj (Nat.ne_of_lt (Nat.lt_of_lt_of_le lt hD))];exact n,nC _ lt,fun z=>?_,d⟩;rcases List.mem_cons.mp (I.stkSub _ z) with e|e
   · exact ne e
   · exact nf e
 · exact I.hok.laid hk hD ⟨Nat.zero_le _,[],0,.nil,hl⟩
 · show (st0 js σ).length=N.length;unfold st0;rw[List.length_map];exact k.len
theorem zJ {elt iter tg:Expr}{ifs:List Expr}{scope:Scope}{pos:Pos}{wi:TI}{g:TG}{tt:TT}{te:TE}{N:List Str}{cl:List (Str×Addr)}{js:List (Option Nat)} (hc:X.calm=true) (k:CompOk X scope N cl js) (hi:PI X tg iter wi)
   (hg:∀ C s₀ H₀ ex pn,PG (zg X scope N cl C s₀ H₀ ex pn) tg g) (ht:∀ C s₀ H₀ ex pn,PTs (zg X scope N cl C s₀ H₀ ex pn) ifs tt) (he:∀ C s₀ H₀ ex pn,PE (zg X scope N cl C s₀ H₀ ex pn) elt te)
   (hs:∀ x,foldedSetIterable iter X.env x=pure x:=by intro _;rfl) :
   PE X (.ListComp elt [⟨tg,iter,ifs,0⟩] scope pos) (qkE wi g tt te js):=by
 intro pins s σ H Q I h;rw[eval_ListComp];refine wpAny_comprehension_free (use:=none) rfl hs k.clos k.kind k.names ?_;refine thn (hi pins s σ H _ I h) fun v s1 h1=>thn h1 fun itv s2 h2=>?_;obtain⟨it,fp,tn,J,H2,e,I2,T,st2,f2,hD⟩:=h2;subst e;refine wpAny_newObj_type (wpAny_newFunctionEnv k.cell (by intro y hy;simp at hy) (fun h₁ hns₁ hsb₁=>?_) k.kind);dsimp only at hns₁ hsb₁ ⊢;generalize hH2:s2.heap.push { cls:=.type "list",dict:=none,data:=.seq ([]:List Value).toArray }=P2 at hns₁ hsb₁ ⊢;have hC:P2.objs.size=s2.heap.objs.size+1:=by rw[← hH2,Heap.size_push]
 have hDC:s2.heap.objs.size≠P2.objs.size:=by rw[hC];exact Nat.ne_of_lt (Nat.lt_succ_self _)
 have hCle:s2.heap.objs.size≤P2.objs.size:=by rw[hC];exact Nat.le_succ _
 have old:∀ b o,s2.heap.get? b=some o->h₁.get? b=some o:=fun b o e=>hsb₁.extBut b o (Nat.ne_of_lt (Nat.lt_of_lt_of_le (Heap.lt_size e) hCle)) (Heap.get?_push_of_some _ (hH2▸Heap.get?_push_of_some _ e));have hacc:h₁.get? s2.heap.objs.size=some { cls:=.type "list",data:=.seq ([]:List Value).toArray }:=hsb₁.extBut _ _ hDC (Heap.get?_push_of_some _ (hH2▸Heap.get?_push_size _ rfl))
 have hfl:∀ b∈fp,b < s2.heap.objs.size:=fun b hb=>by
   obtain⟨o,e,_⟩:=T.obj _ _ st2 b hb;exact Heap.lt_size e
 have fD:H2 s2.heap.objs.size=none:=I2.hok.fresh (Nat.le_refl _);obtain⟨W,⟨m0,w0⟩,turn⟩:=hD _ fD
 have IX:Inv (zg X scope N cl P2.objs.size s2 H2 fp (X.pn++pins)) [] (st0 js σ) (upd H2 s2.heap.objs.size (.lst [])) { s2 with heap:=h₁,toks:=s2.toks+([]:List (Str×Value)).length } :=
   qe1 k I2 f2 hfl (Nat.le_refl _) hCle hDC hns₁ hacc old
 have hg':=hg P2.objs.size s2 H2 fp (X.pn++pins);have ht':=ht P2.objs.size s2 H2 fp (X.pn++pins);have he':=he P2.objs.size s2 H2 fp (X.pn++pins)
 have stat:∀ {H':Hp},(∀ b∈fp,H' b=none)->∀ b∈fp,qfw (zg X scope N cl P2.objs.size s2 H2 fp (X.pn++pins)) [] H' b:=fun hn b hb=>by
   obtain⟨g0,g1,g2,g3,g4,g5⟩:=f2 b hb;refine⟨hn b hb,Nat.ne_of_lt (Nat.lt_of_lt_of_le (hfl b hb) hCle),fun z=>?_,.inl hb,fun x c h=>g4 x c (k.sub _ _ h),fun p hp=>g5 p (by simpa[zg] using hp)⟩;rcases List.mem_cons.mp (I2.stkSub b z) with e|e
   · exact g1 e
   · exact g2 e
 have loop:∀ s₃:Shared,s₃={ s2 with heap:=h₁,toks:=s2.toks+([]:List (Str×Value)).length } ->
     codeAny (model X.prog X.w) X.A (.compLoop (.ListComp elt [⟨tg,iter,ifs,0⟩] scope pos) 0 (.ref it) (.ref s2.heap.objs.size) (compEnvC scope cl P2.objs.size X.env))
       (compPost (model X.prog X.w) X.A X.xe none (EP X pins σ Q) (.ref s2.heap.objs.size) P2.objs.size) s₃:=by
   rintro s₃ rfl;refine qa5 (fun n s'=>∃ i σ' H',Inv (zg X scope N cl P2.objs.size s2 H2 fp (X.pn++pins)) [] σ' H' s'∧tn i s'.heap∧(∀ b∈fp,H' b=none)∧W i n σ' H') ?_ m0
     ⟨0,st0 js σ,_,IX,T.keep _ _ _ st2 (fun b hb o e=>old b o e),fun b hb=>by rw[qj (Nat.ne_of_lt (hfl b hb))];exact(f2 b hb).1,w0⟩
   rintro n s3 ⟨i,σ3,H3,I3,st3,fr3,w3⟩;rcases turn i n σ3 H3 w3 with ⟨stop,qn⟩|⟨go,N2,hN,step⟩
   · refine thn (T.done (zg X scope N cl P2.objs.size s2 H2 fp (X.pn++pins)) rfl rfl rfl hc i [] s3 σ3 H3 noE I3 (stat fr3) st3 stop) fun r s4 ⟨hr,I4⟩=>?_;subst hr;obtain⟨m4,hn4,_⟩:=id I4.loc;refine⟨m4,hn4,fun h' hsb=>⟨.ref s2.heap.objs.size,H3,?_,rfl,qn⟩⟩;have u4:Un (frs X.stack) fp H2 H3 s2.heap s4.heap:=I4.base;have ltC:∀ b o,s2.heap.get? b=some o->b≠P2.objs.size:=fun b o e=>Nat.ne_of_lt (Nat.lt_of_lt_of_le (Heap.lt_size e) hCle)
     have u5:Un (frs X.stack) fp H2 H3 s2.heap h' :=
       { keep:=fun b o e n hb hx=>hsb.extBut b o (ltC b o e) (u4.keep b o e n hb hx)
         slot:=fun b o e n hb hx=>by
           obtain⟨sl,q⟩:=u4.slot b o e n hb hx;exact⟨sl,hsb.extBut b _ (ltC b o e) q⟩
         free:=u4.free
         there:=fun b o e hx=>by
           obtain⟨o',q⟩:=u4.there b o e hx;exact⟨o',hsb.extBut b _ (ltC b o e) q⟩
         tups:=u4.tups
         frzs:=u4.frzs
         tbls:=u4.tbls }
     have fC:H3 P2.objs.size=none:=I4.free
     have hok5:HOk X.prog X.w H3 h':=fun b u e=>(I4.hok b u e).stay (fun c v hc' q=>hsb.extBut c v (fun z=>by
       rcases hc' with y|y
       · rw[y]at z;rw[z,fC]at e;cases e
       · rw[z,fC]at y;cases y) q) (fun _ q=>q) fun _ _ q=>q
     exact I2.call' (s':={ s4 with heap:=h' }) I4.os u5 hok5 I4.bare fun b hb=>by
       obtain⟨g0,g1,g2,g3,g4,g5⟩:=f2 b hb;exact⟨g3,g1,g4,g5⟩
   · refine thn (T.item (zg X scope N cl P2.objs.size s2 H2 fp (X.pn++pins)) rfl rfl rfl hc i [] s3 σ3 H3 noE I3 (stat fr3) st3 go) fun r s4 ⟨u,hr,h4⟩=>?_;subst hr;refine thn h4 fun _ s5 zz_=>?_;obtain⟨x,H5,I5,r5,y5,st5,fr5⟩:=zz_;have I5':=I5.pinned (stat fr5) (T.obj _ _ st5);refine thn (hg' _ s5 σ3 H5 x u _ I5' r5 (step x H5 y5)) fun _ s6 zz_=>?_;obtain⟨σ6,H6,I6,q6⟩:=zz_;refine thn (ht' _ s6 σ6 H6 _ I6 q6) fun ok s7 zz_=>?_;obtain⟨H7,I7,q7⟩:=zz_;have again:∀ {s8:Shared}{σ8:St}{H8:Hp},Inv (zg X scope N cl P2.objs.size s2 H2 fp (X.pn++pins)) ([]++qbP fp s5.heap) σ8 H8 s8->N2 σ8 H8 ->
         ∃ m,m < n∧∃ i σ' H',Inv (zg X scope N cl P2.objs.size s2 H2 fp (X.pn++pins)) [] σ' H' s8∧tn i s8.heap∧(∀ b∈fp,H' b=none)∧W i m σ' H':=fun {s8 σ8 H8} I8 n8=>by
       obtain⟨m',hm,w8⟩:=hN σ8 H8 n8;refine⟨m',hm,i+1,σ8,H8,I8.unpinned,T.keep _ _ _ st5 fun b hb o e=>(I8.pin (b,o) (List.mem_append_right _ (List.mem_append_right _ (zX hb e)))).1,fun b hb=>?_,w8⟩;obtain⟨o,e,d⟩:=T.obj _ _ st5 b hb;exact(I8.pin (b,o) (List.mem_append_right _ (List.mem_append_right _ (zX hb e)))).2.1
     cases ok with
     | false=>exact again I7 (by simpa using q7)
     | true =>
       have q7':te σ6 H7 fun y H5=>∃ ys,H5 s2.heap.objs.size=some (.lst ys)∧ys.length < sizeLine∧N2 σ6 (upd H5 s2.heap.objs.size (.lst (ys++[y]))):=by simpa using q7
       refine thn (he' _ s7 σ6 H7 _ I7 q7') fun xv s8 zz_=>?_;obtain⟨y,H8,I8,r8,ys,hy,hlen,n8⟩:=zz_;refine thn (qY (X:=zg X scope N cl P2.objs.size s2 H2 fp (X.pn++pins)) _ s8 σ6 H8 (.ref s2.heap.objs.size) [y] (.ref s2.heap.objs.size) [xv] (fun _ H9=>N2 σ6 H9) I8 rfl (.cons r8 .nil) ⟨_,ys,y,rfl,rfl,hy,hlen,n8⟩) fun _ s9 ⟨_,H9,I9,_,n9⟩=>again I9 n9
 exact codeAny_compStart_list (loop _ rfl) (T.self _ 0 _ _ _ (T.keep _ _ _ st2 (fun b hb o e=>old b o e)) (loop _ rfl))
end
def Its (x:Str):It:=⟨fun i _=>i < x.cps.size,fun i H v H'=>H'=H∧∃ c,x.cps[i]?=some c∧v=.str ⟨#[c]⟩,fun i _=>x.cps.size≤i⟩
theorem qjb {M:Model}{A:Around}{E:Value->Shared->Prop}{s:Shared}{tg:Expr}{it:Addr}{y:Str}{t:Tok}{Q:Unit->Shared->Prop} (hQ:Q () s):wpAny M A (letOwnedTupleGo tg (.ref it) (.str y t)) Q E s:=by
 unfold letOwnedTupleGo;cases tg<;>exact wpAny_pure hQ
theorem qhJ {P:Program}{w:World}{K:Frag}{tg:Expr} (it:Addr) (x:Str) (t:Tok) (ty:String) (hty:ty="str_ascii_iterator"∨ty="str_iterator") :
   qjo P w K tg (Its x) [it] it (fun i h=>h.IsStrIter it ty x t i) where
 mem:=by simp
 obj:=fun i h st b hb=>by
   have e:b=it:=by simpa using hb
   subst e;obtain⟨o,e,c,d⟩:=st;exact⟨o,e,fun v z=>by rw[d]at z;cases z⟩
 keep:=fun i h h' st k=>by
   obtain⟨o,e,r⟩:=st;exact⟨o,k it (by simp) o e,r⟩
 item:=by
   intro X hP hw hK hc i pins s σ H E I hf st hg;subst hP hw hK;obtain⟨f0,f1,f2,f3,f4,f5⟩:=hf it (by simp);have hi:i < x.cps.size:=hg;rcases hty with rfl|rfl
   · refine wpAny_pyNext_ascii_item st (c:=x.cps[i]) (by simp[hi]) fun h' st' sb=>?_;have I1:Inv X pins σ H { s with heap:=h',toks:=s.toks+1 }:=I.turned (fun b o hb e=>sb.extBut b o hb e) f0 f1 f3 f4 f5;exact⟨_,rfl,qjb (s:={ s with heap:=h',toks:=s.toks+1 }) ⟨.str ⟨#[x.cps[i]]⟩,H,I1,⟨_,rfl⟩,⟨rfl,x.cps[i],by simp[hi],rfl⟩,st',fun b hb=>(hf b hb).1⟩⟩
   · refine wpAny_pyNext_wide_item st (c:=x.cps[i]) (by simp[hi]) fun h' st' sb=>?_;have I1:Inv X pins σ H { s with heap:=h',toks:=s.toks+1 }:=I.turned (fun b o hb e=>sb.extBut b o hb e) f0 f1 f3 f4 f5;exact⟨_,rfl,qjb (s:={ s with heap:=h',toks:=s.toks+1 }) ⟨.str ⟨#[x.cps[i]]⟩,H,I1,⟨_,rfl⟩,⟨rfl,x.cps[i],by simp[hi],rfl⟩,st',fun b hb=>(hf b hb).1⟩⟩
 done:=by
   intro X hP hw hK hc i pins s σ H E I hf st hg;subst hP hw hK;obtain⟨f0,f1,f2,f3,f4,f5⟩:=hf it (by simp);have hi:x.cps.size≤i:=hg;rcases hty with rfl|rfl
   · exact wpAny_pyNext_ascii_end (I.ok.hd hc) st (by simp[hi]) fun h' eb=>⟨rfl,I.turned (t':=s.toks) (fun b o hb e=>eb b o hb e) f0 f1 f3 f4 f5⟩
   · exact wpAny_pyNext_wide_end (I.ok.hd hc) st (by simp[hi]) fun h' eb=>⟨rfl,I.turned (t':=s.toks) (fun b o hb e=>eb b o hb e) f0 f1 f3 f4 f5⟩
 self:=fun _ _ _ _ _ st h=>by
   rcases hty with rfl|rfl
   · exact wpAny_pyIter_striter_ascii st h
   · exact wpAny_pyIter_striter_wide st h
def qnd (te:TE):TI:=fun σ H R=>te σ H fun x H1=>∃ z,x=.str z∧R (Its z) H1
section
variable {X:Cx}{tg:Expr}
theorem qkW {e:Expr}{te:TE} (he:PE X e te):PI X tg e (qnd te):=by
 intro pins s σ H R I h;refine thn (he pins s σ H _ I h) fun v s1 zz_=>?_;obtain⟨x,H1,I1,r1,q1⟩:=zz_;obtain⟨z,e,q⟩:=q1;subst e;obtain⟨t,rfl⟩:=r1
 have fin:∀ ty,(ty="str_ascii_iterator"∨ty="str_iterator")->PIE X pins σ tg R (.ref s1.heap.objs.size) { s1 with heap:=s1.heap.push { cls:=.type ty,data:=.fields #[.str z t,.int 0 0] } }:=fun ty hty=>by
   refine⟨s1.heap.objs.size,[s1.heap.objs.size],_,_,H1,rfl,I1.kept (t':=s1.toks) fun b o e=>Heap.get?_push_of_some _ e,qhJ _ z t ty hty,⟨_,Heap.get?_push_size _ rfl,rfl,rfl⟩,fun b hb=>?_,q⟩;have e:b=s1.heap.objs.size:=by simpa using hb
   subst e;exact I1.fpOk (Nat.le_refl _) (I1.hok.fresh (Nat.le_refl _))
 cases ha:z.cps.all (· < 128)
 · exact wpAny_pyIter_wide ha (fin _ (.inr rfl))
 · exact wpAny_pyIter_ascii ha (fin _ (.inl rfl))
end
theorem qiA {x:Str}{g:TG}{tt:TT}{te:TE}{D:Addr}{Q:VK}{σ:St}{H:Hp} (Pv:Nat->St->Hp->Prop) (h0:Pv 0 σ H)
   (hs:∀ i c σ H,x.cps[i]?=some c->Pv i σ H->g (.str ⟨#[c]⟩) σ H fun σ3 H3=>tt σ3 H3 fun ok H4=>if ok=true then te σ3 H4 fun y H5=>∃ ys,H5 D=some (.lst ys)∧ys.length < sizeLine∧Pv (i+1) σ3 (upd H5 D (.lst (ys++[y]))) else Pv (i+1) σ3 H4)
   (hd:∀ σ H,Pv x.cps.size σ H->Q (.ref D) H) :
   Q4 (Its x) g tt te D Q σ H:=by
 refine⟨fun i m σ H=>m=x.cps.size - i∧i≤x.cps.size∧Pv i σ H,⟨x.cps.size,by simp,Nat.zero_le _,h0⟩,?_⟩;rintro i m σ H ⟨rfl,hi,p⟩;by_cases hlt:i < x.cps.size
 · refine .inr ⟨hlt,Pv (i+1),fun σ' H' p'=>⟨x.cps.size - (i+1),by omega,rfl,hlt,p'⟩,fun v H' y=>?_⟩;obtain⟨rfl,c,hc,rfl⟩:=y;exact hs i c σ _ hc p
 · have e:i=x.cps.size:=by omega
   subst e;exact .inl ⟨Nat.le_refl _,hd σ H p⟩
theorem Jl {lo:Int}{n:Nat}{g:TG}{tt:TT}{te:TE}{D:Addr}{Q:VK}{σ:St}{H:Hp} (Pv:Nat->St->Hp->Prop) (h0:Pv 0 σ H)
   (hs:∀ i σ H,i < n->Pv i σ H->g (.int (lo+i)) σ H fun σ3 H3=>tt σ3 H3 fun ok H4=>if ok=true then te σ3 H4 fun y H5=>∃ ys,H5 D=some (.lst ys)∧ys.length < sizeLine∧Pv (i+1) σ3 (upd H5 D (.lst (ys++[y]))) else Pv (i+1) σ3 H4)
   (hd:∀ σ H,Pv n σ H->Q (.ref D) H) :
   Q4 (Itr lo n) g tt te D Q σ H:=by
 refine⟨fun i m σ H=>m=n - i∧i≤n∧Pv i σ H,⟨n,by simp,Nat.zero_le _,h0⟩,?_⟩;rintro i m σ H ⟨rfl,hi,p⟩;by_cases hlt:i < n
 · refine .inr ⟨hlt,Pv (i+1),fun σ' H' p'=>⟨n - (i+1),by omega,rfl,hlt,p'⟩,fun v H' y=>?_⟩;obtain⟨rfl,rfl⟩:=y;exact hs i σ _ hlt p
 · have e:i=n:=by omega
   subst e;exact .inl ⟨Nat.le_refl _,hd σ H p⟩
theorem zM {K:Frag}{a:Addr}{xs:List V}{g:TG}{tt:TT}{te:TE}{D:Addr}{Q:VK}{σ:St}{H:Hp} (Pv:Nat->St->Hp->Prop) (h0:Pv 0 σ H) (hl:∀ i σ H,i≤xs.length->Pv i σ H->SqL K H a xs)
   (hs:∀ i x σ H,xs[i]?=some x->Pv i σ H->g x σ H fun σ3 H3=>tt σ3 H3 fun ok H4=>if ok=true then te σ3 H4 fun y H5=>∃ ys,H5 D=some (.lst ys)∧ys.length < sizeLine∧Pv (i+1) σ3 (upd H5 D (.lst (ys++[y]))) else Pv (i+1) σ3 H4)
   (hd:∀ σ H,Pv xs.length σ H->Q (.ref D) H) :
   Q4 (Itl K a) g tt te D Q σ H:=by
 refine⟨fun i m σ H=>m=xs.length - i∧i≤xs.length∧Pv i σ H,⟨xs.length,by simp,Nat.zero_le _,h0⟩,?_⟩;rintro i m σ H ⟨rfl,hi,p⟩;have q:=hl i σ H hi p;by_cases hlt:i < xs.length
 · refine .inr ⟨⟨xs,xs[i],q,by simp[hlt]⟩,Pv (i+1),fun σ' H' p'=>⟨xs.length - (i+1),by omega,rfl,hlt,p'⟩,fun v H' y=>?_⟩;obtain⟨e,y⟩:=y;subst e;exact hs i v σ _ (y xs q) p
 · have e:i=xs.length:=by omega
   subst e;exact .inl ⟨⟨xs,q,Nat.le_refl _⟩,hd σ H p⟩
theorem qhq:∀ {bs:List Bool}{us:List Value},Vals (bs.map V.bl) us->us=bs.map Value.bool
 | [],_,r=>by cases r;rfl
 | b::bs,_,r=>by
   cases r with
   | cons r t =>
     cases r;rw[qhq t];rfl
section
variable {X:Cx}
def qm6 (K:Frag):List V->Hp->VK->Prop:=fun xs H Q=>∃ (p:Addr) (bs:List Bool),xs=[.ref p]∧SqL K H p (bs.map V.bl)∧Q (.bl (bs.all id)) H
theorem qdG {α:Type} (f:α->Bool) (d:α):∀ l:List α,(List.range l.length).all (fun i=>f (l.getD i d))=l.all f
 | []=>rfl
 | a::l=>by
   rw[List.length_cons,List.range_succ_eq_map,List.all_cons,List.all_map,List.all_cons,← qdG f d l];rfl
theorem qhj (hc:X.calm=true):CallR X (.builtin "all") (qm6 X.K):=by
 intro pins s σ H xs us Q I r h;obtain⟨p,bs,rfl,hq,q⟩:=h;obtain⟨u,rfl,ru⟩:=j5 r;cases ru;obtain⟨its,rv,pl,hz⟩:=I.list hq;have eits:=qhq rv;subst eits;have hlt:p < s.heap.objs.size:=by obtain⟨_,_,e,_⟩:=pl;exact Heap.lt_size e
 refine call_all_walk (wpAny_pyIter_list pl.isList ?_);have W:=Walks.list (prog:=X.prog) (w:=X.w) (A:=X.A.in1) (I.ok.hd hc) s.heap.objs.size p (Nat.ne_of_lt hlt) (bs.map Value.bool).toArray;refine⟨_,_,_,_,_,_,(fun i=>(bs.getD i true)),rfl,W,⟨⟨_,Heap.get?_push_size _ rfl,rfl,rfl⟩,pl.isList.push _⟩,?_,?_⟩
 · intro i v s' Q' E' hP hQ;have hv:(bs.map Value.bool)[i]?=some v:=by simpa using hP
   rw[List.getElem?_map]at hv
   cases e:bs[i]? with
   | none=>rw[e]at hv;cases hv
   | some b =>
     rw[e]at hv;cases hv;have e2:bs.getD i true=b:=by rw[List.getD_eq_getElem?_getD,e];rfl
     have hQ:Q' (bs.getD i true) s':=hQ;rw[e2]at hQ;exact wpAny_truthy_bool hQ
 · intro h' tk hk;have es:(bs.map Value.bool).toArray.size=bs.length:=by simp
   have ea:(List.range (bs.map Value.bool).toArray.size).all (fun i=>bs.getD i true)=bs.all id:=by rw[es];exact qdG id true bs
   refine⟨.bl _,H,?_,by rw[ea];rfl,q⟩;exact I.kept (t':=tk) fun b o e=>hk b o (by simp;exact Nat.ne_of_lt (Heap.lt_size e)) (Heap.get?_push_of_some _ e)
end
theorem qhp:bootBuiltins "all"=some (.builtin "all"):=by decide +kernel
theorem qfP:∀ {ys:List Str}{us:List Value},Vals (ys.map V.str) us->StrsAre us ys
 | [],_,r=>by cases r;exact .nil
 | y::ys,_,r=>by
   cases r with
   | cons r t =>
     obtain⟨k,rfl⟩:=r;exact .cons y k (qfP t)
section
variable {X:Cx}
def ql1 (K:Frag):V->List V->Hp->VK->Prop:=fun x xs H Q=>∃ (sep:Str) (p:Addr) (ys:List Str),x=.str sep∧xs=[.ref p]∧SqL K H p (ys.map V.str)∧(ys.map (·.length)).sum+ys.length * sep.length≤16777216∧Q (.str (Txt.join sep ys)) H
theorem qgG:MtR X "str.join" (ql1 X.K):=by
 intro pins s σ H x xs v us Q I rx r h;obtain⟨sep,p,ys,rfl,rfl,hq,hz,q⟩:=h;obtain⟨t,rfl⟩:=rx;obtain⟨u,rfl,ru⟩:=j5 r;cases ru;obtain⟨its,rv,pl,_⟩:=I.list hq;exact join_list pl.isList (by simpa using qfP rv) hz fun t' k=>⟨.str _,H,I.tok k,⟨_,rfl⟩,q⟩
def qmw:V->Option Int->Option Int->Hp->VK->Prop:=fun x lo hi H Q=>∃ z,x=.str z∧z.length≤sizeLine∧Q (.str (Txt.slice z lo hi)) H
theorem qkK:SlR X qmw:=by
 intro pins s σ H x v vl vu lo hi sl Q I rx hs pl pu h;obtain⟨z,rfl,hz,q⟩:=h;obtain⟨t,rfl⟩:=rx;refine⟨"str",_,F.slot_str_getitem.lookup,typeIs_str _ _ _,?_⟩;have fin:∀ t' k,EP X pins σ Q (.str (Txt.slice z lo hi) t') { s with toks:=k }:=fun t' k=>⟨.str _,H,I.tok k,⟨_,rfl⟩,q⟩
 obtain⟨o,e1,e2,e3⟩:=hs
 cases pl with
 | none =>
   cases pu with
   | none=>exact wpAny_getItem_str_slice (l:=none) (u:=none) (st:=none) ⟨o,e1,e2,e3⟩ rfl (post_val_or_str ⟨Nat.le_trans (Txt.slice_le z _ _) hz,fin⟩)
   | int j u=>exact wpAny_getItem_str_slice (l:=none) (u:=some (j,u)) (st:=none) ⟨o,e1,e2,e3⟩ rfl (post_val_or_str ⟨Nat.le_trans (Txt.slice_le z _ _) hz,fin⟩)
 | int i ui =>
   cases pu with
   | none=>exact wpAny_getItem_str_slice (l:=some (i,ui)) (u:=none) (st:=none) ⟨o,e1,e2,e3⟩ rfl (post_val_or_str ⟨Nat.le_trans (Txt.slice_le z _ _) hz,fin⟩)
   | int j u=>exact wpAny_getItem_str_slice (l:=some (i,ui)) (u:=some (j,u)) (st:=none) ⟨o,e1,e2,e3⟩ rfl (post_val_or_str ⟨Nat.le_trans (Txt.slice_le z _ _) hz,fin⟩)
theorem uSl:SlR X (fun x lo hi H Q=>qmx X.K x lo hi H Q∨qmw x lo hi H Q):=sl_list.or qkK
theorem qda:OpR X (compareOp .LtE) (fun x y H Q=>∃ i j,x=.str i∧y=.str j∧Q (.bl (!decide (j.cps.toList < i.cps.toList))) H):=by
 intro pins s σ H x y v u Q I rx ry h;obtain⟨i,j,rfl,rfl,q⟩:=h;obtain⟨t,rfl⟩:=rx;obtain⟨t',rfl⟩:=ry;exact P.le_str ⟨.bl _,H,I,rfl,q⟩
end
def z9 (cells:List (Str×Addr)):List (Str×NameKind)->List (Str×Addr)->List (Str×Addr)
 | [],acc=>acc
 | (n,k)::r,acc=>z9 cells r (if k == .free then (n,(cells.lookup n).getD 0)::acc else acc)
def qji (env:Env) (x:Str×NameKind) (cs:List (Str×Addr)):Sem (ForInStep (List (Str×Addr))):=match x with
 | (name,kind)=>if (kind == NameKind.free)=true then (do let a ← cellOf env name;pure (ForInStep.yield ((name,a)::cs))) else pure (ForInStep.yield cs)
theorem qhe {env:Env}{n:Str}{k:NameKind}{acc:List (Str×Addr)} (h:k=.free->∃ c,env.cells.lookup n=some c) :
   qji env (n,k) acc=pure (ForInStep.yield (if k == .free then (n,(env.cells.lookup n).getD 0)::acc else acc)):=by
 by_cases hk:k=.free
 · subst hk;obtain⟨c,hc⟩:=h rfl;show (do let a ← cellOf env n;pure (ForInStep.yield ((n,a)::acc)))=(pure (ForInStep.yield ((n,(env.cells.lookup n).getD 0)::acc)):Sem _);unfold cellOf;rw[hc];rfl
 · cases k<;>first|exact absurd rfl hk|rfl
theorem qbX {env:Env}:∀ (names:List (Str×NameKind)) (acc:List (Str×Addr)),(∀ y∈names,y.2=.free->∃ c,env.cells.lookup y.1=some c) ->
   (forIn names acc (qji env))=(pure (z9 env.cells names acc):Sem (List (Str×Addr)))
 | [],acc,_=>rfl
 | (n,k)::r,acc,h=>by
   rw[List.forIn_cons,qhe fun e=>h (n,k) List.mem_cons_self e];exact qbX (env:=env) r _ fun y hy=>h y (List.mem_cons_of_mem _ hy)
theorem Jm {scope:Scope}{env:Env} (h:∀ y∈scope.names,y.2=.free->∃ c,env.cells.lookup y.1=some c):closureFor scope env=pure (z9 env.cells scope.names []):=by
 unfold closureFor;exact(congrArg (fun (m:Sem (List (Str×Addr)))=>m >>= fun cs=>pure cs) (qbX (env:=env) scope.names [] h)).trans rfl
theorem zF {cells:List (Str×Addr)}{x:Str}:∀ (names:List (Str×NameKind)) (acc:List (Str×Addr)),(∀ y∈names,y.2=.free->∃ c,cells.lookup y.1=some c)->(∀ c,acc.lookup x=some c->cells.lookup x=some c) ->
   (∀ c,(z9 cells names acc).lookup x=some c->cells.lookup x=some c)∧(((x,NameKind.free)∈names∨(acc.lookup x).isSome=true)->((z9 cells names acc).lookup x).isSome=true)
 | [],acc,_,ha=>⟨ha,fun h=>h.elim (fun z=>nomatch z) id⟩
 | (n,k)::r,acc,h,ha=>by
   unfold z9;have hr:∀ y∈r,y.2=.free->∃ c,cells.lookup y.1=some c:=fun y hy=>h y (List.mem_cons_of_mem _ hy)
   cases hk:(k == NameKind.free) with
   | false =>
     obtain⟨i1,i2⟩:=zF (cells:=cells) (x:=x) r acc hr ha;refine⟨by simpa using i1,fun z=>?_⟩
     have:((z9 cells r acc).lookup x).isSome=true:=i2 (by
       rcases z with z|z
       · rcases List.mem_cons.mp z with e|e
         · cases e;cases hk
         · exact .inl e
       · exact .inr z)
     simpa using this
   | true =>
     obtain⟨c,hc⟩:=h (n,k) List.mem_cons_self (by simpa using hk);have hc:cells.lookup n=some c:=hc;have ek:k=NameKind.free:=by simpa using hk
     subst ek
     have ha':∀ c',((n,(cells.lookup n).getD 0)::acc).lookup x=some c'->cells.lookup x=some c':=fun c' z=>by
       rw[List.lookup_cons]at z
       cases e:x == n with
       | true =>
         rw[e]at z;have e':x=n:=by simpa using e
         rw[e',hc]at *;simpa using z
       | false=>rw[e]at z;exact ha c' z
     obtain⟨i1,i2⟩:=zF (cells:=cells) (x:=x) r _ hr ha';refine⟨i1,fun z=>i2 ?_⟩;by_cases e:x=n
     · right;rw[List.lookup_cons,e];simp
     · rcases z with z|z
       · rcases List.mem_cons.mp z with q|q
         · cases q;exact absurd rfl e
         · exact .inl q
       · right;rw[List.lookup_cons]
         have:(x == n)=false:=by simpa using e
         rw[this];exact z
theorem ZO {x:Str}{k:NameKind}:∀ {names:List (Str×NameKind)},names.lookup x=some k->(x,k)∈names
 | [],h=>by cases h
 | (n,j)::r,h=>by
   rw[List.lookup_cons]at h
   cases e:x == n with
   | true =>
     rw[e]at h;have e':x=n:=by simpa using e
     cases h;rw[e'];exact List.mem_cons_self
   | false=>rw[e]at h;exact List.mem_cons_of_mem _ (ZO h)
theorem qaF {scope:Scope}{env:Env}{x:Str}{k:NameKind} (h:(x,k)∈(relabel scope env).names):(x,k)∈scope.names∨(k=.cell∧(x,NameKind.free)∈scope.names):=by
 have h':(x,k)∈scope.names.map fun (n,k)=>if (k == .free && env.scope.kind == .function && env.kindOf n == some .cell) then (n,.cell) else (n,k):=h
 obtain⟨⟨n,j⟩,hm,e⟩:=List.mem_map.mp h';simp only at e;split at e
 · rename_i c
   cases e
   have:j=.free:=by
     have c1:=(Bool.and_eq_true_iff.mp (Bool.and_eq_true_iff.mp c).1).1;simpa using c1
   subst this;exact .inr ⟨rfl,hm⟩
 · cases e;exact .inl hm
theorem Qn {env:Env}{x:Str} (hX:env.scope.kind=.function) (g3:env.kindOf x=some .cell):∀ {names:List (Str×NameKind)},names.lookup x=some .free ->
   (names.map fun (n,k)=>if (k == NameKind.free && env.scope.kind == .function && env.kindOf n == some .cell) then (n,NameKind.cell) else (n,k)).lookup x=some .cell
 | [],h=>by cases h
 | (n,k)::r,h=>by
   have ih:=Qn hX g3 (names:=r);show List.lookup x ((if (k == NameKind.free && env.scope.kind == .function && env.kindOf n == some .cell)=true then (n,NameKind.cell) else (n,k))::_)=_;rw[List.lookup_cons]at h
   cases e:x == n with
   | true =>
     rw[e]at h;have e':x=n:=by simpa using e
     have ek:k=.free:=by simpa using h
     rw[ek,← e',if_pos (show (NameKind.free == NameKind.free && env.scope.kind == .function && env.kindOf x == some .cell)=true by rw[hX,g3];decide),List.lookup_cons];simp
   | false =>
     rw[e]at h;by_cases hc:(k == NameKind.free && env.scope.kind == .function && env.kindOf n == some .cell)=true
     · rw[if_pos hc,List.lookup_cons,e];exact ih h
     · rw[if_neg hc,List.lookup_cons,e];exact ih h
theorem CompOk.of {X:Cx}{scope:Scope}{N:List Str}{js:List (Option Nat)} (hkind:scope.kind=.function) (hcell:∀ y∈scope.names,y.2≠.cell) (hnames:∀ y∈scope.names,y.2=.local->scope.names.lookup y.1=some .local)
   (hX:X.env.scope.kind=.function) (hfree:∀ y∈scope.names,y.2=.free->X.env.kindOf y.1=some .cell∧∃ c,X.env.cells.lookup y.1=some c) (len:js.length=N.length)
   (hfr:∀ (i j:Nat) (x:Str),js[i]?=some (some j)->N[i]?=some x->X.N[j]?=some x∧scope.names.lookup x=some .free) :
   CompOk X scope N (z9 X.env.cells scope.names []) js where
 clos:=Jm fun y hy z=>(hfree y hy z).2
 sub:=fun x c h=>(zF scope.names [] (fun y hy z=>(hfree y hy z).2) (fun c h=>by cases h)).1 c h
 all:=fun x h=>by
   have hm:(x,NameKind.free)∈scope.names:=by
     rcases h with h|h
     · rcases qaF (ZO h) with z|⟨_,z⟩
       · exact absurd rfl (hcell _ z)
       · exact z
     · rcases qaF (ZO h) with z|⟨e,_⟩
       · exact z
       · cases e
   have:=(zF (cells:=X.env.cells) (x:=x) scope.names [] (fun y hy z=>(hfree y hy z).2) (fun c h=>by cases h)).2 (.inl hm)
   exact Option.isSome_iff_exists.mp this
 cell:=hcell
 kind:=hkind
 names:=hnames
 len:=len
 fr:=fun i j x h1 h2=>by
   obtain⟨g1,g2⟩:=hfr i j x h1 h2;obtain⟨g3,_⟩:=hfree (x,.free) (ZO g2) rfl;refine⟨g1,g3,.inl ?_⟩;exact Qn hX g3 g2
def qj7 (sc:Scope) (N0 N:List Str) (js:List (Option Nat)):Bool:=(js.zip N).all fun p=>match p.1 with
 | none=>true
 | some j=>N0[j]? == some p.2 && sc.names.lookup p.2 == some .free
theorem qeT {sc:Scope}{N0:List Str}:∀ {js:List (Option Nat)}{N:List Str},qj7 sc N0 N js=true->∀ (i j:Nat) (x:Str),js[i]?=some (some j)->N[i]?=some x->N0[j]?=some x∧sc.names.lookup x=some .free:=by
 intro js N h i j x h1 h2
 have hm:(some j,x)∈js.zip N:=by
   refine List.mem_of_getElem? (i:=i) ?_;rw[List.getElem?_zip_eq_some];exact⟨h1,h2⟩
 have:=List.all_eq_true.mp h _ hm
 simpa using this
theorem CompOk.def {CX:CXT}{P:Program}{w:World}{K:Frag}{mg:Str->Option Value}{base:Heap}{N0:List Str}{qual:Str}{sc0:Scope}{f:Addr}{cd:Value}{A:Around}{outer:List Env}{s:Shared}{H:Hp}{E:XK}{scope:Scope}
   (N:List Str) (js:List (Option Nat)) (hk0:sc0.kind=.function:=by rfl) (hk:scope.kind=.function:=by rfl) (hcell:∀ y∈scope.names,y.2≠.cell:=by decide +kernel) (hnames:∀ y∈scope.names,y.2=.local->scope.names.lookup y.1=some .local:=by decide +kernel)
   (hfr0:∀ y∈scope.names,y.2=.free->sc0.names.lookup y.1=some .cell:=by decide +kernel) (len:js.length=N.length:=by rfl) (hfr:qj7 scope N0 N js=true:=by decide +kernel) :
   CompOk (zb CX P w K mg base N0 qual sc0 f cd A outer s H E).nox scope N (z9 (zb CX P w K mg base N0 qual sc0 f cd A outer s H E).nox.env.cells scope.names []) js :=
 CompOk.of hk hcell hnames hk0 (fun y hy z=>⟨hfr0 y hy z,Option.isSome_iff_exists.mp (PySem.W.cellsFrom_some _ _ _ (.inl (hfr0 y hy z)))⟩) len (qeT hfr)
section
variable {prog:Program}{w:World}{A:Around}{E:Value->Shared->Prop}{s:Shared}
theorem qie {j u:Addr}{k:Nat}{xs:Array Value}{x:Value}{Q:Value->Shared->Prop} (a:s.heap.IsTupleIter j u k) (b:s.heap.IsTuple u xs) (e:xs[k]?=some x)
   (q:∀ h',h'.IsTupleIter j u (k+1)->Heap.SameBut j s.heap h'->Q x { s with heap:=h' }):wpAny (model prog w) A (Builtin.SmallTypes.nextOf (.ref j)) Q E s:=by
 obtain⟨oj,gj,cj,dj⟩:=id a;obtain⟨ou,gu,_,nu,du⟩:=b;unfold Builtin.SmallTypes.nextOf;refine wpAny_bind (wpAny_callSpecial?_slot (name:=Str.ofString "__next__") a.typeIs F.slot_tuple_iterator_next (wpAny_call_entry F.slot_tuple_iterator_next a.typeIs F.entry_tuple_iterator_next ?_ (F.args_tuple_iterator_next_1 _)));show wpAny _ _ (field (.ref j) 0 >>= _) _ _ s;refine wpAny_bind (wpAny_field gj dj (x:=.ref u) rfl ?_);show wpAny _ _ (if (Value.ref u == Value.none)=true then _ else _) _ _ s;rw[if_neg (show ¬ ((Value.ref u == Value.none)=true) from Bool.false_ne_true)];show wpAny _ _ (field (.ref j) 1 >>= _) _ _ s;refine wpAny_bind (wpAny_field gj dj (x:=.int k 0) rfl ?_);show wpAny _ _ (seqItems? (.ref u) >>= _) _ _ s;refine wpAny_bind (wpAny_seqItems gu du ?_);simp only[Int.toNat_natCast,e];refine wpAny_bind (wpAny_setField gj dj (by simp) (wpAny_pure ⟨x,rfl,wpAny_pure (q _ ?_ (Heap.SameBut.update ..))⟩));refine⟨_,Heap.get?_update_self _ gj (Obj.isFreed_of_fields (Obj.data_mapFields dj _)),(Obj.cls_mapFields ..).trans cj,?_⟩;rw[Obj.data_mapFields dj];simp[rawInt]
theorem qjY {j u:Addr}{k:Nat}{xs:Array Value}{Q:Value->Shared->Prop} (hd:A.handled=none) (a:s.heap.IsTupleIter j u k) (b:s.heap.IsTuple u xs) (e:xs[k]?=none)
   (q:∀ h' z,Heap.ExtBut j s.heap h'->(∃ o,h'.get? z=some o∧o.cls=.type "StopIteration")->E (.ref z) { s with heap:=h' }):wpAny (model prog w) A (Builtin.SmallTypes.nextOf (.ref j)) Q E s:=by
 obtain⟨oj,gj,cj,dj⟩:=id a;obtain⟨ou,gu,_,nu,du⟩:=b;unfold Builtin.SmallTypes.nextOf;refine wpAny_bind (wpAny_callSpecial?_slot (name:=Str.ofString "__next__") a.typeIs F.slot_tuple_iterator_next (wpAny_call_entry F.slot_tuple_iterator_next a.typeIs F.entry_tuple_iterator_next ?_ (F.args_tuple_iterator_next_1 _)));show wpAny _ _ (field (.ref j) 0 >>= _) _ _ s;refine wpAny_bind (wpAny_field gj dj (x:=.ref u) rfl ?_);show wpAny _ _ (if (Value.ref u == Value.none)=true then _ else _) _ _ s;rw[if_neg (show ¬ ((Value.ref u == Value.none)=true) from Bool.false_ne_true)];show wpAny _ _ (field (.ref j) 1 >>= _) _ _ s;refine wpAny_bind (wpAny_field gj dj (x:=.int k 0) rfl ?_);show wpAny _ _ (seqItems? (.ref u) >>= _) _ _ s;refine wpAny_bind (wpAny_seqItems gu du ?_);simp only[Int.toNat_natCast,e];refine wpAny_bind (wpAny_rule (wpAny_bind (wpAny_setField gj dj (by simp) ?_)));show wpAny _ _ (newExc (.type "StopIteration") [] >>= _) _ _ { s with heap:=_ };refine wpAny_bind ?_;simp only[newExc,newTuple];refine wpAny_bind (wpAny_newObj_type ?_ (by size_fits));refine wpAny_bind (m:=firstArgMember _ _) (wpAny_of_eq (a:=Value.none) (by first|rfl|(simp only[firstArgMember];rfl)) (wpAny_newObj_type ?_ (by size_fits)));simp only[raiseNew];refine wpAny_bind (wpAny_handled ?_)
 first|rw[show A.in1.handled=none from hd]|rw[hd]
 exact wpAny_bind (wpAny_pure (wpAny_throw (q _ _ (((Heap.SameBut.update ..).extBut.push _).push _) ⟨_,Heap.get?_push_size _ rfl,rfl⟩)))
def itK:Bool->Heap->Addr->Addr->Nat->Prop
 | false,h,j,u,k=>h.IsListIter j u k
 | true,h,j,u,k=>h.IsTupleIter j u k
def sqK:Bool->Heap->Addr->Array Value->Prop
 | false,h,u,xs=>h.IsList u xs
 | true,h,u,xs=>h.IsTuple u xs
theorem itK.at {t:Bool}{h h':Heap}{j u:Addr}{k:Nat} (x:itK t h j u k) (e:∀ o,h.get? j=some o->h'.get? j=some o):itK t h' j u k:=by
 cases t with
 | false=>exact Heap.IsListIter.at x e
 | true=>obtain⟨o,g,r⟩:=x;exact⟨o,e o g,r⟩
theorem itK.get {t:Bool}{h:Heap}{j u:Addr}{k:Nat} (x:itK t h j u k):∃ o,h.get? j=some o∧o.data=.fields #[.ref u,.int k 0]:=by
 cases t with
 | false=>obtain⟨o,g,_,d⟩:=x;exact⟨o,g,d⟩
 | true=>obtain⟨o,g,_,d⟩:=x;exact⟨o,g,d⟩
theorem sqK.at {t:Bool}{h h':Heap}{u:Addr}{xs:Array Value} (x:sqK t h u xs) (e:∀ o,h.get? u=some o->h'.get? u=some o):sqK t h' u xs:=by
 cases t with
 | false=>exact Heap.IsList.at x e
 | true=>obtain⟨o,g,r⟩:=x;exact⟨o,e o g,r⟩
theorem sqK.lt {t:Bool}{h:Heap}{u:Addr}{xs:Array Value} (x:sqK t h u xs):u < h.objs.size:=by
 cases t with
 | false=>obtain⟨o,g,_⟩:=x;exact Heap.lt_size g
 | true=>obtain⟨o,g,_⟩:=x;exact Heap.lt_size g
theorem qct {t:Bool}{j u:Addr}{k:Nat}{xs:Array Value}{x:Value}{Q:Value->Shared->Prop} (a:itK t s.heap j u k) (b:sqK t s.heap u xs) (e:xs[k]?=some x)
   (q:∀ h',itK t h' j u (k+1)->Heap.SameBut j s.heap h'->Q x { s with heap:=h' }):wpAny (model prog w) A (Builtin.SmallTypes.nextOf (.ref j)) Q E s:=by
 cases t with
 | false=>exact wpAny_nextOf_list_item a b e q
 | true=>exact qie a b e q
theorem qgB {t:Bool}{j u:Addr}{k:Nat}{xs:Array Value}{Q:Value->Shared->Prop} (hd:A.handled=none) (a:itK t s.heap j u k) (b:sqK t s.heap u xs) (e:xs[k]?=none)
   (q:∀ h' z,Heap.ExtBut j s.heap h'->(∃ o,h'.get? z=some o∧o.cls=.type "StopIteration")->E (.ref z) { s with heap:=h' }):wpAny (model prog w) A (Builtin.SmallTypes.nextOf (.ref j)) Q E s:=by
 cases t with
 | false=>exact wpAny_nextOf_list_end hd a b e q
 | true=>exact qjY hd a b e q
theorem qjr {t:Bool}{z TI TO i1 i2 l1 l2:Addr}{k:Nat}{xs ys:Array Value}{x y a b:Value}{Q:Value->Shared->Prop} (D:ZipApart z TI TO i1 i2 l1 l2)
   (gz:IsZip s.heap z TI TO .none) (gI:IsPair s.heap TI (.ref i1) (.ref i2)) (gO:IsPair s.heap TO a b) (j1:itK t s.heap i1 l1 k) (j2:itK t s.heap i2 l2 k) (m1:sqK t s.heap l1 xs) (m2:sqK t s.heap l2 ys) (ex:xs[k]?=some x) (ey:ys[k]?=some y)
   (q:∀ h',IsZip h' z TI TO (rawInt s.heap.objs.size)->IsPair h' TO x y->itK t h' i1 l1 (k+1)->itK t h' i2 l2 (k+1)->IsPair h' s.heap.objs.size x y ->
     (∀ c o,c≠z->c≠TO->c≠i1->c≠i2->s.heap.get? c=some o->h'.get? c=some o)->Q (.ref s.heap.objs.size) { s with heap:=h' }) :
   wpAny (model prog w) A (Builtin.«zip.__next__» ⟨[.ref z],[]⟩) (fun fin s'=>∃ v,fin=.done (.ret v)∧Q v s') E s:=by
 show wpAny _ _ (field (.ref z) 2 >>= _) _ _ s;refine wpAny_bind (wpAny_field gz rfl (x:=.bool false) rfl ?_);show wpAny _ _ (field (.ref z) 3 >>= _) _ _ s;refine wpAny_bind (wpAny_field gz rfl (x:=.ref TI) rfl (wpAny_bind (wpAny_seqItems gI rfl ?_)));show wpAny _ _ (Builtin.SmallTypes.ownedTupleIsFree (.ref z) >>= _) _ _ s;refine wpAny_bind ?_;unfold Builtin.SmallTypes.ownedTupleIsFree;refine wpAny_bind (wpAny_field gz rfl (x:=.none) rfl (wpAny_pure ?_));simp only[if_true];refine wpAny_bind (wpAny_rule (wpAny_bind (wpAny_field gz rfl (x:=.ref TO) rfl (wpAny_bind (wpAny_setField_rec gz (by simp) fun g1 z1 n1=>?_)))));replace z1:IsZip g1 z TI TO .ellipsis:=z1;refine wpAny_bind ?_;simp only[List.zipIdx_cons,List.zipIdx_nil,List.forIn_cons,List.forIn_nil];refine wpAny_bind (wpAny_bind (wpAny_onRaise ?_));show wpAny _ _ (Builtin.SmallTypes.nextOf (.ref i1) >>= _) _ _ { s with heap:=g1 };refine wpAny_bind (qct (t:=t) (s:={ s with heap:=g1 }) (j1.at fun o e=>n1.extBut _ o D.i1z e) (m1.at fun o e=>n1.extBut _ o D.l1z e) ex fun g2 j12 n2=>wpAny_pure ?_);have O2:IsPair g2 TO a b:=n2.extBut _ _ D.TOi1 (n1.extBut _ _ D.TOz gO);refine wpAny_bind (wpAny_seqItems O2 rfl (wpAny_bind (wpAny_updateSeq_pair O2 fun g3 O3 n3=>?_)));replace O3:IsPair g3 TO x b:=O3;refine wpAny_bind (wpAny_letGo (wpAny_pure (wpAny_bind (wpAny_bind (wpAny_onRaise ?_)))));show wpAny _ _ (Builtin.SmallTypes.nextOf (.ref i2) >>= _) _ _ { s with heap:=g3 };have k3:∀ c o,c≠z->c≠i1->c≠TO->s.heap.get? c=some o->g3.get? c=some o:=fun c o c1 c2 c3 e=>n3.extBut _ _ c3 (n2.extBut _ _ c2 (n1.extBut _ _ c1 e));refine wpAny_bind (qct (t:=t) (s:={ s with heap:=g3 }) (j2.at fun o e=>k3 _ o D.i2z D.i12.symm D.TOi2.symm e) (m2.at fun o e=>k3 _ o D.l2z D.l2i1 D.l2TO e) ey fun g4 j24 n4=>wpAny_pure ?_);have O4:IsPair g4 TO x b:=n4.extBut _ _ D.TOi2 O3;refine wpAny_bind (wpAny_seqItems O4 rfl (wpAny_bind (wpAny_updateSeq_pair O4 fun g5 O5 n5=>?_)));replace O5:IsPair g5 TO x y:=O5;refine wpAny_bind (wpAny_letGo (wpAny_pure (wpAny_pure (wpAny_bind (wpAny_seqItems O5 rfl (wpAny_bind (wpAny_newTuple ?_)))))));have sz:g5.objs.size=s.heap.objs.size:=by rw[n5.1,n4.1,n3.1,n2.1,n1.1]
 have z5:IsZip g5 z TI TO .ellipsis:=n5.extBut _ _ D.TOz.symm (n4.extBut _ _ D.i2z.symm (n3.extBut _ _ D.TOz.symm (n2.extBut _ _ D.i1z.symm z1)));have k5:∀ c o,c≠z->c≠TO->c≠i1->c≠i2->s.heap.get? c=some o->g5.get? c=some o:=fun c o c1 c2 c3 c4 e=>n5.extBut _ _ c2 (n4.extBut _ _ c4 (k3 c o c1 c3 c2 e));have p1:itK t g5 i1 l1 (k+1):=((j12.at fun o e=>n3.extBut _ o D.TOi1.symm e).at fun o e=>n4.extBut _ o D.i12 e).at fun o e=>n5.extBut _ o D.TOi1.symm e;have p2:itK t g5 i2 l2 (k+1):=j24.at fun o e=>n5.extBut _ o D.TOi2.symm e;have lz:z < g5.objs.size:=Heap.lt_size z5;show wpAny _ _ (Builtin.SmallTypes.ownedTupleHandOut (.ref z) (.ref g5.objs.size) >>= _) _ _ { s with heap:=_ };refine wpAny_bind ?_;unfold Builtin.SmallTypes.ownedTupleHandOut;have z6:IsZip (g5.push { cls:=.type "tuple",data:=.seq #[x,y] }) z TI TO .ellipsis:=Heap.get?_push_of_some _ z5;refine wpAny_bind (wpAny_setField_rec z6 (by simp) fun g7 z7 n7=>?_);replace z7:IsZip g7 z TI TO (rawInt g5.objs.size):=z7;refine wpAny_setField_rec z7 (by simp) fun g8 z8 n8=>?_;replace z8:IsZip g8 z TI TO (rawInt g5.objs.size):=z8;have up:∀ c o,c≠z->g5.get? c=some o->g8.get? c=some o:=fun c o c1 e=>n8.extBut _ _ c1 (n7.extBut _ _ c1 (Heap.get?_push_of_some _ e));have T8:IsPair g8 g5.objs.size x y:=n8.extBut _ _ (Nat.ne_of_gt lz) (n7.extBut _ _ (Nat.ne_of_gt lz) (Heap.get?_push_size _ rfl));rw[sz]at z8 T8;refine wpAny_pure ⟨_,rfl,?_⟩;show Q (.ref g5.objs.size) { s with heap:=g8 };rw[sz];exact q g8 z8 (up _ _ D.TOz O5) (p1.at fun o e=>up _ o D.i1z e) (p2.at fun o e=>up _ o D.i2z e) T8 fun c o c1 c2 c3 c4 e=>up c o c1 (k5 c o c1 c2 c3 c4 e)
theorem qkp {t:Bool}{z TI TO i1 i2 l1 l2:Addr}{k:Nat}{xs ys:Array Value}{a b:Value}{Q:Fin->Shared->Prop} (hd:A.handled=none) (D:ZipApart z TI TO i1 i2 l1 l2)
   (gz:IsZip s.heap z TI TO .none) (gI:IsPair s.heap TI (.ref i1) (.ref i2)) (gO:IsPair s.heap TO a b) (j1:itK t s.heap i1 l1 k) (j2:itK t s.heap i2 l2 k) (m1:sqK t s.heap l1 xs) (m2:sqK t s.heap l2 ys) (en:xs[k]?=none∨ys[k]?=none)
   (q:∀ h' v,(∀ c o,c≠z->c≠TO->c≠i1->c≠i2->s.heap.get? c=some o->h'.get? c=some o)->(∃ o,h'.get? v=some o∧o.cls=.type "StopIteration")->E (.ref v) { s with heap:=h' }) :
   wpAny (model prog w) A (Builtin.«zip.__next__» ⟨[.ref z],[]⟩) Q E s:=by
 show wpAny _ _ (field (.ref z) 2 >>= _) _ _ s;refine wpAny_bind (wpAny_field gz rfl (x:=.bool false) rfl ?_);show wpAny _ _ (field (.ref z) 3 >>= _) _ _ s;refine wpAny_bind (wpAny_field gz rfl (x:=.ref TI) rfl (wpAny_bind (wpAny_seqItems gI rfl ?_)));show wpAny _ _ (Builtin.SmallTypes.ownedTupleIsFree (.ref z) >>= _) _ _ s;refine wpAny_bind ?_;unfold Builtin.SmallTypes.ownedTupleIsFree;refine wpAny_bind (wpAny_field gz rfl (x:=.none) rfl (wpAny_pure ?_));simp only[if_true];refine wpAny_bind (wpAny_rule (wpAny_bind (wpAny_field gz rfl (x:=.ref TO) rfl (wpAny_bind (wpAny_setField_rec gz (by simp) fun g1 z1 n1=>?_)))));replace z1:IsZip g1 z TI TO .ellipsis:=z1;refine wpAny_bind ?_;simp only[List.zipIdx_cons,List.zipIdx_nil,List.forIn_cons,List.forIn_nil];refine wpAny_bind (wpAny_bind (wpAny_onRaise ?_));show wpAny _ _ (Builtin.SmallTypes.nextOf (.ref i1) >>= _) _ _ { s with heap:=g1 };have a1:itK t g1 i1 l1 k:=j1.at fun o e=>n1.extBut _ o D.i1z e;have b1:sqK t g1 l1 xs:=m1.at fun o e=>n1.extBut _ o D.l1z e
 cases ex:xs[k]? with
 | none =>
   refine wpAny_bind (qgB (t:=t) (s:={ s with heap:=g1 }) hd a1 b1 ex fun g2 v n2 sv=>?_);obtain⟨ov,gv,cv⟩:=sv;have z2:IsZip g2 z TI TO .ellipsis:=n2 _ _ D.i1z.symm z1;have vz:v≠z:=fun e=>by subst e;rw[z2]at gv;cases gv;simp at cv
   exact wpAny_setField_rec z2 (by simp) fun g3 _ n3=>q g3 v (fun c o c1 _ c3 _ e=>n3.extBut _ _ c1 (n2 _ _ c3 (n1.extBut _ _ c1 e))) ⟨ov,n3.extBut _ _ vz gv,cv⟩
 | some x =>
   have ey:ys[k]?=none:=en.resolve_left fun e=>by rw[ex]at e;cases e
   refine wpAny_bind (qct (t:=t) (s:={ s with heap:=g1 }) a1 b1 ex fun g2 j12 n2=>wpAny_pure ?_);have O2:IsPair g2 TO a b:=n2.extBut _ _ D.TOi1 (n1.extBut _ _ D.TOz gO);refine wpAny_bind (wpAny_seqItems O2 rfl (wpAny_bind (wpAny_updateSeq_pair O2 fun g3 O3 n3=>?_)));refine wpAny_bind (wpAny_letGo (wpAny_pure (wpAny_bind (wpAny_bind (wpAny_onRaise ?_)))));show wpAny _ _ (Builtin.SmallTypes.nextOf (.ref i2) >>= _) _ _ { s with heap:=g3 };have k3:∀ c o,c≠z->c≠i1->c≠TO->s.heap.get? c=some o->g3.get? c=some o:=fun c o c1 c2 c3 e=>n3.extBut _ _ c3 (n2.extBut _ _ c2 (n1.extBut _ _ c1 e));refine wpAny_bind (qgB (t:=t) (s:={ s with heap:=g3 }) hd (j2.at fun o e=>k3 _ o D.i2z D.i12.symm D.TOi2.symm e) (m2.at fun o e=>k3 _ o D.l2z D.l2i1 D.l2TO e) ey fun g4 v n4 sv=>?_);obtain⟨ov,gv,cv⟩:=sv;have z4:IsZip g4 z TI TO .ellipsis:=n4 _ _ D.i2z.symm (n3.extBut _ _ D.TOz.symm (n2.extBut _ _ D.i1z.symm z1));have vz:v≠z:=fun e=>by subst e;rw[z4]at gv;cases gv;simp at cv
   exact wpAny_setField_rec z4 (by simp) fun g5 _ n5=>q g5 v (fun c o c1 c2 c3 c4 e=>n5.extBut _ _ c1 (n4 _ _ c4 (k3 c o c1 c3 c2 e))) ⟨ov,n5.extBut _ _ vz gv,cv⟩
theorem qhZ {t:Bool}{z TI TO i1 i2 l1 l2:Addr}{k:Nat}{xs ys:Array Value}{x y a b:Value}{Q:Option Value->Shared->Prop} (D:ZipApart z TI TO i1 i2 l1 l2)
   (gz:IsZip s.heap z TI TO .none) (gI:IsPair s.heap TI (.ref i1) (.ref i2)) (gO:IsPair s.heap TO a b) (j1:itK t s.heap i1 l1 k) (j2:itK t s.heap i2 l2 k) (m1:sqK t s.heap l1 xs) (m2:sqK t s.heap l2 ys) (ex:xs[k]?=some x) (ey:ys[k]?=some y)
   (q:∀ h',IsZip h' z TI TO (rawInt s.heap.objs.size)->IsPair h' TO x y->itK t h' i1 l1 (k+1)->itK t h' i2 l2 (k+1)->IsPair h' s.heap.objs.size x y ->
     (∀ c o,c≠z->c≠TO->c≠i1->c≠i2->s.heap.get? c=some o->h'.get? c=some o)->Q (some (.ref s.heap.objs.size)) { s with heap:=h' }) :
   wpAny (model prog w) A (pyNext (.ref z)) Q E s:=by
 have T:s.TypeIs (.ref z) "zip":=⟨_,gz,rfl⟩
 unfold pyNext
 exact wpAny_bind (wpAny_attempt (wpAny_callSpecial?_slot (name:=Str.ofString "__next__") T F.slot_zip_next (wpAny_call_entry F.slot_zip_next T F.entry_zip_next
   (qjr D gz gI gO j1 j2 m1 m2 ex ey fun h' c1 c2 c3 c4 c5 c6=>wpAny_pure (q h' c1 c2 c3 c4 c5 c6)) (F.args_zip_next_1 _))))
theorem qjR {t:Bool}{z TI TO i1 i2 l1 l2:Addr}{k:Nat}{xs ys:Array Value}{a b:Value}{Q:Option Value->Shared->Prop} (hd:A.handled=none) (D:ZipApart z TI TO i1 i2 l1 l2)
   (gz:IsZip s.heap z TI TO .none) (gI:IsPair s.heap TI (.ref i1) (.ref i2)) (gO:IsPair s.heap TO a b) (j1:itK t s.heap i1 l1 k) (j2:itK t s.heap i2 l2 k) (m1:sqK t s.heap l1 xs) (m2:sqK t s.heap l2 ys) (en:xs[k]?=none∨ys[k]?=none)
   (q:∀ h',(∀ c o,c≠z->c≠TO->c≠i1->c≠i2->s.heap.get? c=some o->h'.get? c=some o)->Q none { s with heap:=h' }):wpAny (model prog w) A (pyNext (.ref z)) Q E s:=by
 have T:s.TypeIs (.ref z) "zip":=⟨_,gz,rfl⟩
 unfold pyNext
 refine wpAny_bind (wpAny_attempt (wpAny_callSpecial?_slot (name:=Str.ofString "__next__") T F.slot_zip_next (wpAny_call_entry F.slot_zip_next T F.entry_zip_next
   (qkp hd D gz gI gO j1 j2 m1 m2 en fun h' v hk sv=>?_) (F.args_zip_next_1 _))))
 obtain⟨o,go,co⟩:=sv;exact wpAny_bind (wpAny_isInstance (T:="StopIteration") (b:=true) ⟨o,go,co⟩ isSubtype_stop (wpAny_pure (q _ hk)))
end
def itN:Bool->String
 | false=>"list_iterator"
 | true=>"tuple_iterator"
abbrev zk1 (t:Bool) (h:Heap) (u:Addr):Heap:=h.push { cls:=.type (itN t),data:=.fields #[.ref u,.int 0 0] }
abbrev zk3 (t:Bool) (h:Heap) (u v:Addr):Heap:=(zk1 t (zk1 t h u) v).push { cls:=.type "tuple",data:=.seq #[.ref h.objs.size,.ref (zk1 t h u).objs.size] }
abbrev zk4 (t:Bool) (h:Heap) (u v:Addr):Heap:=(zk3 t h u v).push { cls:=.type "tuple",data:=.seq #[.none,.none] }
abbrev zk5 (t:Bool) (h:Heap) (u v:Addr):Heap:=(zk4 t h u v).push { cls:=.type "zip",data:=.fields #[.none,.bool false,.bool false,.ref (zk1 t (zk1 t h u) v).objs.size,.ref (zk3 t h u v).objs.size] }
theorem qko (t:Bool) (u v:Addr) (xs ys:Array Value):Meets (Builtin.«zip.__new__» ⟨[.type "zip",.ref u,.ref v],[]⟩) (fun _ R s=>sqK t s.heap u xs∧sqK t s.heap v ys ∧
     R (.ok (.ret (.ref (zk4 t s.heap u v).objs.size))) { s with heap:=zk5 t s.heap u v }) :=
 .of_wp fun prog w A R s h=>by
   obtain⟨hp,g,d,tk,os⟩:=s;obtain⟨m1,m2,h⟩:=h;have hsub:=sub_zip
   cases t with
   | false =>
     have L1:Heap.IsList (Shared.heap ⟨hp,g,d,tk,os⟩) u xs:=m1;have L2:Heap.IsList (Shared.heap ⟨hp.push { cls:=.type "list_iterator",data:=.fields #[.ref u,.int 0 0] },g,d,tk,os⟩) v ys:=Heap.IsList.push m2 _
     wp_walk using wpAny_pyIter_list L1,wpAny_pyIter_list L2
     exact⟨_,rfl,h⟩
   | true =>
     have L1:Heap.IsTuple (Shared.heap ⟨hp,g,d,tk,os⟩) u xs:=m1;have L2:Heap.IsTuple (Shared.heap ⟨hp.push { cls:=.type "tuple_iterator",data:=.fields #[.ref u,.int 0 0] },g,d,tk,os⟩) v ys:=Heap.IsTuple.push m2 _
     wp_walk using wpAny_pyIter_tuple L1,wpAny_pyIter_tuple L2
     exact⟨_,rfl,h⟩
section
variable {prog:Program}{w:World}{A:Around}{E:Value->Shared->Prop}{s:Shared}
theorem itK.new {t:Bool}{h:Heap}{j u:Addr} (g:h.get? j=some { cls:=.type (itN t),data:=.fields #[.ref u,.int 0 0] }):itK t h j u 0:=by
 cases t with
 | false=>exact⟨_,g,rfl,rfl⟩
 | true=>exact⟨_,g,rfl,rfl⟩
theorem qhh {t:Bool}{u v:Addr}{xs ys:Array Value}{Q:Value->Shared->Prop} (m1:sqK t s.heap u xs) (m2:sqK t s.heap v ys)
   (q:∀ h',IsZip h' (s.heap.objs.size+4) (s.heap.objs.size+2) (s.heap.objs.size+3) .none->IsPair h' (s.heap.objs.size+2) (.ref s.heap.objs.size) (.ref (s.heap.objs.size+1)) ->
     IsPair h' (s.heap.objs.size+3) .none .none->itK t h' s.heap.objs.size u 0->itK t h' (s.heap.objs.size+1) v 0->(∀ c o,s.heap.get? c=some o->h'.get? c=some o)->Q (.ref (s.heap.objs.size+4)) { s with heap:=h' }) :
   wpAny (model prog w) A (call (.type "zip") [.ref u,.ref v]) Q E s:=by
 refine callType_new F.called_zip (by decide) (F.typeCall_zip_2 _ _) (F.newCall_zip_2 _ _) (fun obj=>F.args_object_init_3 obj _ _) F.entry_zip_new (qko t u v xs ys) ⟨m1,m2,?_⟩;have y1:(zk1 t s.heap u).objs.size=s.heap.objs.size+1:=Heap.size_push ..;have y2:(zk1 t (zk1 t s.heap u) v).objs.size=s.heap.objs.size+2:=by rw[Heap.size_push,y1]
 have y3:(zk3 t s.heap u v).objs.size=s.heap.objs.size+3:=by rw[Heap.size_push,y2]
 have y4:(zk4 t s.heap u v).objs.size=s.heap.objs.size+4:=by rw[Heap.size_push,y3]
 have f5:(zk5 t s.heap u v).get? (zk4 t s.heap u v).objs.size=some _:=Heap.get?_push_size _ rfl;have f4:(zk5 t s.heap u v).get? (zk3 t s.heap u v).objs.size=some _:=Heap.get?_push_of_some _ (Heap.get?_push_size _ rfl);have f3:(zk5 t s.heap u v).get? (zk1 t (zk1 t s.heap u) v).objs.size=some _:=Heap.get?_push_of_some _ (Heap.get?_push_of_some _ (Heap.get?_push_size _ rfl));have f2:(zk5 t s.heap u v).get? (zk1 t s.heap u).objs.size=some _:=Heap.get?_push_of_some _ (Heap.get?_push_of_some _ (Heap.get?_push_of_some _ (Heap.get?_push_size _ rfl)));have f1:(zk5 t s.heap u v).get? s.heap.objs.size=some _:=Heap.get?_push_of_some _ (Heap.get?_push_of_some _ (Heap.get?_push_of_some _ (Heap.get?_push_of_some _ (Heap.get?_push_size _ rfl))));show _∧_;rw[y2,y3,y4]at f5;rw[y1,y2]at f3;rw[y3]at f4;rw[y1]at f2;rw[y4];exact⟨⟨_,f5,rfl⟩,q _ f5 f3 f4 (.new f1) (.new f2) fun c o e=>Heap.get?_push_of_some _ (Heap.get?_push_of_some _ (Heap.get?_push_of_some _ (Heap.get?_push_of_some _ (Heap.get?_push_of_some _ e))))⟩
end
def SqK (K:Frag):Bool->Hp->Addr->List V->Prop
 | false=>SqL K
 | true=>SqT K
def Itz (K:Frag) (t:Bool) (a b:Addr):It :=
 ⟨fun i H=>∃ xs ys x y,SqK K t H a xs∧SqK K t H b ys∧xs[i]?=some x∧ys[i]?=some y,
  fun i H v H'=>∃ p x y,H p=none∧v=.ref p∧(∀ xs ys,SqK K t H a xs->SqK K t H b ys->xs[i]?=some x∧ys[i]?=some y)∧H'=upd H p (.tup [x,y]),
  fun i H=>∃ xs ys,SqK K t H a xs∧SqK K t H b ys∧(xs.length≤i∨ys.length≤i)⟩
section
variable {X:Cx}{pins:List (Addr×Obj)}{σ:St}{H:Hp}{s:Shared}
theorem Inv.seqK {t:Bool}{a:Addr}{xs:List V} (I:Inv X pins σ H s) (h:SqK X.K t H a xs):∃ its:List Value,Vals xs its∧sqK t s.heap a its.toArray∧xs.length≤sizeLine:=by
 cases t with
 | false =>
   obtain⟨its,rv,p,z⟩:=I.list h;exact⟨its,rv,p.isList,z⟩
 | true=>exact I.tuple h
theorem Inv.seqK_inj {t:Bool}{a:Addr}{xs ys:List V} (I:Inv X pins σ H s) (h:SqK X.K t H a xs) (h':SqK X.K t H a ys):xs=ys:=by
 cases t with
 | false=>exact I.list_inj h h'
 | true=>exact I.tuple_inj h h'
end
structure ZSt (t:Bool) (z TI TO i1 i2 a b:Addr) (i:Nat) (h:Heap):Prop where
 gz:IsZip h z TI TO .none
 gI:IsPair h TI (.ref i1) (.ref i2)
 gO:∃ u v,IsPair h TO u v
 j1:itK t h i1 a i
 j2:itK t h i2 b i
theorem qhI {P:Program}{w:World}{K:Frag}{elts:List Expr}{k:Nat}{pos:Pos}{t:Bool} (z TI TO i1 i2 a b:Addr) (D:ZipApart z TI TO i1 i2 a b) :
   qjo P w K (.Tuple elts k pos) (Itz K t a b) [z,TI,TO,i1,i2] z (ZSt t z TI TO i1 i2 a b) where
 mem:=by simp
 obj:=fun i h st c hc=>by
   obtain⟨gz,gI,⟨u,v,gO⟩,j1,j2⟩:=st;simp only[List.mem_cons,List.not_mem_nil,or_false]at hc;rcases hc with rfl|rfl|rfl|rfl|rfl
   · exact⟨_,gz,fun v e=>by cases e⟩
   · exact⟨_,gI,fun v e=>by cases e⟩
   · exact⟨_,gO,fun v e=>by cases e⟩
   · obtain⟨o,g,d⟩:=j1.get;exact⟨o,g,fun v e=>by rw[d]at e;cases e⟩
   · obtain⟨o,g,d⟩:=j2.get;exact⟨o,g,fun v e=>by rw[d]at e;cases e⟩
 keep:=fun i h h' st kk=>by
   obtain⟨gz,gI,⟨u,v,gO⟩,j1,j2⟩:=st;exact⟨kk z (by simp) _ gz,kk TI (by simp) _ gI,⟨u,v,kk TO (by simp) _ gO⟩,j1.at fun o e=>kk i1 (by simp) o e,j2.at fun o e=>kk i2 (by simp) o e⟩
 item:=by
   intro X hP hw hK hc i pins s σ H E I hf st hg;subst hP hw hK;obtain⟨xs,ys,x,y,hq,hq2,hx,hy⟩:=hg;obtain⟨its,rv,p,hz⟩:=I.seqK hq;obtain⟨its2,rv2,p2,hz2⟩:=I.seqK hq2;obtain⟨u,hu,ru⟩:=rv.get hx;obtain⟨u2,hu2,ru2⟩:=rv2.get hy;obtain⟨gz,gI,⟨_,_,gO⟩,j1,j2⟩:=st;refine qhZ (t:=t) D gz gI gO j1 j2 p p2 (x:=u) (y:=u2) (by simpa using hu) (by simpa using hu2) fun h1 w1 w2 w3 w4 w5 hk=>?_;refine⟨_,rfl,wpAny_letOwnedTupleGo_zip (s:={ s with heap:=h1 }) w1 fun h2 gz2 hs2=>?_⟩;have lz:z < s.heap.objs.size:=Heap.lt_size gz;have lI:TI < s.heap.objs.size:=Heap.lt_size gI;have lO:TO < s.heap.objs.size:=Heap.lt_size gO;have l1:i1 < s.heap.objs.size:=by obtain⟨o,g,_⟩:=j1.get;exact Heap.lt_size g
   have l2:i2 < s.heap.objs.size:=by obtain⟨o,g,_⟩:=j2.get;exact Heap.lt_size g
   have T2:h2.get? s.heap.objs.size=some { cls:=.type "tuple",data:=.seq #[u,u2] }:=(hs2.2 _ (Nat.ne_of_gt lz)).trans w5
   have I1:Inv X pins σ (upd H s.heap.objs.size (.tup [x,y])) { s with heap:=h2,toks:=s.toks }:=by
     refine I.turnLaid (ch:=[z,TI,TO,i1,i2]) (fun c o hc q=>?_) hf (Nat.le_refl _) ⟨by show 2≤sizeLine;decide,[u,u2],.cons ru (.cons ru2 .nil),⟨_,T2,rfl,_,rfl⟩⟩;have c1:c≠z:=fun e=>hc (by simp[e]);exact(hs2.2 c c1).trans (hk c o c1 (fun e=>hc (by simp[e])) (fun e=>hc (by simp[e])) (fun e=>hc (by simp[e])) q)
   refine⟨.ref s.heap.objs.size,_,I1,rfl,⟨_,x,y,I.hok.fresh (Nat.le_refl _),rfl,fun ys1 ys2 q1 q2=>by rw[I.seqK_inj q1 hq,I.seqK_inj q2 hq2];exact⟨hx,hy⟩,rfl⟩,?_,fun c hc=>?_⟩
   · exact⟨gz2,(hs2.2 _ D.TIz).trans (hk _ _ D.TIz D.TITO D.TIi1 D.TIi2 gI),⟨_,_,(hs2.2 _ D.TOz).trans w2⟩,w3.at fun o e=>(hs2.2 _ D.i1z).trans e,w4.at fun o e=>(hs2.2 _ D.i2z).trans e⟩
   · have hcl:c < s.heap.objs.size:=by
       simp only[List.mem_cons,List.not_mem_nil,or_false]at hc;rcases hc with rfl|rfl|rfl|rfl|rfl<;>assumption
     rw[qj (Nat.ne_of_lt hcl)];exact(hf c hc).1
 done:=by
   intro X hP hw hK hc i pins s σ H E I hf st hg;subst hP hw hK;obtain⟨xs,ys,hq,hq2,hx⟩:=hg;obtain⟨its,rv,p,hz⟩:=I.seqK hq;obtain⟨its2,rv2,p2,hz2⟩:=I.seqK hq2;obtain⟨gz,gI,⟨_,_,gO⟩,j1,j2⟩:=st;have e1:=rv.length;have e2:=rv2.length;refine qjR (t:=t) (I.ok.hd hc) D gz gI gO j1 j2 p p2 (by simp;omega) fun h' hk=>⟨rfl,I.turnL (t':=s.toks) (ch:=[z,TI,TO,i1,i2]) (fun c o hc q=>hk c o (fun e=>hc (by simp[e])) (fun e=>hc (by simp[e])) (fun e=>hc (by simp[e])) (fun e=>hc (by simp[e])) q) hf⟩
 self:=fun _ _ _ _ _ st h=>wpAny_pyIter_zip st.gz h
theorem qhl:bootBuiltins "zip"=some (.type "zip"):=by decide +kernel
inductive qja (K:Frag) (R:(It->Hp->Prop)) (vs:List V) (H1:Hp):Prop
 | mk (t a b:_) (h1:vs=[.ref a,.ref b]) (h2:(∃ xs,SqK K t H1 a xs)) (h3:(∃ ys,SqK K t H1 b ys)) (h4:R (Itz K t a b) H1):qja K R vs H1
def qnb (K:Frag) (ta:TA):TI:=fun σ H R=>ta σ H fun vs H1=>qja K R vs H1
section
variable {X:Cx}
theorem qgk {e1 e2:Expr}{ta:TA}{p pos tp:Pos}{elts:List Expr}{kk:Nat} (hg:Gl X "zip") (hm:X.mg "zip"=none) (ha:PA X [e1,e2] ta) (hs:starEach [e1,e2] X.env=(false,eval e1 X.env)::starEach [e2] X.env:=by rfl)
   (hpl:(backTo pos (starEach [e2] X.env)).any (·.1)=false:=by rfl):PI X (.Tuple elts kk tp) (.Call (.Name "zip" p) [e1,e2] [] pos) (qnb X.K ta):=by
 intro pins s σ H R I h;refine Call_ (JQ I hg hm qhl (PyProof.Rows.callWith_type1 (thn (ha pos pins s σ H _ I h) fun us s1 zz_=>?_) hs hpl));obtain⟨vs,H1,I1,r1,q1⟩:=zz_;obtain⟨t,a,b,e,⟨xs,hq⟩,⟨ys,hq2⟩,q⟩:=q1;subst e;obtain⟨u,v,rfl,ru,rv⟩:=qfD r1;cases ru;cases rv;obtain⟨its,rv,pl,hz⟩:=I1.seqK hq;obtain⟨its2,rv2,pl2,hz2⟩:=I1.seqK hq2;refine qhh (t:=t) pl pl2 fun h' gz gI gO j1 j2 hk=>?_;have I2:Inv X pins σ H1 { s1 with heap:=h' }:=I1.kept (t':=s1.toks) hk;have la:=pl.lt;have lb:=pl2.lt
 have D:ZipApart (s1.heap.objs.size+4) (s1.heap.objs.size+2) (s1.heap.objs.size+3) s1.heap.objs.size (s1.heap.objs.size+1) a b:=by
   constructor<;>(intro h;have h':=@id (@Eq Nat _ _) h;clear h;revert la lb h';exact fun (la:@LT.lt Nat _ _ _) (lb:@LT.lt Nat _ _ _) h'=>by omega)
 refine wpAny_pyIter_zip gz ⟨s1.heap.objs.size+4,_,_,Itz X.K t a b,H1,rfl,I2,qhI _ _ _ _ _ _ _ D,⟨gz,gI,⟨_,_,gO⟩,j1,j2⟩,fun c hc=>?_,q⟩
 have hc1:s1.heap.objs.size≤c:=by
   simp only[List.mem_cons,List.not_mem_nil,or_false]at hc;rcases hc with rfl|rfl|rfl|rfl|rfl<;>omega
 exact I1.fpOk hc1 (I1.hok.fresh hc1)
end
theorem qe0 {K:Frag}{t:Bool}{a b:Addr}{xs ys:List V}{g:TG}{tt:TT}{te:TE}{D:Addr}{Q:VK}{σ0:St}{H0:Hp} (Pv:Nat->St->Hp->Prop) (he:xs.length=ys.length) (h0:Pv 0 σ0 H0)
   (hl:∀ i σ H,i≤xs.length->Pv i σ H->SqK K t H a xs∧SqK K t H b ys)
   (hs:∀ i x y σ H p,xs[i]?=some x->ys[i]?=some y->Pv i σ H->H p=none->g (.ref p) σ (upd H p (.tup [x,y])) fun σ3 H3=>tt σ3 H3 fun ok H4=>if ok=true then te σ3 H4 fun v H5=>∃ zs,H5 D=some (.lst zs)∧zs.length < sizeLine∧Pv (i+1) σ3 (upd H5 D (.lst (zs++[v]))) else Pv (i+1) σ3 H4)
   (hd:∀ σ H,Pv xs.length σ H->Q (.ref D) H):Q4 (Itz K t a b) g tt te D Q σ0 H0:=by
 refine⟨fun i m σ H=>m=xs.length - i∧i≤xs.length∧Pv i σ H,⟨xs.length,by simp,Nat.zero_le _,h0⟩,?_⟩;rintro i m σ H ⟨rfl,hi,p⟩;obtain⟨q1,q2⟩:=hl i σ H hi p;by_cases hlt:i < xs.length
 · have hlt2:i < ys.length:=by omega
   refine .inr ⟨⟨xs,ys,xs[i],ys[i],q1,q2,by simp[hlt],by simp[hlt2]⟩,Pv (i+1),fun σ' H' p'=>⟨xs.length - (i+1),by omega,rfl,hlt,p'⟩,fun x H' y=>?_⟩;obtain⟨c,u,v,hn,rfl,z,rfl⟩:=y;obtain⟨z1,z2⟩:=z xs ys q1 q2;exact hs i u v σ _ c z1 z2 p hn
 · have e:i=xs.length:=by omega
   subst e;exact .inl ⟨⟨xs,ys,q1,q2,.inl (Nat.le_refl _)⟩,hd σ H p⟩
theorem Same.put {G H:Hp}{p:Addr} (s:Same G H) (n:G p=none) (o:HO):Same G (upd H p o):=fun c u e=>by rw[qj (qi e n)];exact s c u e
theorem Same.none {G H:Hp}{p:Addr} (s:Same G H) (n:H p=none):G p=none:=by
 cases e:G p with
 | none=>rfl
 | some o=>rw[s p o e]at n;cases n
theorem But.none {H H':Hp}{p q:Addr} (b:But p H H') (n:H' q=none) (h:q≠p):H q=none:=by
 cases e:H q with
 | none=>rfl
 | some o=>rw[b q o e h]at n;cases n
def cut (H:Hp) (ts:List Addr):Hp:=fun b=>if b∈ts then none else H b
theorem qeZ {H:Hp}{ts:List Addr}{b:Addr} (h:b∈ts):cut H ts b=none:=by unfold cut;rw[if_pos h]
theorem qa4 {H:Hp}{ts:List Addr}{b:Addr} (h:b∉ts):cut H ts b=H b:=by unfold cut;rw[if_neg h]
theorem qb8 {α:Type}{xs:List α}{x y:α}{i:Nat} (h:(xs++[x])[i]?=some y):xs[i]?=some y∨(i=xs.length∧y=x):=by
 rw[List.getElem?_append]at h;by_cases hi:i < xs.length
 · rw[if_pos hi]at h;exact .inl h
 · rw[if_neg hi]at h
   have e:i - xs.length=0:=by
     cases n:i - xs.length with
     | zero=>rfl
     | succ k=>rw[n]at h;simp at h
   rw[e]at h;exact .inr ⟨by omega,by simpa using h.symm⟩
def qlC (K:Frag):List V->Hp->VK->Prop:=fun xs H Q=>∃ p ys,xs=[.ref p]∧(SqL K H p ys∨SqT K H p ys)∧∀ l,H l=none->Q (.ref l) (upd H l (.lst ys))
section
variable {X:Cx}
theorem qgh {i:Nat}{x:Str}{pos' pos:Pos}{elt iter tg:Expr}{ifs:List Expr}{scope:Scope}{cpos:Pos}{wi:TI}{g:TG}{tt:TT}{te:TE}{N:List Str}{cl:List (Str×Addr)}{js:List (Option Nat)} (hN:X.N.Nodup) (hi0:X.N[i]?=some x) (hx:Loc X.env.scope x)
   (hc:X.calm=true) (k:CompOk X scope N cl js) (hi:PI X tg iter wi)
   (hg:∀ C s₀ H₀ ex pn,PG (zg X scope N cl C s₀ H₀ ex pn) tg g) (ht:∀ C s₀ H₀ ex pn,PTs (zg X scope N cl C s₀ H₀ ex pn) ifs tt) (he:∀ C s₀ H₀ ex pn,PE (zg X scope N cl C s₀ H₀ ex pn) elt te)
   (hsw:swapsWith (.ListComp elt [⟨tg,iter,ifs,0⟩] scope cpos) (some (.Name x pos')) pos.line X.env=pure true:=by rfl)
   (hf:X.fn x=true∨X.env.scope.names.lookup x=some .local:=by first|exact .inl rfl|exact .inr rfl|assumption)
   (hs:∀ x,foldedSetIterable iter X.env x=pure x:=by intro _;rfl) :
   PS X (.Assign [.Name x pos'] (.ListComp elt [⟨tg,iter,ifs,0⟩] scope cpos) pos) (qlA (qkE wi g tt te js) (qir i)):=by
 intro pins s σ H D0 I h;rw[exec_Assign_Name_used _ _ _ _ hsw];refine wpAny_bind (wpAny_standAt (wpAny_bind ?_));show wpAny _ X.A (do let _ ← comprehension (.ListComp elt [⟨tg,iter,ifs,0⟩] scope cpos) scope X.env _ (newList []) false (eval iter X.env) (some (assign (.Name x pos') X.env))) _ _ s;refine wpAny_bind (wpAny_mono (wpAny_comprehension_free (use:=some (assign (.Name x pos') X.env)) (Q:=fun _ s'=>∃ σ' H',Inv X pins σ' H' s'∧D0.nx σ' H') rfl hs k.clos k.kind k.names ?_) (fun _ s' hq=>wpAny_pure (wpAny_pure hq)) fun _ _ e=>e);refine thn (hi pins s σ H _ I h) fun v s1 h1=>thn h1 fun itv s2 h2=>?_;obtain⟨it,fp,tn,J,H2,e,I2,T,st2,f2,hD⟩:=h2;subst e;refine wpAny_newObj_type (wpAny_newFunctionEnv k.cell (by intro y hy;simp at hy) (fun h₁ hns₁ hsb₁=>?_) k.kind);dsimp only at hns₁ hsb₁ ⊢;generalize hH2:s2.heap.push { cls:=.type "list",dict:=none,data:=.seq ([]:List Value).toArray }=P2 at hns₁ hsb₁ ⊢;have hC:P2.objs.size=s2.heap.objs.size+1:=by rw[← hH2,Heap.size_push]
 have hDC:s2.heap.objs.size≠P2.objs.size:=by rw[hC];exact Nat.ne_of_lt (Nat.lt_succ_self _)
 have hCle:s2.heap.objs.size≤P2.objs.size:=by rw[hC];exact Nat.le_succ _
 have old:∀ b o,s2.heap.get? b=some o->h₁.get? b=some o:=fun b o e=>hsb₁.extBut b o (Nat.ne_of_lt (Nat.lt_of_lt_of_le (Heap.lt_size e) hCle)) (Heap.get?_push_of_some _ (hH2▸Heap.get?_push_of_some _ e));have hacc:h₁.get? s2.heap.objs.size=some { cls:=.type "list",data:=.seq ([]:List Value).toArray }:=hsb₁.extBut _ _ hDC (Heap.get?_push_of_some _ (hH2▸Heap.get?_push_size _ rfl))
 have hfl:∀ b∈fp,b < s2.heap.objs.size:=fun b hb=>by
   obtain⟨o,e,_⟩:=T.obj _ _ st2 b hb;exact Heap.lt_size e
 have fD:H2 s2.heap.objs.size=none:=I2.hok.fresh (Nat.le_refl _);obtain⟨W,⟨m0,w0⟩,turn⟩:=hD _ fD
 have IX:Inv (zg X scope N cl P2.objs.size s2 H2 fp (X.pn++pins)) [] (st0 js σ) (upd H2 s2.heap.objs.size (.lst [])) { s2 with heap:=h₁,toks:=s2.toks+([]:List (Str×Value)).length } :=
   qe1 k I2 f2 hfl (Nat.le_refl _) hCle hDC hns₁ hacc old
 have hg':=hg P2.objs.size s2 H2 fp (X.pn++pins);have ht':=ht P2.objs.size s2 H2 fp (X.pn++pins);have he':=he P2.objs.size s2 H2 fp (X.pn++pins)
 have stat:∀ {H':Hp},(∀ b∈fp,H' b=none)->∀ b∈fp,qfw (zg X scope N cl P2.objs.size s2 H2 fp (X.pn++pins)) [] H' b:=fun hn b hb=>by
   obtain⟨g0,g1,g2,g3,g4,g5⟩:=f2 b hb;refine⟨hn b hb,Nat.ne_of_lt (Nat.lt_of_lt_of_le (hfl b hb) hCle),fun z=>?_,.inl hb,fun x c h=>g4 x c (k.sub _ _ h),fun p hp=>g5 p (by simpa[zg] using hp)⟩;rcases List.mem_cons.mp (I2.stkSub b z) with e|e
   · exact g1 e
   · exact g2 e
 have loop:∀ s₃:Shared,s₃={ s2 with heap:=h₁,toks:=s2.toks+([]:List (Str×Value)).length } ->
     codeAny (model X.prog X.w) X.A (.compLoop (.ListComp elt [⟨tg,iter,ifs,0⟩] scope cpos) 0 (.ref it) (.ref s2.heap.objs.size) (compEnvC scope cl P2.objs.size X.env))
       (compPost (model X.prog X.w) X.A X.xe (some (assign (.Name x pos') X.env)) (fun _ s'=>∃ σ' H',Inv X pins σ' H' s'∧D0.nx σ' H') (.ref s2.heap.objs.size) P2.objs.size) s₃:=by
   rintro s₃ rfl;refine qa5 (fun n s'=>∃ i σ' H',Inv (zg X scope N cl P2.objs.size s2 H2 fp (X.pn++pins)) [] σ' H' s'∧tn i s'.heap∧(∀ b∈fp,H' b=none)∧W i n σ' H') ?_ m0
     ⟨0,st0 js σ,_,IX,T.keep _ _ _ st2 (fun b hb o e=>old b o e),fun b hb=>by rw[qj (Nat.ne_of_lt (hfl b hb))];exact(f2 b hb).1,w0⟩
   rintro n s3 ⟨i,σ3,H3,I3,st3,fr3,w3⟩;rcases turn i n σ3 H3 w3 with ⟨stop,qn⟩|⟨go,N2,hN,step⟩
   · refine thn (T.done (zg X scope N cl P2.objs.size s2 H2 fp (X.pn++pins)) rfl rfl rfl hc i [] s3 σ3 H3 noE I3 (stat fr3) st3 stop) fun r s4 ⟨hr,I4⟩=>?_;subst hr;obtain⟨m4,hn4,_⟩:=id I4.loc;have u4:Un (frs X.stack) fp H2 H3 s2.heap s4.heap:=I4.base;have fC:H3 P2.objs.size=none:=I4.free
     have I6:Inv X pins σ H3 s4:=I2.call' (s':=s4) I4.os u4 I4.hok I4.bare fun b hb=>by
       obtain⟨g0,g1,g2,g3,g4,g5⟩:=f2 b hb;exact⟨g3,g1,g4,g5⟩
     have fpC:qfw X pins H3 P2.objs.size:=I2.fpOk hCle fC;have hn4':s4.heap.Ns P2.objs.size m4:=hn4;obtain⟨oC,esC,epC,gC,rC⟩:=id hn4';have I7:=I6.pinned (fp:=[P2.objs.size]) (fun b hb=>by rw[show b=P2.objs.size by simpa using hb];exact fpC) (fun b hb=>⟨oC,by rw[show b=P2.objs.size by simpa using hb];exact gC,fun v z=>by rw[rC.1]at z;cases z⟩);show wpAny _ X.A (assign (.Name x pos') X.env (.ref s2.heap.objs.size)) _ _ s4;refine wpAny_assign_Name (jt I7 hN hi0 hx (v:=.ref s2.heap.objs.size) rfl (fun s5 I8=>?_) hf);have g5:=(I8.pin (P2.objs.size,oC) (List.mem_append_right _ (List.mem_append_right _ (zX (by simp) gC)))).1;refine⟨m4,hn4'.at' (fun o e=>by rw[gC]at e;cases e;exact g5),fun h' hsb=>⟨_,H3,?_,qn⟩⟩;exact I8.unpinned.turnL (t':=s5.toks) (ch:=[P2.objs.size]) (fun b o hb e=>hsb.extBut b o (fun z=>hb (by simp[z])) e) (fun b hb=>by rw[show b=P2.objs.size by simpa using hb];exact fpC)
   · refine thn (T.item (zg X scope N cl P2.objs.size s2 H2 fp (X.pn++pins)) rfl rfl rfl hc i [] s3 σ3 H3 noE I3 (stat fr3) st3 go) fun r s4 ⟨u,hr,h4⟩=>?_;subst hr;refine thn h4 fun _ s5 zz_=>?_;obtain⟨x,H5,I5,r5,y5,st5,fr5⟩:=zz_;have I5':=I5.pinned (stat fr5) (T.obj _ _ st5);refine thn (hg' _ s5 σ3 H5 x u _ I5' r5 (step x H5 y5)) fun _ s6 zz_=>?_;obtain⟨σ6,H6,I6,q6⟩:=zz_;refine thn (ht' _ s6 σ6 H6 _ I6 q6) fun ok s7 zz_=>?_;obtain⟨H7,I7,q7⟩:=zz_;have again:∀ {s8:Shared}{σ8:St}{H8:Hp},Inv (zg X scope N cl P2.objs.size s2 H2 fp (X.pn++pins)) ([]++qbP fp s5.heap) σ8 H8 s8->N2 σ8 H8 ->
         ∃ m,m < n∧∃ i σ' H',Inv (zg X scope N cl P2.objs.size s2 H2 fp (X.pn++pins)) [] σ' H' s8∧tn i s8.heap∧(∀ b∈fp,H' b=none)∧W i m σ' H':=fun {s8 σ8 H8} I8 n8=>by
       obtain⟨m',hm,w8⟩:=hN σ8 H8 n8;refine⟨m',hm,i+1,σ8,H8,I8.unpinned,T.keep _ _ _ st5 fun b hb o e=>(I8.pin (b,o) (List.mem_append_right _ (List.mem_append_right _ (zX hb e)))).1,fun b hb=>?_,w8⟩;obtain⟨o,e,d⟩:=T.obj _ _ st5 b hb;exact(I8.pin (b,o) (List.mem_append_right _ (List.mem_append_right _ (zX hb e)))).2.1
     cases ok with
     | false=>exact again I7 (by simpa using q7)
     | true =>
       have q7':te σ6 H7 fun y H5=>∃ ys,H5 s2.heap.objs.size=some (.lst ys)∧ys.length < sizeLine∧N2 σ6 (upd H5 s2.heap.objs.size (.lst (ys++[y]))):=by simpa using q7
       refine thn (he' _ s7 σ6 H7 _ I7 q7') fun xv s8 zz_=>?_;obtain⟨y,H8,I8,r8,ys,hy,hlen,n8⟩:=zz_;refine thn (qY (X:=zg X scope N cl P2.objs.size s2 H2 fp (X.pn++pins)) _ s8 σ6 H8 (.ref s2.heap.objs.size) [y] (.ref s2.heap.objs.size) [xv] (fun _ H9=>N2 σ6 H9) I8 rfl (.cons r8 .nil) ⟨_,ys,y,rfl,rfl,hy,hlen,n8⟩) fun _ s9 ⟨_,H9,I9,_,n9⟩=>again I9 n9
 exact codeAny_compStart_list (loop _ rfl) (T.self _ 0 _ _ _ (T.keep _ _ _ st2 (fun b hb o e=>old b o e)) (loop _ rfl))
end
theorem qL {t u:TS}{D:qfx}{σ:St}{H:Hp} (Post:St->Hp->Prop) (h1:∀ N:St->Hp->Prop,(∀ σ' H',Post σ' H'->N σ' H')->t { D with nx:=N } σ H) (h2:∀ σ' H',Post σ' H'->u D σ' H'):qlN t u D σ H:=h1 (u D) h2
inductive qhv (H:Hp) (p:Addr):Prop
 | mk (c x y:Int) (h1:0≤c) (h2:H p=some (.lst [.int c,.int x,.int y])):qhv H p
def PenAt (H:Hp) (p:Addr):Prop:=qhv H p
theorem PenAt.ne {H:Hp}{p q:Addr} (h:PenAt H p) (hq:H q=none):q≠p:=by
 obtain⟨c,x,y,_,e⟩:=h;exact(qi e hq).symm
theorem PenAt.same {H H':Hp}{p:Addr} (h:PenAt H p) (s:Same H H'):PenAt H' p:=by
 obtain⟨c,x,y,k,e⟩:=h;exact⟨c,x,y,k,s _ _ e⟩
theorem PenAt.upd {H:Hp}{p q:Addr} (h:PenAt H p) (n:q≠p) (o:HO):PenAt (L2.upd H q o) p:=by
 obtain⟨c,x,y,k,e⟩:=h;exact⟨c,x,y,k,by rw[qj n.symm];exact e⟩
inductive qlv {β:Type} (f:β->List V) (H:Hp) (ps:List β) (i:Nat) (z:V):Prop
 | mk (p:β) (t:Addr) (h1:ps[i]?=some p) (h2:z=.ref t) (h3:H t=some (.tup (f p))):qlv f H ps i z
inductive qlw {β:Type} (f:β->List V) (H:Hp) (zs:List V) (i:Nat) (p:β):Prop
 | mk (t:Addr) (h1:zs[i]?=some (.ref t)) (h2:H t=some (.tup (f p))):qlw f H zs i p
def TupL {β:Type} (f:β->List V) (H:Hp) (zs:List V) (ps:List β):Prop:=zs.length=ps.length∧∀ (i:Nat) z p,zs[i]?=some z->ps[i]?=some p->∃ t,z=.ref t∧H t=some (.tup (f p))
section
variable {β:Type}{f:β->List V}{H H':Hp}{zs:List V}{ps:List β}
theorem TupL.nil:TupL f H [] []:=⟨rfl,fun i z p e=>by simp at e⟩
theorem TupL.same (h:TupL f H zs ps) (s:Same H H'):TupL f H' zs ps:=⟨h.1,fun i z p e1 e2=>by
 obtain⟨t,e,q⟩:=h.2 i z p e1 e2
 exact⟨t,e,s _ _ q⟩⟩
theorem TupL.put {q:Addr}{xs ys:List V} (h:TupL f H zs ps) (hq:H q=some (.lst xs)):TupL f (upd H q (.lst ys)) zs ps:=⟨h.1,fun i z y e1 e2=>by
 obtain⟨t,e,r⟩:=h.2 i z y e1 e2
 exact⟨t,e,by rw[qj (Qm r hq (by intro z;cases z))];exact r⟩⟩
theorem TupL.snoc {t:Addr}{p:β} (h:TupL f H zs ps) (q:H t=some (.tup (f p))):TupL f H (zs++[.ref t]) (ps++[p]):=⟨by rw[List.length_append,List.length_append,h.1];rfl,fun i z y e1 e2=>by
 rcases qb8 e1 with e|⟨ei,e⟩
 · rcases qb8 e2 with e'|⟨ei',_⟩
   · exact h.2 i z y e e'
   · have:=(List.getElem?_eq_some_iff.mp e).1
     rw[ei',← h.1]at this;exact absurd this (Nat.lt_irrefl _)
 · rcases qb8 e2 with e'|⟨_,e'⟩
   · have:=(List.getElem?_eq_some_iff.mp e').1
     rw[ei,h.1]at this;exact absurd this (Nat.lt_irrefl _)
   · exact⟨t,e,e'▸q⟩⟩
theorem TupL.at_ (h:TupL f H zs ps) {i:Nat}{p:β} (e:ps[i]?=some p):qlw f H zs i p:=by
 have hi:i < zs.length:=by rw[h.1];exact(List.getElem?_eq_some_iff.mp e).1
 obtain⟨t,et,q⟩:=h.2 i _ p (List.getElem?_eq_getElem hi) e;exact⟨t,by rw[List.getElem?_eq_getElem hi,et],q⟩
theorem TupL.of (h:TupL f H zs ps) {i:Nat}{z:V} (e:zs[i]?=some z):qlv f H ps i z:=by
 have hi:i < ps.length:=by rw[← h.1];exact(List.getElem?_eq_some_iff.mp e).1
 obtain⟨t,et,q⟩:=h.2 i z _ e (List.getElem?_eq_getElem hi);exact⟨_,t,List.getElem?_eq_getElem hi,et,q⟩
end
theorem qg5 {H:Hp}:∀ (ns:List Int),DVs H (ns.map V.int) (ns.map PyData.int)
 | []=>.nil
 | n::r=>.cons (.int n) (qg5 r)
theorem qeL:∀ (ns:List Int),PyData.canLayAll0 (ns.map PyData.int)=true∧PyData.depthAll (ns.map PyData.int)≤1
 | []=>⟨rfl,by simp[PyData.depthAll]⟩
 | n::r=>by
   obtain⟨h1,h2⟩:=qeL r;refine⟨by simp[PyData.canLayAll0,PyData.canLay0,h1],?_⟩;simp only[List.map_cons,PyData.depthAll,PyData.depth];omega
theorem qd1 {β:Type}{g:β->List Int}{H:Hp}:∀ {zs:List V}{ps:List β},TupL (fun p=>(g p).map V.int) H zs ps->DVs H zs (ps.map fun p=>PyData.tuple ((g p).map PyData.int))
 | [],[],_=>.nil
 | z::zs,p::ps,h=>by
   obtain⟨t,e,q⟩:=h.2 0 z p rfl rfl;subst e;refine .cons (.tup (.inl q) (qg5 _)) (qd1 ⟨by simpa using h.1,fun i z p e1 e2=>h.2 (i+1) z p (by simpa using e1) (by simpa using e2)⟩)
 | [],_::_,h=>by simp[TupL]at h
 | _::_,[],h=>by simp[TupL]at h
theorem qeK {β:Type}{g:β->List Int}:∀ (ps:List β),PyData.canLayAll0 (ps.map fun p=>PyData.tuple ((g p).map PyData.int))=true∧PyData.depthAll (ps.map fun p=>PyData.tuple ((g p).map PyData.int))≤2
 | []=>⟨rfl,by simp[PyData.depthAll]⟩
 | p::r=>by
   obtain⟨h1,h2⟩:=qeK (g:=g) r;obtain⟨h3,h4⟩:=qeL (g p);refine⟨?_,?_⟩
   · simp only[List.map_cons,PyData.canLayAll0,PyData.canLay0,h1,h3];rfl
   · simp only[List.map_cons,PyData.depthAll,PyData.depth];omega
theorem qj1 {β:Type}{g:β->List Int}{H:Hp}{a b:Addr}{zs ys:List V}{ps:List β}{Q:VK} (h1:H a=some (.lst zs)) (h2:H b=some (.lst ys)) (t1:TupL (fun p=>(g p).map V.int) H zs ps) (t2:TupL (fun p=>(g p).map V.int) H ys ps) (q:Q (.bl false) H) :
   qlB (.ref a) (.ref b) H Q:=by
 have d1:=qd1 t1;have d2:=qd1 t2;obtain⟨l1,l2⟩:=qeK (g:=g) ps;have cl:PyData.canLay0 (.list (ps.map fun p=>PyData.tuple ((g p).map PyData.int)))=true:=by simp only[PyData.canLay0,l1]
 have sh:SeqAt.shaped (.list (ps.map fun p=>PyData.tuple ((g p).map PyData.int)))=true:=by
   unfold SeqAt.shaped;rw[cl,Bool.true_and];refine decide_eq_true ?_;simp only[PyData.depth];omega
 refine .inr ⟨_,_,.lst (.inl h1) d1,.lst (.inl h2) d2,sh,sh,?_⟩;rw[SeqAt.eqv_refl _ cl];exact q
end L2
namespace KC
open PySem L2 PySem.NumText PyProof.Rows
theorem Qq {xs:List V}{i:Int} (h0:0≤i) (h1:i < xs.length):∃ v,atI xs i=some v∧v∈xs:=by
 obtain⟨n,rfl⟩:=Int.eq_ofNat_of_zero_le h0;have hn:n < xs.length:=by omega
 exact⟨xs[n],zo (List.getElem?_eq_getElem hn),List.getElem_mem hn⟩
end KC
namespace L2
open PySem PySem.Spec PyProof.Rows
open PySem.W (Frag InstAt hasDictIn findIn isFn Looks looks_clsIn typeIn looks_findIn keepIn specialIn mroIn callWith_K methodCall_KW clsIn notCls looks_mroIn check_slot findCls subIn isClsIn)
def ExO (ea C:Addr) (dx:Option Addr) (tb:Value):Heap->Prop:=fun h =>
 ∃ o vs,h.get? ea=some o∧o.cls=.ref C∧o.dict=dx∧o.data=.fields vs∧vs.size=6∧vs[1]?=some tb∧vs[2]?=some Value.none
def TbO (T:Addr):Heap->Prop:=fun h=>∃ o ts,h.get? T=some o∧o.data=.fields ts∧ts[3]?=some Value.none
def XAt (H:Hp) (ea C:Addr) (dx:Option Addr):Prop :=
 ∃ tb,H ea=some (.ext (ExO ea C dx tb))∧(tb=.none∨∃ T,tb=.ref T∧H T=some (.ext (TbO T))∧T≠ea)
theorem qeV {P:Program}{w:World}{H:Hp}{h:Heap}{ea C:Addr}{dx:Option Addr}{tb:Value} (x:ExO ea C dx tb h):ObjOk P w H h ea (.ext (ExO ea C dx tb)):=by
 obtain⟨o,vs,e,r⟩:=id x;exact⟨x,⟨o,e⟩,fun h1 h2 ⟨o',vs',e',r'⟩ k=>⟨o',vs',k _ e',r'⟩⟩
theorem qkv {P:Program}{w:World}{H:Hp}{h:Heap}{T:Addr} (x:TbO T h):ObjOk P w H h T (.ext (TbO T)):=by
 obtain⟨o,vs,e,r⟩:=id x;exact⟨x,⟨o,e⟩,fun h1 h2 ⟨o',vs',e',r'⟩ k=>⟨o',vs',k _ e',r'⟩⟩
section
variable {M:Model}{A:Around}{E:Value->Shared->Prop}{s:Shared}
structure qhx (L:List Addr) (e:Addr) (oe:Obj) (h h':Heap) (T:Addr) (fl:Value):Prop where
 new:T=h.objs.size
 keep:∀ b o,b≠e->b∉L->h.get? b=some o->h'.get? b=some o
 slot:∀ b o,b≠e->h.get? b=some o->∃ sl,h'.get? b=some { o with slots:=sl }
 exc:h'.get? e=some (oe.mapFields (·.setIfInBounds 1 (.ref T)))
 tb:∃ oT ts,h'.get? T=some oT∧oT.data=.fields ts∧ts[3]?=some fl
theorem qbW {base:Heap}{env:Env}{outer:List Env}{L e:Addr}{oe:Obj}{vs:Array Value}{head:Value}{hadNext:Bool}{Q:Unit->Shared->Prop}
   (hfr:A.frames=some (env::outer)) (hl:s.heap.FunFrames base (env::outer)) (hf:env.frame=some L)
   (he:s.heap.get? e=some oe) (hd:oe.data=.fields vs) (hsz:1 < vs.size)
   (h:∀ h' T,qhx (frs (env::outer)) e oe s.heap h' T (rawInt L)->Q () { s with heap:=h' }) :
   wpAny M A (do
     let a ← frameOf env;let pl ← entryPlaceOf L hadNext;let b ← EntryCells.newEntry head a .none (rawInt L) .none pl
     setField (.ref e) 1 b) Q E s:=by
 have hene:e∉(env::outer).filterMap (·.frame):=fun hm=>by
   obtain⟨_,o,ho,hnf⟩:=hl.mem hm;rw[he]at ho;cases ho;exact hnf vs hd
 refine wpAny_bind (wpAny_frameOf_fun hfr hl hf fun g1 hs1=>?_);refine wpAny_bind (wpAny_entryPlaceOf fun pl hpl=>?_);unfold EntryCells.newEntry newFields;refine wpAny_bind (wpAny_newObj_type ?_ (hpl.sizeOk5 _ _ _ _ _));have he1:g1.get? e=some oe:=(hs1.2.1 e hene).trans he;generalize hob:({ cls:=.type "traceback",dict:=none,data:=.fields ([head,.ref L,.none,rawInt L,.none]++(if pl.isEmpty then List.replicate 6 Value.none else pl)).toArray }:Obj)=ob;have hobd:ob.data=.fields ([head,.ref L,.none,rawInt L,.none]++(if pl.isEmpty then List.replicate 6 Value.none else pl)).toArray:=by rw[← hob]
 have hof:ob.isFreed=false:=by rw[← hob];rfl
 have he2:=Heap.get?_push_of_some (h:=g1) ob he1;refine wpAny_setField he2 hd hsz (h _ g1.objs.size ?_);have hTe:g1.objs.size≠e:=Nat.ne_of_gt (Heap.lt_size he1);have hd3:=Obj.data_mapFields hd (·.setIfInBounds 1 (Value.ref g1.objs.size))
 have keep:∀ b o,b≠e->g1.get? b=some o->((g1.push ob).update e (Obj.mapFields (·.setIfInBounds 1 (Value.ref g1.objs.size)))).get? b=some o:=fun b o hbe hb=>by
   rw[Heap.get?_update_other _ _ (Ne.symm hbe)];exact Heap.get?_push_of_some _ hb
 refine⟨hs1.1,fun b o hbe hbL hb=>keep b o hbe ((hs1.2.1 b hbL).trans hb),fun b o hbe hb=>?_,Heap.get?_update_self _ he2 (Obj.isFreed_of_fields hd3),ob,_,?_,hobd,?_⟩
 · obtain⟨sl,q⟩:=hs1.2.2 b o hb;exact⟨sl,keep b _ hbe q⟩
 · rw[Heap.get?_update_other _ _ (Ne.symm hTe)];exact Heap.get?_push_size g1 hof
 · simp
theorem qgC {base:Heap}{env:Env}{outer:List Env}{L e:Addr}{oe:Obj}{vs:Array Value}{tb:Value}{Q:Unit->Shared->Prop}
   (hfr:A.frames=some (env::outer)) (hl:s.heap.FunFrames base (env::outer)) (hf:env.frame=some L)
   (he:s.heap.get? e=some oe) (hd:oe.data=.fields vs) (h1:vs[1]?=some tb) (ht:tb=.none∨∃ T,tb=.ref T∧TbO T s.heap)
   (h:∀ h' T,qhx (frs (env::outer)) e oe s.heap h' T (rawInt L)->Q () { s with heap:=h' }):wpAny M A (noteFrame (.ref e) env) Q E s:=by
 unfold noteFrame;simp only[hf];refine wpAny_bind (wpAny_field he hd h1 ?_);have hsz:=(Array.getElem?_eq_some_iff.mp h1).1;rcases ht with rfl|⟨T,rfl,oT,ts,hT,hdT,h3⟩
 · rw[if_neg (by decide)];exact qbW hfr hl hf he hd hsz h
 · rw[if_pos (show (Value.ref T != Value.none)=true from by simp)];refine wpAny_bind (wpAny_field hT hdT h3 ?_);rw[if_neg (show ¬ ((Value.none == rawInt L)=true) from by simp[rawInt])];refine wpAny_bind (wpAny_setField hT hdT (Array.getElem?_eq_some_iff.mp h3).1 ?_);rw[Heap.update_setField_same s.heap T oT ts 3 Value.none hT hdT h3];exact qbW hfr hl hf he hd hsz h
theorem qgL {base:Heap}{env:Env}{outer:List Env}{L e:Addr}{oe:Obj}{vs:Array Value}{tb:Value}{Q:Unit->Shared->Prop}
   (hfr:A.frames=some (env::outer)) (hl:s.heap.FunFrames base (env::outer)) (hf:env.frame=some L)
   (he:s.heap.get? e=some oe) (hd:oe.data=.fields vs) (h1:vs[1]?=some tb) (ht:tb=.none∨∃ T,tb=.ref T∧TbO T s.heap)
   (h:∀ h' T,qhx (frs (env::outer)) e oe s.heap h' T .none->Q () { s with heap:=h' }) :
   wpAny M A (noteFrame (.ref e) env) (fun _ s2=>wpAny M A (setFlight (.ref e) none) Q E s2) E s:=by
 refine qgC hfr hl hf he hd h1 ht fun h' T K=>?_;obtain⟨k1,k2,k3,k4,oT,ts,k5,k6,k7⟩:=K;have hsz:=(Array.getElem?_eq_some_iff.mp h1).1;have h3:3 < ts.size:=(Array.getElem?_eq_some_iff.mp k7).1;have hTe:e≠T:=by rw[k1];exact Nat.ne_of_lt (Heap.lt_size he)
 unfold setFlight;refine wpAny_bind (wpAny_field k4 (Obj.data_mapFields hd _) (x:=.ref T) (by simp[hsz]) ?_);rw[if_pos (show (Value.ref T != Value.none)=true from by simp)];refine wpAny_setField k5 k6 h3 (h _ T ⟨k1,fun b o hbe hbL hb=>?_,fun b o hbe hb=>?_,?_,_,_,Heap.get?_update_self _ k5 (Obj.isFreed_of_fields (Obj.data_mapFields k6 _)),Obj.data_mapFields k6 _,by simp[h3]⟩)
 · have:T≠b:=by rw[k1];exact Nat.ne_of_gt (Heap.lt_size hb)
   rw[Heap.get?_update_other _ _ this];exact k2 b o hbe hbL hb
 · have:T≠b:=by rw[k1];exact Nat.ne_of_gt (Heap.lt_size hb)
   rw[Heap.get?_update_other _ _ this];exact k3 b o hbe hb
 · rw[Heap.get?_update_other _ _ (Ne.symm hTe)];exact k4
end
section
variable {X:Cx}{pins:List (Addr×Obj)}{σ:St}{H:Hp}{s:Shared}{ea C:Addr}{dx:Option Addr}
def Zk (H:Hp) (ea C:Addr) (dx:Option Addr) (T:Addr):Hp:=upd (upd H ea (.ext (ExO ea C dx (.ref T)))) T (.ext (TbO T))
theorem qaR {T:Addr}{b:Addr}{o:HO} (hT:H T=none) (hb:b≠ea) (e:H b=some o):Zk H ea C dx T b=some o:=by
 unfold Zk;rw[qj (qi e hT),qj hb];exact e
theorem qgM {T:Addr} (hT:H T=none) (hne:T≠ea):XAt (Zk H ea C dx T) ea C dx:=by
 refine⟨.ref T,?_,.inr ⟨T,rfl,?_,hne⟩⟩
 · unfold Zk;rw[qj (Ne.symm hne),qc]
 · unfold Zk;rw[qc]
theorem qgK {M:Model}{A:Around}{E:Value->Shared->Prop}{Q:Unit->Shared->Prop} (I:Inv X pins σ H s) (hst:X.stack=X.env::X.outer) (hf:X.env.frame=some X.env.locals) (hfr:A.frames=some X.stack) (x:XAt H ea C dx)
   (h:∀ s' T,H T=none->T≠ea->Inv X pins σ (Zk H ea C dx T) s'->Q () s') :
   wpAny M A (noteFrame (.ref ea) X.env) (fun _ s2=>wpAny M A (setFlight (.ref ea) none) Q E s2) E s:=by
 obtain⟨tb,e1,e2⟩:=x;obtain⟨⟨oe,vs,he,hc,hdx,hd,hz,h1,hx2⟩,_,_⟩:=(show ObjOk X.prog X.w H s.heap ea (.ext (ExO ea C dx tb)) from I.hok ea _ e1)
 have ht:tb=.none∨∃ T,tb=.ref T∧TbO T s.heap:=by
   rcases e2 with e2|⟨T,e2,e3,_⟩
   · exact .inl e2
   · obtain⟨q,_,_⟩:=(show ObjOk X.prog X.w H s.heap T (.ext (TbO T)) from I.hok T _ e3)
     exact .inr ⟨T,e2,q⟩
 have hl:=I.stack;rw[hst]at hl hfr;have hea:ea∉frs X.stack:=fun z=>by have:=I.stkFree ea z;rw[e1]at this;cases this
 refine qgL hfr hl hf he hd h1 ht fun h' T K=>?_;obtain⟨k1,k2,k3,k4,oT,ts,k5,k6,k7⟩:=K;rw[← hst]at k2;have hT:H T=none:=I.hok.fresh (by rw[k1];exact Nat.le_refl _);have hTe:T≠ea:=by rw[k1];exact Nat.ne_of_gt (Heap.lt_size he)
 have nT:∀ b ob,s.heap.get? b=some ob->b≠T:=fun b ob e=>by rw[k1];exact Nat.ne_of_lt (Heap.lt_size e)
 have trk:∀ b u,H b=some u->b∉frs X.stack:=fun b u e z=>by have:=I.stkFree b z;rw[e]at this;cases this
 have nex:∀ b u,H b=some u->(∀ φ,u≠.ext φ)->b≠ea:=fun b u e n z=>by subst z;rw[e1]at e;cases e;exact n _ rfl
 have old:∀ b u,H b=some u->(∀ φ,u≠.ext φ)->Zk H ea C dx T b=some u:=fun b u e n=>qaR hT (nex b u e n) e
 have un:Un (frs X.stack) [] H (Zk H ea C dx T) s.heap h':=by
   refine⟨fun b o e n hb _=>k2 b o (fun z=>by subst z;rw[e1]at n;cases n) hb e,fun b o e n hb _=>k3 b o (fun z=>by subst z;rw[e1]at n;cases n) e,fun b o e n _=>?_,fun b o e _=>?_,
     fun b xs e=>old b _ e fun φ z=>(nomatch z),fun b o u e=>old b _ e fun φ z=>(nomatch z),fun b ps e=>⟨#[],by rw[old b _ e fun φ z=>(nomatch z)];simp⟩⟩
   · unfold Zk;rw[qj (nT b o e),qj fun z=>by subst z;rw[e1]at n;cases n];exact n
   · by_cases z:b=ea
     · subst z;exact⟨_,k4⟩
     · obtain⟨sl,q⟩:=k3 b o z e;exact⟨_,q⟩
 have hok:HOk X.prog X.w (Zk H ea C dx T) h':=fun b u e=>by
   by_cases z:b=T
   · subst z;unfold Zk at e;rw[qc]at e;cases e;exact qkv ⟨oT,ts,k5,k6,k7⟩
   · by_cases z2:b=ea
     · subst z2;unfold Zk at e;rw[qj z,qc]at e;cases e;refine qeV ⟨_,_,k4,(Obj.cls_mapFields _ _).trans hc,?_,Obj.data_mapFields hd _,by simp[hz],by simp[hz],by rw[Array.getElem?_setIfInBounds_ne (by decide)];exact hx2⟩;rw[← hdx];obtain⟨oc,od,odt,osl⟩:=oe;have hd':odt=.fields vs:=hd;subst hd';rfl
     · have e':H b=some u:=by
         unfold Zk at e;rw[qj z,qj z2]at e;exact e
       refine(I.hok b u e').stay (fun c v hc q=>?_) (fun c q=>old c _ q fun φ z=>(nomatch z)) fun c xs q=>old c _ q fun φ z=>(nomatch z)
       rcases hc with hc|hc
       · subst hc;exact k2 c v z2 (trk c u e') q
       · exact k2 c v (nex c _ hc fun φ z=>(nomatch z)) (trk c _ hc) q
 exact h _ T hT hTe (I.call' (s':={ s with heap:=h' }) rfl un hok I.bare fun b z=>absurd z (by simp))
def Sure (E:XK) (C ea:Addr) (dx:Option Addr) (H:Hp):Prop:=∀ H',(∀ b o,b≠ea->H b=some o->H' b=some o)->XAt H' ea C dx->E (.ref C) (some ea) H'
theorem Sure.look {E:XK}{T:Addr} (h:Sure E C ea dx H) (hT:H T=none):Sure E C ea dx (Zk H ea C dx T):=fun H' k x=>h H' (fun b o hb e=>k b o hb (qaR hT hb e)) x
inductive qly (P:Program) (w:World) (outer:List Env) (H:Hp) (s:Shared) (E:XK) (e:Value) (s':Shared):Prop
 | mk (ea C dx H':_) (h1:e=.ref ea) (h2:s'.os=s.os) (h3:AllBare s'.gens) (h4:Un (frs outer) [] H H' s.heap s'.heap) (h5:HOk P w H' s'.heap) (h6:XAt H' ea C dx) (h7:Sure E C ea dx H'):qly P w outer H s E e s'
def CX1 (P:Program) (w:World):CXT:=fun outer H s E e s'=>qly P w outer H s E e s'
def Throws (X:Cx) (E:XK):Prop:=∀ (pins:List (Addr×Obj)) (σ:St) (H:Hp) (s:Shared) (ea C:Addr) (dx:Option Addr),Inv X pins σ H s->XAt H ea C dx->Sure E C ea dx H->X.xe (.ref ea) s
theorem Throws.passes {E:XK} (t:Throws X E):j4 (CX1 X.prog X.w) X E:=by
 intro pins σ H s e s' I ⟨ea,C,dx,H',e1,os,bare,un,hok,x,q⟩;subst e1;exact t pins σ H' s' ea C dx (I.call' os un hok bare fun b z=>absurd z (by simp)) x q
theorem throws_cx {P:Program}{w:World}{K:Frag}{mg:Str->Option Value}{base:Heap}{N:List Str}{qual:Str}{scope:Scope}{f:Addr}{cd:Value}{A:Around}{outer:List Env}{s₀:Shared}{H₀:Hp}{E:XK} :
   Throws (zb (CX1 P w) P w K mg base N qual scope f cd A outer s₀ H₀ E) E:=by
 intro pins σ H s ea C dx I x q;show wpAny _ _ (leaving _ _) _ _ _;unfold leaving;refine wpAny_bind (qgK I rfl rfl I.ok.frames x fun s' T hT hne J=>?_);exact⟨ea,C,dx,_,rfl,J.os,J.bare,J.base,J.hok,qgM hT hne,q.look hT⟩
end
def tyS:Value->String
 | .type a=>a
 | _=>""
theorem qkt {v:Value}{s:String} (h:tyS v=s) (n:s≠""):v=.type s:=by
 cases v with
 | type a=>exact congrArg _ h
 | _=>exact absurd h.symm n
theorem qjv {l:List Value}:∀ {ss:List String},l.map tyS=ss->(∀ s∈ss,s≠"")->l=ss.map Value.type:=by
 induction l with
 | nil=>intro ss h _;rw[← h];rfl
 | cons v l ih =>
   intro ss h n
   cases ss with
   | nil=>cases h
   | cons s ss =>
     have h1:tyS v=s:=(List.cons.inj h).1;have h2:l.map tyS=ss:=(List.cons.inj h).2;rw[qkt h1 (n s List.mem_cons_self),ih h2 fun x m=>n x (List.mem_cons_of_mem _ m)];rfl
def JS:List Value->Bool
 | []=>false
 | x::r=>match x with
   | .ref _=>JS r
   | _=>(x::r).map tyS == ["ValueError","Exception","BaseException","object"]
theorem qah {l:List Value} (e:JS l=true):(∃ c r,l=.ref c::r∧JS r=true)∨l=[.type "ValueError",.type "Exception",.type "BaseException",.type "object"]:=by
 cases l with
 | nil=>cases e
 | cons x r =>
   unfold JS at e;split at e
   · exact .inl ⟨_,r,rfl,e⟩
   · exact .inr (qjv (eq_of_beq e) (by decide))
theorem Qg {T:String}{v:Bool} (h4:([.type "ValueError",.type "Exception",.type "BaseException",.type "object"]:List Value).contains (.type T)=v) {l:List Value}:JS l=true->l.contains (.type T)=v:=by
 induction l with
 | nil=>intro e;cases e
 | cons x r ih =>
   intro e;rcases qah e with ⟨c,r',h,e'⟩|h
   · cases h;rw[List.contains_cons,ih e',show (Value.type T == Value.ref c)=false from rfl,Bool.false_or]
   · rw[h];exact h4
inductive qjn (K:Frag) (C:Addr):Prop
 | mk (nm qn:Str) (N:Addr) (bs bm:List Value) (sn:List Str) (sub:List Value) (ab:Bool) (col:Option Bool) (dd:Option Addr) (k0 k1 k2 k3 k5:Option Value) (h1:K.lookup C=some (excClassObj nm qn C N bs bm true sn sub ab col dd k0 k1 k2 k3 k5 "ValueError.__new__")) (h2:JS bm=true):qjn K C
def qmn (K:Frag) (C:Addr):Prop:=qjn K C
noncomputable def xIn (K:Frag) (C:Addr):Bool:=@decide (qmn K C) (Classical.propDecidable _)
theorem xIn_iff {K:Frag}{C:Addr}:xIn K C=true↔qmn K C:=@decide_eq_true_iff (qmn K C) (Classical.propDecidable _)
theorem qlz {K:Frag}{h:Heap}{C:Addr} (X:K.In h) (q:xIn K C=true):∃ nm qn N bs bm sn sub ab col dd k0 k1 k2 k3 k5,
   h.get? C=some (excClassObj nm qn C N bs bm true sn sub ab col dd k0 k1 k2 k3 k5 "ValueError.__new__")∧JS bm=true:=by
 obtain⟨nm,qn,N,bs,bm,sn,sub,ab,col,dd,k0,k1,k2,k3,k5,ho,hx⟩:=xIn_iff.mp q;exact⟨nm,qn,N,bs,bm,sn,sub,ab,col,dd,k0,k1,k2,k3,k5,X _ _ ho,hx⟩
section
variable {M:Model}{A:Around}{E:Value->Shared->Prop}{h:Heap}{g:Array GenState}{d:Drawn}{t:Nat}{os:OsState}
variable {nm q:Str}{C N:Addr}{bs bm bmB:List Value}{sn:List Str}{sub:List Value}{ab:Bool}{col:Option Bool}{dd:Option Addr}{k0 k1 k2 k3 k5:Option Value}{B newId initId:String}
theorem qdJ (F:ExcBaseFacts B newId initId bmB) {rest:List Value}{Q:Unit->Shared->Prop} (hC:h.get? C=some (excClassObj nm q C N bs bm true sn sub ab col dd k0 k1 k2 k3 k5 newId))
   (hcont:(Value.ref C::bm).contains (.type B)=true) (hq:Q () ⟨h,g,d,t,os⟩):wpAny M A (checkBuiltinCall newId ⟨.ref C::rest,[]⟩) Q E ⟨h,g,d,t,os⟩:=by
 have hstar:=F.noStar;simp only[checkBuiltinCall,F.newKind,F.newSplit,F.newRow]
 repeat (first
   | refine wpAny_loadPart_at hC ?_
   | (refine wpAny_isSubtype_exc hC ?_;rw[hcont])
   | refine wpAny_staticBase_exc hC ?_
   | refine wpAny_madeBy_exc hC ?_
   | simp only[bne_self_eq_false,Bool.false_eq_true,if_false]
   | wp_step)
 exact hq
end
section
variable {prog:Program}{w:World}{A:Around}{R:Result->Shared->Prop}{E:Value->Shared->Prop}{h:Heap}{g:Array GenState}{d:Drawn}{t:Nat}{os:OsState}
variable {nm q:Str}{C N:Addr}{bs bm bmB:List Value}{sn:List Str}{sub:List Value}{ab:Bool}{col:Option Bool}{dd:Option Addr}{k0 k1 k2 k3 k5:Option Value}{B newId initId:String}
abbrev jj (C:Addr) (t:Addr):Obj:={ cls:=.ref C,data:=.fields #[.ref t,.none,.none,.none,.bool false,.none] }
theorem qlH (F:ExcBaseFacts B newId initId bmB) {rest:List Value} (hC:h.get? C=some (excClassObj nm q C N bs bm true sn sub ab col dd k0 k1 k2 k3 k5 newId))
   (hcB:(Value.ref C::bm).contains (.type B)=true) (hcA:(Value.ref C::bm).contains (.type "AttributeError")=false) (hcN:(Value.ref C::bm).contains (.type "NameError")=false)
   (hq:R (.ok (.ret (.ref (h.objs.size+1)))) ⟨(h.push { cls:=.type "tuple",data:=.seq rest.toArray }).push (jj C h.objs.size),g,d,t,os⟩) (hrest:rest.length≤sizeLine) :
   codeAny (model prog w) A (.builtin newId ⟨.ref C::rest,[]⟩) R ⟨h,g,d,t,os⟩:=by
 have hends:=F.ends;refine codeAny_builtinAt F.entry ?_;unfold Builtin.«BaseException.__new__»;refine PySem.wpAt_bind ?_;show PySem.wpAt _ _ _ (stack >>= _) _ _ _;refine PySem.wpAt_bind (PySem.wpAt_stack fun p below=>PySem.wpAt_of_wpAny ?_)
 wp_walk
 refine PySem.wpAt_of_wpAny ?_;rw[F.owner]
 repeat (first
   | with_reducible refine wpAny_madeHere_exc F.canon hC ?_
   | with_reducible refine wpAny_loadPart_at hC ?_
   | (with_reducible refine wpAny_isSubtype_exc hC ?_;first|rw[hcB]|rw[hcA]|rw[hcN])
   | wp_step)
 show R _ _;rw[Heap.size_push];exact hq
theorem qkq {K:Frag}{rest:List Value}{fI:Addr}{Q:Value->Shared->Prop} (X:K.In h) (xi:xIn K C=true)
   (hi:findIn K (.ref C) "__init__"=some (some (.ref fI))) (hf:typeIn K (.ref fI)=some (.type "function"))
   (hq:wpAny (model prog w) (A.under (.builtin "type.__call__" ⟨.ref C::rest,[]⟩)) (call (.ref fI) (.ref (h.objs.size+1)::rest)) (fun r s'=>r=.none∧Q (.ref (h.objs.size+1)) s') E
     ⟨(h.push { cls:=.type "tuple",data:=.seq rest.toArray }).push (jj C h.objs.size),g,d,t,os⟩) (hrest:rest.length≤sizeLine) :
   wpAny (model prog w) A (call (.ref C) rest) Q E ⟨h,g,d,t,os⟩:=by
 obtain⟨nm,qn,N,bs,bm,sn,sub,ab,col,dd,k0,k1,k2,k3,k5,hC,hx⟩:=qlz X xi;have F:=PySem.F.excBase_ValueError;have f1:=tc_lookup;have f2:=tc_bind (.ref C);have hT:(⟨h,g,d,t,os⟩:Shared).TypeIs (.ref C) "type":=⟨_,hC,rfl⟩
 have hcB:(Value.ref C::bm).contains (.type "ValueError")=true:=by rw[List.contains_cons,Qg (v:=true) (by decide +kernel) hx,Bool.or_true]
 have hcA:(Value.ref C::bm).contains (.type "AttributeError")=false:=by rw[List.contains_cons,Qg (v:=false) (by decide +kernel) hx];rfl
 have hcN:(Value.ref C::bm).contains (.type "NameError")=false:=by rw[List.contains_cons,Qg (v:=false) (by decide +kernel) hx];rfl
 refine wpAny_call (codeAny_of_tree ?_);show wpAny _ _ (callAny (.ref C) _) _ _ _
 repeat (any_goals (first
   | assumption
   | with_reducible refine wpAny_loadPart_at hC ?_
   | wp_step))
 refine⟨rfl,?_⟩;refine codeAny_call_builtin_at (Code.quiet_builtin _ (by decide +kernel)) entry_typeCall (wpAny_check_type_call_sub hC ?_)
 repeat (first
   | with_reducible refine wpAny_loadPart_at hC ?_
   | with_reducible refine wpAny_madeBy_exc hC ?_
   | wp_step)
 refine codeAny_call_builtin_code (Code.quiet_builtin _ F.quiet) (qdJ F hC hcB ?_);refine qlH F hC hcB hcA hcN ?_ hrest;show wpAny _ _ _ _ _ (⟨(h.push { cls:=.type "tuple",data:=.seq rest.toArray }).push (jj C h.objs.size),g,d,t,os⟩:Shared);have kp:∀ b o,h.get? b=some o->((h.push { cls:=.type "tuple",data:=.seq rest.toArray }).push (jj C h.objs.size)).get? b=some o:=fun b o e=>Heap.get?_push_of_some _ (Heap.get?_push_of_some _ e);have hC1:=kp _ _ hC;have X1:=X.keeps kp;have hget:((h.push { cls:=.type "tuple",data:=.seq rest.toArray }).push (jj C h.objs.size)).get? (h.objs.size+1)=some (jj C h.objs.size):=by heap_get
 have hcC:(Value.ref C::bm).contains (.ref C)=true:=by simp
 unfold isInstance
 repeat (first
   | with_reducible refine wpAny_loadPart_at hget ?_
   | (show wpAny _ _ (isSubtype (.ref C) _) _ _ _;with_reducible refine wpAny_isSubtype_exc hC1 ?_;rw[hcC])
   | wp_step)
 show wpAny _ _ (typeLookup (.ref C) _) _ _ _;refine(looks_findIn X1 hi).at ?_;refine wpAny_holding (wpAny_bind ((PySem.W.bind_fn X1 _ hf).at ?_));refine wpAny_bind (wpAny_mono hq (fun r s' hr=>?_) fun _ _ x=>x);obtain⟨rfl,hQ⟩:=hr
 wp_walk
 exact hQ
end
theorem xcd {K:Frag}{C:Addr} (q:xIn K C=true):∃ cd bm,clsIn K C=some cd∧cd.mro=.ref C::bm∧JS bm=true∧cd.hasDict=true:=by
 obtain⟨nm,qn,N,bs,bm,sn,sub,ab,col,dd,k0,k1,k2,k3,k5,ho,hx⟩:=xIn_iff.mp q
 have e:∃ cd,clsIn K C=some cd∧cd.mro=.ref C::bm∧cd.hasDict=true:=by
   unfold clsIn;rw[ho];exact⟨_,rfl,rfl,rfl⟩
 obtain⟨cd,h1,h2,h3⟩:=e;exact⟨cd,bm,h1,h2,hx,h3⟩
theorem qmr {K:Frag}{C:Addr}{T:String} (q:xIn K C=true) (h4:([.type "ValueError",.type "Exception",.type "BaseException",.type "object"]:List Value).contains (.type T)=true):mroIn K C (.type T)=some true:=by
 obtain⟨cd,bm,h1,h2,h3,_⟩:=xcd q;unfold mroIn;rw[h1,Option.bind_some,h2,if_neg (by simp),List.contains_cons,Qg h4 h3,Bool.or_true]
section
variable {M:Model}{A:Around}{E:Value->Shared->Prop}{s:Shared}{env:Env}
theorem qjs {x:Sem Value}{Q:Flow->Shared->Prop} (hh:A.handled=none)
   (h:wpAny M A x (fun v s1=>∃ (ea C:Addr) (o:Obj) (vs:Array Value) (K:Frag),v=.ref ea∧K.In s1.heap∧xIn K C=true∧s1.heap.get? ea=some o∧o.cls=.ref C∧o.data=.fields vs∧vs[1]?=some .none∧E (.ref ea) s1) E s) :
   wpAny M A (raiseStmt env (some x) none) Q E s:=by
 unfold raiseStmt;refine wpAny_bind (wpAny_mono h (fun v s1 h1=>?_) fun _ _ x=>x);obtain⟨ea,C,o,vs,K,rfl,X,xi,he,hc,hd,hv,hE⟩:=h1;obtain⟨nm,qn,N,bs,bm,sn,sub,ab,col,dd,k0,k1,k2,k3,k5,hC,hx⟩:=qlz X xi;have hcB:(Value.ref C::bm).contains (.type "BaseException")=true:=by rw[List.contains_cons,Qg (v:=true) (by decide +kernel) hx,Bool.or_true]
 obtain⟨oc,od,odt,osl⟩:=o;dsimp only at hc hd;subst hc hd;obtain⟨hp,g,d,tk,os⟩:=s1
 repeat (first
   | with_reducible refine wpAny_field he rfl hv ?_
   | with_reducible refine wpAny_loadPart_at he ?_
   | with_reducible refine wpAny_loadPart_at hC ?_
   | (with_reducible refine wpAny_isSubtype_exc hC ?_;rw[hcB])
   | wp_step)
 exact wpAny_raiseNew_none hh hE
end
section
variable {prog:Program}{w:World}{A:Around}{E:Value->Shared->Prop}{s:Shared}{K:Frag}{C x:Addr}{ox:Obj}{name:Str}{v:Value}
theorem qju {rest:List Value}{vs:Array Value}{Q:Value->Shared->Prop} (X:K.In s.heap) (xi:xIn K C=true) (hx:s.heap.get? x=some ox) (hc:ox.cls=.ref C) (hd:ox.data=.fields vs) (hz:vs.size=6) (hl:rest.length≤sizeLine)
   (h:∀ h' tp,(∀ b o,b≠x->s.heap.get? b=some o->h'.get? b=some o)->h'.get? x=some (ox.mapFields (·.setIfInBounds 0 tp))->Q .none { s with heap:=h' }) :
   wpAny (model prog w) A (call (.builtin "ValueError.__init__") (.ref x::rest)) Q E s:=by
 obtain⟨hp,g,d,tk,os⟩:=s;have F:=PySem.F.excBase_ValueError;obtain⟨nm,qn,N,bs,bm,sn,sub,ab,col,dd,k0,k1,k2,k3,k5,hC,hxt⟩:=qlz X xi;have hcB:(Value.ref C::bm).contains (.type "ValueError")=true:=by rw[List.contains_cons,Qg (v:=true) (by decide +kernel) hxt,Bool.or_true]
 have hshort:=F.noStar
 have chk:wpAny (model prog w) A.in1 (checkBuiltinCall "ValueError.__init__" ⟨.ref x::rest,[]⟩) (fun _ s'=>s'=⟨hp,g,d,tk,os⟩) (fun _ _=>False) ⟨hp,g,d,tk,os⟩:=by
   simp only[checkBuiltinCall,F.initKind,F.initSplit,F.initRow]
   repeat (first
     | (with_reducible refine wpAny_loadPart_at hx ?_;rw[hc])
     | with_reducible refine wpAny_loadPart_at hC ?_
     | (with_reducible refine wpAny_isSubtype_exc hC ?_;rw[hcB])
     | wp_step)
   refine wpAny_onRaise ?_
   rw[show ∀ (a b:String) (n:Nat),Bind.check ⟨.positional,"*","ValueError",.self,[⟨"args",.varPos,false⟩]⟩ a b n (List.map (fun x=>x.fst) ({ pos:=Value.ref x::rest }:Args).kw)=pure () from
     fun a b n=>check_star_args _ _ _ _ _ _]
   exact wpAny_pure rfl
 refine wpAny_call (codeAny_call_builtin F.init.plain F.initEntry (wpAny_mono chk (fun _ s1 e=>?_) fun _ _ z=>z.elim));subst e;unfold Builtin.«BaseException.__init__»
 repeat (first
   | with_reducible refine wpAny_loadPart_at hx ?_
   | wp_step)
 obtain⟨a0,h0⟩:∃ a0,vs[0]?=some a0:=⟨_,Array.getElem?_eq_getElem (by omega)⟩
 rw[hd];refine wpAny_pure ?_;rw[h0];refine wpAny_pure ?_;have hx1:(hp.push { cls:=.type "tuple",data:=.seq rest.toArray }).get? x=some ox:=Heap.get?_push_of_some _ hx;refine wpAny_bind (wpAny_setField hx1 hd (by omega) ?_)
 have fin:=h ((hp.push { cls:=.type "tuple",data:=.seq rest.toArray }).update x (Obj.mapFields (·.setIfInBounds 0 (.ref hp.objs.size)))) (.ref hp.objs.size) (fun b o hb e=>by
   rw[Heap.get?_update_other _ _ (Ne.symm hb)]
   exact Heap.get?_push_of_some _ e) (Heap.get?_update_self _ hx1 (Obj.isFreed_of_fields (Obj.data_mapFields hd _)))
 cases a0<;>(repeat wp_step)<;>exact fin
end
theorem qhE (self:Value) {l:List Value}:JS l=true->refuseLoop self "__setattr__" l=pure ():=by
 induction l with
 | nil=>intro e;cases e
 | cons x r ih =>
   intro e;rcases qah e with ⟨c,r',h,e'⟩|h
   · cases h;rw[refuseLoop_ref];exact ih e'
   · rw[h];exact PySem.F.store_ValueError.passes self
section
variable {prog:Program}{w:World}{A:Around}{E:Value->Shared->Prop}{s:Shared}{K:Frag}{C x:Addr}{ox:Obj}{name:Str}{v:Value}
theorem qlG {vs:Array Value}{Q:Unit->Shared->Prop} (X:K.In s.heap) (xi:xIn K C=true) (hx:s.heap.get? x=some ox) (hc:ox.cls=.ref C) (hd:ox.data=.fields vs) (hdn:ox.dict=none)
   (hs:findIn K (.ref C) "__setattr__"=some (some (.builtin "object.__setattr__"))) (ha:findIn K (.ref C) name=some none)
   (h:∀ h' dx,s.heap.objs.size≤dx->h'.get? x=some { ox with dict:=some dx }->h'.Ns1 dx (fun y=>if y=name then some v else none)->(∀ b o,b≠x->s.heap.get? b=some o->h'.get? b=some o) ->
     Q () { s with heap:=h',toks:=s.toks+2 }) :
   wpAny (model prog w) A (setAttr (.ref x) name v) Q E s:=by
 have SF:=PySem.F.store_object;obtain⟨cd,bm,hcd,hmro,hxt,hdict⟩:=xcd xi;have I:InstAt s.heap x ox C none:=⟨hx,hc,by unfold notCls;rw[hd],by rw[hdn];exact True.intro⟩
 refine PySem.W.set_plain X I hs ?_;have sub:Looks (model prog w) s.heap (isInstance (.ref x) (.type "object")) true:=I.type.andThen (looks_mroIn X (qmr xi (by decide +kernel)));refine codeAny_call_builtin SF.slot.plain SF.entry (@check_slot (model prog w) _ _ { s with toks:=s.toks+1 } "object.__setattr__" "object" "__setattr__" (.ref x) [.str name s.toks,v] [] _ SF.kind SF.split sub (SF.args (.ref x) (.str name s.toks) v) ?_);have hm:Looks (model prog w) s.heap (mroOf (.ref C)) cd.mro:=(looks_clsIn X hcd).andThen .now;rw[PySem.W.osa_eq,refuse_eq];refine wpAny_bind (wpAny_bind (I.type.here (s:={ s with toks:=s.toks+1 }) (wpAny_bind (hm.here (s:={ s with toks:=s.toks+1 }) ?_))));rw[hmro,refuseLoop_ref,qhE _ hxt];refine wpAny_pure (wpAny_bind (I.type.here (s:={ s with toks:=s.toks+1 }) (wpAny_bind ((looks_findIn X ha).here (s:={ s with toks:=s.toks+1 }) (wpAny_bind (wpAny_pure ?_))))));dsimp only;unfold PySem.Builtin.ObjectAttr.storeInOwnDict;refine wpAny_bind (wpAny_pure ?_);rw[if_neg (by simp)];refine wpAny_bind (wpAny_bind (wpAny_loadPart hx ?_));rw[hc];dsimp only;refine wpAny_bind ((looks_clsIn X hcd).here (s:={ s with toks:=s.toks+1 }) ?_);rw[hdict,hdn,if_neg (by decide)];dsimp only;rw[if_neg (by simp[typeHasDict]),hd];dsimp only;have hx1:(s.heap.push { cls:=.type "dict",data:=.dict #[] }).get? x=some ox:=Heap.get?_push_of_some _ hx;have hxs:x≠s.heap.objs.size:=Nat.ne_of_lt (Heap.lt_size hx);refine wpAny_bind (wpAny_alloc' ?_);refine wpAny_bind (wpAny_update' hx1 ?_);refine wpAny_pure (a:=some s.heap.objs.size) ?_;generalize hg:((s.heap.push { cls:=.type "dict",data:=.dict #[] }).update x fun o=>{ cls:=o.cls,dict:=some s.heap.objs.size,data:=o.data,slots:=o.slots })=g1
 have hgd:g1.get? s.heap.objs.size=some { cls:=.type "dict",data:=.dict #[] }:=by
   rw[← hg];exact(Heap.get?_update_ne _ _ _ _ hxs.symm).trans (Heap.get?_push_at rfl rfl)
 have hnd:g1.Ns s.heap.objs.size (fun _=>none):=⟨_,#[],_,hgd,rfl,fun e he=>absurd he (by simp),fun _=>rfl⟩
 have hgx:g1.get? x=some { ox with dict:=some s.heap.objs.size }:=by
   rw[← hg];refine Heap.get?_update_self _ hx1 ?_;have hfr:=(Heap.get?_some_iff.mp hx).2;obtain⟨oc,od,odt,osl⟩:=ox;cases odt<;>first|rfl|exact hfr
 have hgo:∀ b o,b≠x->s.heap.get? b=some o->g1.get? b=some o:=fun b o hb e=>by
   rw[← hg];exact(Heap.get?_update_ne _ _ _ _ hb).trans (Heap.get?_push_of_some _ e)
 show wpAny _ _ (PySem.Builtin.ObjectAttr.storeInDict s.heap.objs.size (.str name s.toks) name v) _ _ _;unfold PySem.Builtin.ObjectAttr.storeInDict PySem.Builtin.ObjectAttr.newKeyGuard;refine wpAny_bind (wpAny_pure (wpAny_bind (wpAny_nsSet1 (Heap.Ns1.of_empty hnd) fun h' hn' hs'=>?_)));obtain⟨oD,esD,epD,hoD,hdD,hcD⟩:=hn'.count (Within.cons name v Within.nil);refine wpAny_bind (wpAny_lookBehind hoD (by rw[hdD];exact pastItsLine_dict (Nat.le_trans hcD (by rw[List.length_cons,List.length_nil,sizeLine_eq];omega))) ?_);refine wpAny_pure (h h' s.heap.objs.size (Nat.le_refl _) ((hs'.2 x hxs).trans hgx) hn' fun b o hb e=>(hs'.2 b (Nat.ne_of_lt (Heap.lt_size e))).trans (hgo b o hb e))
end
section
variable {prog:Program}{w:World}{A:Around}{E:Value->Shared->Prop}{s:Shared}{K:Frag}{C x:Addr}{ox:Obj}{od:Option Obj}{name:Str}{v:Value}
theorem qjt {tk:Tok}{fill expr:Bool}{Q:Value->Shared->Prop} (X:K.In s.heap) (I:InstAt s.heap x ox C od) (xi:xIn K C=true)
   (hga:findIn K (.ref C) "__getattribute__"=some (some (.builtin "BaseException.__getattribute__"))) (hna:findIn K (.ref C) "__getattr__"=some none)
   (h:wpAny (model prog w) A.in1 (Builtin.«object.__getattribute__» ⟨[.ref x,.str name tk],[]⟩) (fun fin s'=>match fin with|.done (.ret v)=>wpAny (model prog w) A (handedOut v) Q E s'|_=>False) (fun _ _=>False) s) :
   wpAny (model prog w) A (getAttrBy (.ref x) (.str name tk) fill expr) Q E s:=by
 have hx2:(Value.builtin "BaseException.__getattribute__" == Value.builtin "object.__getattribute__")=false:=by decide +kernel
 unfold getAttrBy;refine wpAny_holding (wpAny_bind (I.type.here (wpAny_bind ((looks_findIn X hga).here ?_))));dsimp only;rw[hx2,Bool.and_false,if_neg (by decide)];unfold getAttrByItsOwn;refine wpAny_bind ((PySem.W.looks_hook X (r:=none) (by rw[if_pos (by rfl)];exact hna)).here (wpAny_bind (wpAny_attempt (wpAny_holding ?_))));unfold callGetattribute;rw[show (expr && onTheHeap (Value.builtin "BaseException.__getattribute__"))=false from by cases expr<;>rfl,if_neg (by decide)];unfold boundAndCalled;rw[PySem.F.excAttr_ValueError.ga.bind];refine wpAny_bind (wpAny_pure ?_);show wpAny _ _ (call (.builtin "BaseException.__getattribute__") [.ref x,.str name tk]) _ _ _;refine wpAny_call (codeAny_call_builtin PySem.F.excAttr_ValueError.ga.plain PySem.F.entry_bexc_ga ?_);refine @check_slot (model prog w) _ _ s "BaseException.__getattribute__" "BaseException" "__getattribute__" (.ref x) [.str name tk] [] _ (by decide +kernel) (by decide +kernel) (I.type.andThen (looks_mroIn X (qmr xi (by decide +kernel)))) (PySem.F.args_bexc_ga (.ref x) (.str name tk)) ?_;refine wpAny_mono h (fun fin s' z=>?_) fun _ _ z=>z.elim;rcases fin with (_|_|_|_)|_<;>first|exact z|exact z.elim
theorem qlI {expr:Bool}{Q:Value->Shared->Prop} (X:K.In s.heap) (I:InstAt s.heap x ox C od) (xi:xIn K C=true)
   (hga:findIn K (.ref C) "__getattribute__"=some (some (.builtin "BaseException.__getattribute__"))) (hna:findIn K (.ref C) "__getattr__"=some none)
   (hf:PySem.W.findObj K C od name=some (.value v)) (hh:PySem.W.handedIn v=true) (h:Q v { s with toks:=s.toks+1 }):wpAny (model prog w) A (getAttr (.ref x) name expr) Q E s:=by
 unfold getAttr;refine wpAny_bind (wpAny_mkText (qjt (s:={ s with toks:=s.toks+1 }) X I xi hga hna ?_));have L1:=PySem.W.looks_find (M:=model prog w) X I hf;unfold Builtin.«object.__getattribute__»;refine wpAny_bind (wpAny_pure (wpAny_bind (wpAny_pure (wpAny_bind (I.type.here (s:={ s with toks:=s.toks+1 }) (wpAny_bind (L1.here (s:={ s with toks:=s.toks+1 }) ?_)))))));refine wpAny_pure ?_;show wpAny _ _ (handedOut v) _ _ _;rw[PySem.W.handedOut_of hh];exact wpAny_pure h
end
structure XC (K:Frag) (C:Addr):Prop where
 xi:xIn K C=true
 ga:findIn K (.ref C) "__getattribute__"=some (some (.builtin "BaseException.__getattribute__"))
 na:findIn K (.ref C) "__getattr__"=some none
 sa:findIn K (.ref C) "__setattr__"=some (some (.builtin "object.__setattr__"))
 cl:findIn K (.ref C) "__class__"=some (some (.builtin "object.__class__"))
 gt:specialIn K (.builtin "object.__class__") "__get__"=some (some (.builtin "getset_descriptor.__get__"))
 tk:PySem.W.takesIn K (.builtin "object.__class__")=some true
section
variable {X:Cx}{pins:List (Addr×Obj)}{σ:St}{H:Hp}{s:Shared}{h':Heap}
theorem Inv.two {x a:Addr}{o1 o2:HO}{t':Nat} (I:Inv X pins σ H s) (mu:Mut (H x)) (hp:s.heap.objs.size≤a) (k:∀ b u,b≠x->s.heap.get? b=some u->h'.get? b=some u) (hx:∃ u,h'.get? x=some u)
   (n1:ObjOk X.prog X.w (upd (upd H x o1) a o2) h' x o1) (n2:ObjOk X.prog X.w (upd (upd H x o1) a o2) h' a o2):Inv X pins σ (upd (upd H x o1) a o2) { s with heap:=h',toks:=t' }:=by
 have ha:H a=none:=I.hok.fresh hp;have ne:∀ b,H b=none->b≠x:=fun b n z=>by subst z;rw[n]at mu;exact mu
 have nm:∀ b u,H b=some u->¬ Mut (some u)->b≠x:=fun b u q n z=>by subst z;rw[q]at mu;exact n mu
 have old:∀ b u,H b=some u->¬ Mut (some u)->upd (upd H x o1) a o2 b=some u:=fun b u q n=>by rw[qj (qi q ha),qj (nm b u q n)];exact q
 refine I.un ⟨fun b u e n _ _=>k b u (ne b n) e,fun b u e n _ _=>⟨u.slots,k b u (ne b n) e⟩,fun b u e n _=>?_,fun b u e _=>?_,fun b xs e=>old b _ e fun z=>z,fun b o u e=>old b _ e fun z=>z,fun b ps e=>⟨#[],by rw[old b _ e fun z=>z];simp⟩⟩ fun b u e=>?_
 · rw[qj (Nat.ne_of_lt (Nat.lt_of_lt_of_le (Heap.lt_size e) hp)),qj (ne b n)];exact n
 · by_cases z:b=x
   · subst z;exact hx
   · exact⟨u,k b u z e⟩
 · by_cases z:b=a
   · subst z;rw[qc]at e;cases e;exact n2
   · rw[qj z]at e;by_cases z2:b=x
     · subst z2;rw[qc]at e;cases e;exact n1
     · rw[qj z2]at e;refine(I.hok b u e).stay (fun c v hc q=>?_) (fun c q=>old c _ q fun z=>z) fun c xs q=>old c _ q fun z=>z;rcases hc with hc|hc
       · subst hc;exact k c v z2 q
       · exact k c v (nm c _ hc fun z=>z) q
end
section
variable {X:Cx}{o e value:Expr}{es:List Expr}{f x:Str}{p apos pos pos' tpos:Pos}{ta tv:TE}{t:TA}{C fa:Addr}
structure XMk (K:Frag) (C f:Addr):Prop where
 c:XC K C
 init:findIn K (.ref C) "__init__"=some (some (.ref f))
 fn:isFn K (.ref f)=true
 kp:keepIn K (.ref C)=true
def qkw (C:Addr) (sp:Sp) (t:TA):TE:=fun σ H Q=>t σ H fun vs H1=>vs.length≤10∧∀ ea,H1 ea=none ->
 sp (.ref ea::vs) (upd H1 ea (.ext (ExO ea C none .none))) (fun v H2=>v=.non∧Q (.ref ea) H2) E0
theorem qf9 {k:Nat}{fd:FuncData}{ps:List Str}{sp:Sp}{pins:List (Addr×Obj)}{σ:St}{H:Hp}{s:Shared}{Q:VK}{us:List Value}{vs:List V} (M:XMk X.K C fa) (F:qD X.prog X.w X.K X.mg X.base CX0 k fa fd ps sp)
   (hr:Room (k+1) X.A) (hb:Binds X.K fd ps []) (I:Inv X pins σ H s) (r:Vals vs us) (hl10:vs.length≤10)
   (h:∀ ea,H ea=none->sp (.ref ea::vs) (upd H ea (.ext (ExO ea C none .none))) (fun v H2=>v=.non∧Q (.ref ea) H2) E0) :
   wpAny (model X.prog X.w) X.A (call (.ref C) us) (EP X pins σ Q) X.xe s:=by
 have hq:=h (s.heap.objs.size+1) (I.hok.fresh (Nat.le_succ _));have hul:us.length≤sizeLine:=by rw[← r.length,sizeLine_eq];omega
 have kp:∀ b o,s.heap.get? b=some o->((s.heap.push { cls:=.type "tuple",data:=.seq us.toArray }).push (jj C s.heap.objs.size)).get? b=some o:=fun b o e=>Heap.get?_push_of_some _ (Heap.get?_push_of_some _ e);have hget:((s.heap.push { cls:=.type "tuple",data:=.seq us.toArray }).push (jj C s.heap.objs.size)).get? (s.heap.objs.size+1)=some (jj C s.heap.objs.size):=by heap_get
 have I2:Inv X pins σ (upd H (s.heap.objs.size+1) (.ext (ExO (s.heap.objs.size+1) C none .none))) { s with heap:=(s.heap.push { cls:=.type "tuple",data:=.seq us.toArray }).push (jj C s.heap.objs.size) } :=
   I.laid (t':=s.toks) kp (Nat.le_succ _) (qeV ⟨_,_,hget,rfl,rfl,rfl,rfl,rfl,rfl⟩)
 have r2:Vals (V.ref (s.heap.objs.size+1)::vs) (Value.ref (s.heap.objs.size+1)::us):=.cons rfl r
 have hl:(Value.ref (s.heap.objs.size+1)::us++[]).length=ps.length:=by
   have e:=r2.length;rw[F.len _ _ _ _ hq]at e;rw[List.append_nil];exact e.symm
 obtain⟨hp,g,d,tk,os⟩:=s
 refine qkq I.kIn M.c.xi M.init (beq_iff_eq.mp M.fn) (wpAny_call (codeAny_mono (F.run _ X.stack _ _ ⟨Value.ref (hp.objs.size+1)::us,[]⟩ (Value.ref (hp.objs.size+1)::us) _ _ E0 (hr.make C us [])
   (I2.env0.make C us []) (by have:=hb _ (Value.ref (hp.objs.size+1)::us) I2.kIn hl;rw[List.append_nil]at this;exact this) r2 hq) fun r s' hq'=>?_)) hul
 cases r with
 | error e=>exact False.elim hq'
 | ok fl =>
   cases fl with
   | ret u =>
     obtain⟨v,H',I3,rv,ev,q3⟩:=I2.after hq';subst ev;exact⟨rv,⟨V.ref (hp.objs.size+1),H',I3,rfl,q3⟩⟩
   | next=>exact False.elim hq'
   | brk=>exact False.elim hq'
   | cont=>exact False.elim hq'
theorem qh1 {k:Nat}{fd:FuncData}{ps:List Str}{sp:Sp} (M:XMk X.K C fa) (F:qD X.prog X.w X.K X.mg X.base CX0 k fa fd ps sp) (hr:Room (k+1) X.A) (hg:Gl X x) (hm:X.mg x=some (.ref C)) (hb:Binds X.K fd ps [])
   (ha:PA X (e::es) t) (hdb:(x == ("__debug__":Str))=false:=by decide) (he:starEach (e::es) X.env=(false,eval e X.env)::starEach es X.env:=by rfl) (hpl:(backTo pos (starEach es X.env)).any (·.1)=false:=by rfl) :
   PE X (.Call (.Name x p) (e::es) [] pos) (qkw C sp t):=by
 intro pins s σ H Q I h;refine wpAny_Call_Name_kw (Jg I hg hm ?_ hdb);refine callWith_K (h₀:=X.base) I.ok.mod.kin M.kp (thn (ha pos pins s σ H _ I h) fun us s1 ⟨vs,H1,I1,r,q⟩=>⟨I1.kIn,?_⟩) he hpl;exact qf9 M F hr hb I1 r q.1 q.2
inductive qec (K:Frag) (E:XK) (x:V) (H1:Hp):Prop
 | mk (ea C dx:_) (h1:x=.ref ea) (h2:xIn K C=true) (h3:H1 ea=some (.ext (ExO ea C dx .none))) (h4:Sure E C ea dx H1):qec K E x H1
def qkA (K:Frag) (E:XK) (te:TE):TS:=fun _ σ H=>te σ H fun x H1=>qec K E x H1
theorem qhX {E:XK}{te:TE} (th:Throws X E) (hc:X.calm=true) (he:PE X e te):PS X (.Raise (some e) none pos) (qkA X.K E te):=by
 intro pins s σ H D I h;rw[arm_exec_Raise];refine wpAny_bind (wpAny_standAt ?_);simp only[evalOpt,Option.map];refine qjs (I.ok.hd hc) (wpAny_bind (thn (he pins s σ H _ I h) fun u s1 ⟨x,H1,I1,rx,ea,C,dx,ex,xi,e1,sr⟩=>wpAny_bind (wpAny_standAt (wpAny_pure ?_))));subst ex;obtain rfl:u=Value.ref ea:=rx;obtain⟨⟨oe,vs,hx,hcl,hdx,hd,hz,h1,hx2⟩,_,_⟩:=(show ObjOk X.prog X.w H1 s1.heap ea (.ext (ExO ea C dx .none)) from I1.hok ea _ e1)
 exact⟨ea,C,oe,vs,X.K,rfl,I1.kIn,xi,hx,hcl,hd,h1,th pins σ H1 s1 ea C dx I1 ⟨.none,e1,.inl rfl⟩ sr⟩
inductive qeb (K:Frag) (Q:VK) (vs:List V) (H1:Hp):Prop
 | mk (ea C dx tb rest:_) (h1:vs=.ref ea::rest) (h2:rest.length≤10) (h3:H1 ea=some (.ext (ExO ea C dx tb))) (h4:xIn K C=true) (h5:Q .non H1):qeb K Q vs H1
def qky (K:Frag) (t:TA):TE:=fun σ H Q=>t σ H fun vs H1=>qeb K Q vs H1
theorem qhG {H:Hp}{a:Addr}{o:HO} (h:H a=some o):upd H a o=H:=by
 funext b;unfold upd;split
 · rename_i e;rw[e,h]
 · rfl
theorem qfB:findCls [] (.type "ValueError") (.type "type") "__init__"=some (.val (.builtin "ValueError.__init__")):=by kernel_rfl
theorem qh2 {pl:Sem Bool} (hg:Gl X x) (hm:X.mg x=none) (hv:bootBuiltins x=some (.type "ValueError")) (ha:PA X (e::es) t) (hn:x≠"__name__":=by decide) (hdb:(x == ("__debug__":Str))=false:=by decide)
   (hst:starEach (e::es) X.env=(false,eval e X.env)::starEach es X.env:=by rfl) (hpl:(backTo pos (starEach es X.env)).any (·.1)=false:=by rfl)
   (ht:eval (.Call (.Attribute (.Name x p) "__init__" apos) (e::es) [] pos) X.env=(do
     let ov ← eval (.Name x p) X.env
     standAt apos.atName
     let (f,first) ← holding [ov] (getMethod ov "__init__" pl)
     callWith pos f first (backTo pos (starEach (e::es) X.env)) (backToKw pos (keywordEach [] X.env))):=by rfl) :
   PE X (.Call (.Attribute (.Name x p) "__init__" apos) (e::es) [] pos) (qky X.K t):=by
 intro pins s σ H Q I h;refine methodCall_KW (pl:=pl) (JQ I hg hm hv ?_ hn hdb) ht;obtain⟨m,F⟩:=I.fr;refine PySem.W.method_type (v:=.builtin "ValueError.__init__") F I.mod.kin (by kernel_rfl) (by decide +kernel) qfB rfl ?_;have I0:=I.tok (s.toks+1);refine PyProof.Rows.callWith_builtin1 (thn (ha pos pins _ σ H _ I0 h) fun us s1 zz_=>?_) hst hpl;obtain⟨vs,H1,I1,r,ea,C,dx,tb,rest,ev,hl,e1,xi,q⟩:=zz_;subst ev
 obtain⟨u0,us0,rfl,r0,r1⟩:∃ u0 us0,us=u0::us0∧RelV (.ref ea) u0∧Vals rest us0:=by
   cases r with
   | cons a b=>exact⟨_,_,rfl,a,b⟩
 obtain rfl:u0=Value.ref ea:=r0;obtain⟨⟨oe,vs,hx,hcl,hdx,hd,hz,h1,hx2⟩,_,_⟩:=(show ObjOk X.prog X.w H1 s1.heap ea (.ext (ExO ea C dx tb)) from I1.hok ea _ e1)
 refine qju I1.kIn xi hx hcl hd hz (by rw[← r1.length,sizeLine_eq];omega) fun h' tp k1 k2=>⟨.non,H1,?_,rfl,q⟩
 have J:Inv X pins σ (upd H1 ea (.ext (ExO ea C dx tb))) { s1 with heap:=h',toks:=s1.toks }:=by
   refine I1.write (x:=ea) (e:=ea) (by rw[e1];exact True.intro) (.inl rfl) k1 ⟨_,k2⟩ (qeV ⟨_,_,k2,(Obj.cls_mapFields _ _).trans hcl,?_,Obj.data_mapFields hd _,by simp[hz],?_,?_⟩)
   · rw[← hdx];obtain⟨oc,od,odt,osl⟩:=oe;have hd':odt=.fields vs:=hd;subst hd';rfl
   · rw[Array.getElem?_setIfInBounds_ne (by decide)];exact h1
   · rw[Array.getElem?_setIfInBounds_ne (by decide)];exact hx2
 rw[qhG e1]at J;exact J
structure qhy (K:Frag) (C f:Addr):Prop where
 sp:specialIn K (.ref C) "__getattribute__"=some (some (.builtin "type.__getattribute__"))
 rd:PySem.W.readsIn K C (.type "type")=true
 at_:findCls K (.ref C) (.type "type") "__init__"=some (.val (.ref f))
 kp:keepIn K (.ref f)=true
theorem QZ {k:Nat}{fd:FuncData}{ps:List Str}{sp:Sp}{pl:Sem Bool} (c:qhy X.K C fa) (F:qD X.prog X.w X.K X.mg X.base CX0 k fa fd ps sp) (hr:Room k X.A) (hb:Binds X.K fd ps []) (hg:Gl X x) (hm:X.mg x=some (.ref C))
   (ha:PA X (e::es) t) (hdb:(x == ("__debug__":Str))=false:=by decide)
   (hst:starEach (e::es) X.env=(false,eval e X.env)::starEach es X.env:=by rfl) (hpl:(backTo pos (starEach es X.env)).any (·.1)=false:=by rfl)
   (ht:eval (.Call (.Attribute (.Name x p) "__init__" apos) (e::es) [] pos) X.env=(do
     let ov ← eval (.Name x p) X.env
     standAt apos.atName
     let (f,first) ← holding [ov] (getMethod ov "__init__" pl)
     callWith pos f first (backTo pos (starEach (e::es) X.env)) (backToKw pos (keywordEach [] X.env))):=by rfl) :
   PE X (.Call (.Attribute (.Name x p) "__init__" apos) (e::es) [] pos) (qkG sp [] E0 t):=by
 intro pins s σ H Q I h;refine methodCall_KW (pl:=pl) (Jg I hg hm ?_ hdb) ht;refine PySem.W.method_cls I.kIn c.sp (PySem.W.cls_value I.kIn c.rd c.at_ rfl ?_);have I0:=I.tok (s.toks+1);refine callWith_K (h₀:=X.base) I.ok.mod.kin c.kp (thn (ha pos pins _ σ H _ I0 h) fun us s1 ⟨vs,H1,I1,r,q⟩=>⟨I1.kIn,?_⟩) hst hpl;exact qev F hr hb .nil qq I1 r q
def qlX (K:Frag) (ta tv:TE) (f:Str):TS:=fun D σ H=>tv σ H fun y H1=>ta σ H1 fun x H2=>∃ ea C tb,x=.ref ea∧H2 ea=some (.ext (ExO ea C none tb))∧XC K C∧NoAttr K C f ∧
 ∀ dx,H2 dx=none->dx≠ea->D.nx σ (upd (upd H2 ea (.ext (ExO ea C (some dx) tb))) dx (.xd [(f,y)]))
theorem qjN (ha:PE X o ta) (hv:PE X value tv) (hs:swapsWith value (some (.Attribute o f pos')) pos.line X.env=pure false):PS X (.Assign [.Attribute o f pos'] value pos) (qlX X.K ta tv f):=by
 intro pins s σ H D I h;refine plainObj_wpAny_Assign_Attribute (thn (hv pins s σ H _ I h) fun u s1 ⟨y,H1,I1,ry,q⟩=>thn (ha pins s1 σ H1 _ I1 q) fun ov s2 zz_=>?_) hs;obtain⟨x,H2,I2,rx,ea,C,tb,ex,e1,c,n,q2⟩:=zz_;subst ex;obtain rfl:ov=Value.ref ea:=rx;obtain⟨⟨oe,vs,hx,hcl,hdx,hd,hz,h1,hx2⟩,_,_⟩:=(show ObjOk X.prog X.w H2 s2.heap ea (.ext (ExO ea C none tb)) from I2.hok ea _ e1)
 refine qlG I2.kIn c.xi hx hcl hd hdx c.sa n fun h' dx hp k1 k2 k3=>⟨σ,_,?_,q2 dx (I2.hok.fresh hp) (Nat.ne_of_gt (Nat.lt_of_lt_of_le (Heap.lt_size hx) hp))⟩
 refine I2.two (by rw[e1];exact True.intro) hp k3 ⟨_,k1⟩ (qeV ⟨_,_,k1,hcl,rfl,hd,hz,h1,hx2⟩) ⟨_,k2,fun g=>?_⟩;by_cases z:g=f
 · subst z;simp[List.lookup];exact ry
 · have:(g == f)=false:=by simp[z]
   simp[List.lookup,this,z];exact True.intro
inductive qfJ (K:Frag) (f:Str) (Q:VK) (x:V) (H1:Hp):Prop
 | mk (ea C dx fs v:_) (h1:x=.ref ea) (h2:XAt H1 ea C (some dx)) (h3:H1 dx=some (.xd fs)) (h4:XC K C) (h5:NoAttr K C f) (h6:fs.lookup f=some v) (h7:Q v H1):qfJ K f Q x H1
def qkx (K:Frag) (ta:TE) (f:Str):TE:=fun σ H Q=>ta σ H fun x H1=>qfJ K f Q x H1
theorem qkr {pins:List (Addr×Obj)}{σ:St}{H:Hp}{s:Shared}{ea C dx:Addr}{fs:List (Str×V)} (I:Inv X pins σ H s) (x:XAt H ea C (some dx)) (hd:H dx=some (.xd fs)) :
   ∃ (ox od:Obj) (mA:Str->Option Value),InstAt s.heap ea ox C (some od)∧(∀ name,PySem.W.lookIn name od=some (mA name))∧∀ f,RelO (fs.lookup f) (mA f):=by
 obtain⟨tb,e1,_⟩:=x;obtain⟨⟨oe,vs,hx,hcl,hdx,hdt,hz,h1,hx2⟩,_,_⟩:=(show ObjOk X.prog X.w H s.heap ea (.ext (ExO ea C (some dx) tb)) from I.hok ea _ e1)
 obtain⟨mA,n,r⟩:=(show ObjOk X.prog X.w H s.heap dx (.xd fs) from I.hok dx _ hd)
 obtain⟨od,ho,hl⟩:=qdl n;exact⟨oe,od,mA,⟨hx,hcl,by unfold notCls;rw[hdt],by rw[hdx];exact ho⟩,hl,r⟩
theorem qjU (he:PE X e ta) (hb:attributeBase e f X.env (eval e X.env)=eval e X.env):PE X (.Attribute e f pos) (qkx X.K ta f):=by
 intro pins s σ H Q I h;refine qhs hb (thn (he pins s σ H _ I h) fun u s1 zz_=>?_);obtain⟨x,H1,I1,rx,ea,C,dx,fs,v,ex,xa,hd,c,n,l,q⟩:=zz_;subst ex;obtain rfl:u=Value.ref ea:=rx;obtain⟨ox,od,mA,J,hl,r⟩:=qkr I1 xa hd;obtain⟨uv,hu,ru⟩:=RelO.some_of (v:=v) (o:=mA f) (by rw[← l];exact r f)
 have hh:hasDictIn X.K C=true:=by
   obtain⟨cd,bm,hcd,_,_,hdict⟩:=xcd c.xi;unfold hasDictIn;rw[hcd];exact hdict
 exact qlI I1.kIn J c.xi c.ga c.na (PySem.W.findObj_own hh n rfl (by rw[hl,hu])) (qdu ru) ⟨v,H1,I1.tok _,ru,q⟩
def qks (K:Frag) (C:Addr):V->Option Bool
 | .ref D=>if (clsIn K D).isSome && typeIn K (.ref D) == some (.type "type") then subIn K (.ref C) (.ref D) else none
 | .ty T=>if T == "ValueError" then some true else none
 | _=>none
end
abbrev qiw (X:Cx):Cx:={ X with xe:=fun _ _=>False }
abbrev qii (X:Cx) (ea:Addr):Cx:={ X with A:=X.A.mark (some (.ref ea)),calm:=false,xe:=fun _ _=>False }
section
variable {X:Cx}{pins:List (Addr×Obj)}{σ:St}{H:Hp}{s:Shared}
theorem Inv.dead (I:Inv X pins σ H s):Inv (qiw X) pins σ H s:=by
 obtain⟨⟨a1,a2,a3,a4,a5,a6,a7,a8,a9,a10,a11,a12,a13,a14,a15,a16,a17,a18⟩,b1,b2,b3,b4,b5,b6,b7,b8,b9,b10⟩:=I;exact⟨⟨a1,a2,a3,a4,a5,a6,a7,a8,a9,a10,a11,a12,a13,a14,a15,a16,a17,a18⟩,b1,b2,b3,b4,b5,b6,b7,b8,b9,b10⟩
theorem Inv.live (I:Inv (qiw X) pins σ H s):Inv X pins σ H s:=by
 obtain⟨⟨a1,a2,a3,a4,a5,a6,a7,a8,a9,a10,a11,a12,a13,a14,a15,a16,a17,a18⟩,b1,b2,b3,b4,b5,b6,b7,b8,b9,b10⟩:=I;exact⟨⟨a1,a2,a3,a4,a5,a6,a7,a8,a9,a10,a11,a12,a13,a14,a15,a16,a17,a18⟩,b1,b2,b3,b4,b5,b6,b7,b8,b9,b10⟩
theorem Inv.mark (I:Inv X pins σ H s) (ea:Addr):Inv (qii X ea) pins σ H s:=by
 obtain⟨⟨a1,a2,a3,a4,a5,a6,a7,a8,a9,a10,a11,a12,a13,a14,a15,a16,a17,a18⟩,b1,b2,b3,b4,b5,b6,b7,b8,b9,b10⟩:=I;exact⟨⟨a1,a2,a3,a4,a5,a6,a7,a8,fun z=>(nomatch z),a10,a11,a12,a13,a14,a15,a16,a17,a18⟩,b1,b2,b3,b4,b5,b6,b7,b8,b9,b10⟩
theorem Inv.unmark {ea:Addr}{A0:Prop} (k:X.Ok) (I:Inv (qii X ea) pins σ H s):Inv X pins σ H s:=by
 obtain⟨_,b1,b2,b3,b4,b5,b6,b7,b8,b9,b10⟩:=I;exact⟨k,b1,b2,b3,b4,b5,b6,b7,b8,b9,b10⟩
theorem Inv.lose {h':Heap}{m':Str->Option Value}{t':Nat} (I:Inv X pins σ H s) (hn:h'.Ns X.env.locals m') (hs:Heap.SameBut X.env.locals s.heap h'):Inv X pins (List.replicate X.N.length none) H { s with heap:=h',toks:=t' }:=by
 have neL:∀ b o,X.s₀.heap.get? b=some o->b≠X.env.locals:=fun b o e=>Nat.ne_of_lt (Nat.lt_of_lt_of_le (Heap.lt_size e) I.ok.above);have up:∀ b o,b≠X.env.locals->s.heap.get? b=some o->h'.get? b=some o:=fun b o hb e=>(hs.2 b hb).trans e
 refine⟨I.ok,I.os,I.bare,⟨fun b o e n hb hx=>up b o (neL b o e) (I.base.keep b o e n hb hx),fun b o e n hb hx=>?_,I.base.free,fun b o e hx=>?_,I.base.tups,I.base.frzs,I.base.tbls⟩,
   ⟨m',hn,fun i x v _ e2 _=>?_⟩,fun x c e=>?_,I.free,I.freeC,fun p hp=>?_,fun b u e=>?_,by simp⟩
 · obtain⟨sl,q⟩:=I.base.slot b o e n hb hx;exact⟨sl,up b _ (neL b o e) q⟩
 · obtain⟨o',q⟩:=I.base.there b o e hx;exact⟨o',up b _ (neL b o e) q⟩
 · rw[List.getElem?_replicate]at e2;split at e2<;>cases e2
 · obtain⟨v,o,ho,hd⟩:=I.cell x c e;exact⟨v,o,up c o (I.cne x c e) ho,hd⟩
 · obtain⟨e,n,ne,nf,d⟩:=I.pin p hp;exact⟨up p.1 p.2 ne e,n,ne,nf,d⟩
 · refine(I.hok b u e).stay (fun c v hc q=>up c v (fun z=>?_) q) (fun _ q=>q) fun _ _ q=>q;rcases hc with hc|hc
   · rw[← hc,z,I.free]at e;cases e
   · rw[z,I.free]at hc;cases hc
end
section
variable {M:Model}{A:Around}{E:Value->Shared->Prop}{s:Shared}
theorem qfA {K:Frag}{C L x:Addr}{ox:Obj}{Q:Bool->Shared->Prop} (X:K.In s.heap) (xc:xIn K C=true) (xl:xIn K L=true) (hm:mroIn K C (.ref L)=some true) (hx:s.heap.get? x=some ox) (hc:ox.cls=.ref C)
   (h:Q true s):wpAny M A (excMatches (.ref x) (.ref L)) Q E s:=by
 obtain⟨hp,g,d,tk,os⟩:=s;obtain⟨nm,qn,N,bs,bm,sn,sub,ab,col,dd,k0,k1,k2,k3,k5,hC,hxt⟩:=qlz X xl;have hcB:(Value.ref L::bm).contains (.type "BaseException")=true:=by rw[List.contains_cons,Qg (v:=true) (by decide +kernel) hxt,Bool.or_true]
 have f:=tc_notTuple;have LL:=looks_mroIn (M:=M) X hm;unfold excMatches
 repeat (first
   | (with_reducible refine wpAny_loadPart_at hx ?_;rw[hc])
   | with_reducible refine wpAny_loadPart_at hC ?_
   | (with_reducible refine wpAny_isSubtype_exc hC ?_;rw[hcB])
   | (with_reducible refine LL.at ?_)
   | wp_step)
 exact h
end
abbrev XTE:=St->Hp->VK->XK->Prop
abbrev XTS:=qfx->XK->St->Hp->Prop
def qmo (X:Cx) (pins:List (Addr×Obj)) (σ:St) (E:XK) (Ex:Value->Shared->Prop):Prop :=
 ∀ (ea C:Addr) (dx:Option Addr) (H':Hp) (s':Shared),Inv X pins σ H' s'->XAt H' ea C dx->Sure E C ea dx H'->Ex (.ref ea) s'
def PEX (X:Cx) (e:Expr) (t:XTE):Prop :=
 ∀ (pins:List (Addr×Obj)) (s:Shared) (σ:St) (H:Hp) (Q:VK) (E:XK) (Ex:Value->Shared->Prop),Inv X pins σ H s->t σ H Q E->qmo X pins σ E Ex->wpAny (model X.prog X.w) X.A (eval e X.env) (EP X pins σ Q) Ex s
def PX (X:Cx) (st:List Stmt) (t:XTS):Prop :=
 ∀ (pins:List (Addr×Obj)) (s:Shared) (σ:St) (H:Hp) (D:qfx) (E:XK) (Ex:Value->Shared->Prop),Inv X pins σ H s->t D E σ H->qmo X pins σ E Ex->wpAny (model X.prog X.w) X.A (execs st X.env) (SP X pins D) Ex s
section
variable {X:Cx}{e o c:Expr}{es:List Expr}{a b:List Stmt}{x m:Str}{p pos apos:Pos}{ta:TE}{t:TA}{tc:TT}{f C:Addr}{fd:FuncData}{ps:List Str}{sp:Sp}{k:Nat}
theorem qa7 {α:Type}{u:Sem α}{Q:α->Shared->Prop}{M:Model}{A:Around}{Ex:Value->Shared->Prop}{s:Shared} (h:wpAny M A u Q (fun _ _=>False) s):wpAny M A u Q Ex s:=wpAny_mono h (fun _ _ z=>z) fun _ _ z=>z.elim
theorem qjH {pins:List (Addr×Obj)}{σ:St}{H:Hp}{s:Shared}{Q:VK}{E:XK}{Ex:Value->Shared->Prop}{us:List Value}{vs:List V} (F:qD X.prog X.w X.K X.mg X.base (CX1 X.prog X.w) k f fd ps sp) (hr:Room k X.A) (hb:Binds X.K fd ps [])
   (I:Inv X pins σ H s) (r:Vals vs us) (h:sp vs H Q E) (w:qmo X pins σ E Ex):wpAny (model X.prog X.w) X.A (call (.ref f) us) (EP X pins σ Q) Ex s:=by
 have hl:(us++[]).length=ps.length:=by rw[List.append_nil,← r.length];exact F.len _ _ _ _ h
 have hbb:=hb s us I.kIn hl;rw[List.append_nil]at hbb;refine wpAny_call (codeAny_mono (F.run X.A X.stack s H ⟨us,[]⟩ us vs Q E hr I.env0 hbb r h) fun r s' hq=>?_)
 cases r with
 | error e =>
   obtain⟨ea,C,dx,H',e1,os,bare,un,hok,x,q⟩:=hq;subst e1;exact w ea C dx H' s' (I.call' os un hok bare fun b z=>absurd z (by simp)) x q
 | ok fl =>
   cases fl with
   | ret u=>exact I.after hq
   | next=>exact False.elim hq
   | brk=>exact False.elim hq
   | cont=>exact False.elim hq
def qlJ (C:Addr) (m:Str) (sp:Sp) (ta:TE) (t:TA):XTE:=fun σ H Q E=>ta σ H fun x H1=>∃ a dx fs,x=.ref a∧H1 a=some (.ins C dx fs)∧fs.lookup m=none∧t σ H1 fun vs H2=>sp (x::vs) H2 Q E
theorem qh0 {pl:Sem Bool} (he:PE (qiw X) o ta) (c:Cls X.K C) (hm:qhw X.K C m f) (F:qD X.prog X.w X.K X.mg X.base (CX1 X.prog X.w) k f fd ps sp) (hr:Room k X.A) (hb:Binds X.K fd ps []) (ha:PA (qiw X) (e::es) t)
   (hst:starEach (e::es) X.env=(false,eval e X.env)::starEach es X.env:=by rfl) (hpl:(backTo pos (starEach es X.env)).any (·.1)=false:=by rfl)
   (ht:eval (.Call (.Attribute o m apos) (e::es) [] pos) X.env=(do
     let ov ← eval o X.env
     standAt apos.atName
     let (f,first) ← holding [ov] (getMethod ov m pl)
     callWith pos f first (backTo pos (starEach (e::es) X.env)) (backToKw pos (keywordEach [] X.env))):=by rfl) :
   PEX X (.Call (.Attribute o m apos) (e::es) [] pos) (qlJ C m sp ta t):=by
 intro pins s σ H Q E Ex I h w;refine methodCall_KW (pl:=pl) (thn (qa7 (he pins s σ H _ I.dead h)) fun u s1 zz_=>?_) ht;obtain⟨x,H1,I1,rx,a,dx,fs,ex,ea,l,q⟩:=zz_;subst ex;obtain rfl:u=Value.ref a:=rx;refine Jj I1.live ea c hm l ?_;refine callWith_K (first:=[.ref a]) (h₀:=X.base) I.ok.mod.kin hm.kp (thn (qa7 (ha pos pins s1 σ H1 _ I1 q)) fun us s2 ⟨vs,H2,I2,r,q2⟩=>⟨I2.kIn,?_⟩) hst hpl;exact qjH (us:=.ref a::us) (vs:=.ref a::vs) F hr hb I2.live (.cons rfl r) q2 w
def qlK (te:XTE):XTS:=fun D E σ H=>te σ H (fun _ H1=>D.nx σ H1) E
theorem qjM {te:XTE} (he:PEX X e te) (hs:swapsWith e none pos.line X.env=pure false:=by rfl):PX X [.Expr e pos] (qlK te):=by
 intro pins s σ H D E Ex I h w;refine wpAny_execs_cons (wpAny_Expr_any (thn (he pins s σ H _ E Ex I h w) fun v s1 zz_=>?_) I.quiet hs);obtain⟨x,H1,I1,r1,q1⟩:=zz_;exact wpAny_execs_nil (show SP X pins D .next s1 from ⟨σ,H1,I1,q1⟩)
end
def qj4 (v:Value):Bool:=match v with
 | .type s=>s == "type"
 | _=>false
def qj5 (v:Option Value):Bool:=match v with
 | some (.builtin s)=>s == "ValueError.__new__"
 | _=>false
def ql4 (C:Addr) (l:List Value):Bool:=match l with
 | .ref C1::bm=>C1 == C && JS bm
 | _=>false
def xOb (C:Addr) (o:Obj):Bool:=match o.data with
 | .cls cd=>qj4 o.cls && ql4 C cd.mro && !cd.hasDel && cd.hasDict && o.slots.size == 6 && qj5 (o.slots.getD 4 none)
 | _=>false
theorem qil {v:Value} (h:qj4 v=true):v=.type "type":=by
 cases v with
 | type s=>rw[eq_of_beq (show (s == "type")=true from h)]
 | _=>cases h
theorem qim {v:Option Value} (h:qj5 v=true):v=some (.builtin "ValueError.__new__"):=by
 cases v with
 | none=>cases h
 | some v =>
   cases v with
   | builtin s=>rw[eq_of_beq (show (s == "ValueError.__new__")=true from h)]
   | _=>cases h
theorem qj2 {C:Addr}{l:List Value} (h:ql4 C l=true):∃ bm,l=.ref C::bm∧JS bm=true:=by
 cases l with
 | nil=>cases h
 | cons v bm =>
   cases v with
   | ref C1 =>
     have h':(C1 == C && JS bm)=true:=h;rw[Bool.and_eq_true]at h';exact⟨bm,by rw[eq_of_beq h'.1],h'.2⟩
   | _=>cases h
theorem six {α:Type}{l:List α} (h:l.length=6):∃ a b c d e f,l=[a,b,c,d,e,f]:=by
 obtain⟨a,l,rfl⟩:=List.exists_cons_of_length_eq_add_one h;obtain⟨b,l,rfl⟩:=List.exists_cons_of_length_eq_add_one (Nat.succ.inj h);obtain⟨c,l,rfl⟩:=List.exists_cons_of_length_eq_add_one (Nat.succ.inj (Nat.succ.inj h));obtain⟨d,l,rfl⟩:=List.exists_cons_of_length_eq_add_one (Nat.succ.inj (Nat.succ.inj (Nat.succ.inj h)));obtain⟨e,l,rfl⟩:=List.exists_cons_of_length_eq_add_one (Nat.succ.inj (Nat.succ.inj (Nat.succ.inj (Nat.succ.inj h))));obtain⟨f,l,rfl⟩:=List.exists_cons_of_length_eq_add_one (Nat.succ.inj (Nat.succ.inj (Nat.succ.inj (Nat.succ.inj (Nat.succ.inj h)))))
 have:l=[]:=List.eq_nil_of_length_eq_zero (Nat.succ.inj (Nat.succ.inj (Nat.succ.inj (Nat.succ.inj (Nat.succ.inj (Nat.succ.inj h))))))
 subst this;exact⟨a,b,c,d,e,f,rfl⟩
theorem xIn_of {K:Frag}{C:Addr}{o:Obj} (h:K.lookup C=some o) (q:xOb C o=true):xIn K C=true:=by
 obtain⟨oc,dd,od,⟨sl⟩⟩:=o
 cases od with
 | cls cd =>
   have q':(qj4 oc && ql4 C cd.mro && !cd.hasDel && cd.hasDict && sl.length == 6 && qj5 ((Array.mk sl).getD 4 none))=true:=q;simp only[Bool.and_eq_true,beq_iff_eq,Bool.not_eq_true']at q';obtain⟨⟨⟨⟨⟨q0,q1⟩,q2⟩,q3⟩,q4⟩,q5⟩:=q';obtain⟨bm,hm,hx⟩:=qj2 q1;obtain⟨k0,k1,k2,k3,k4,k5,rfl⟩:=six q4;have e4:k4=some (.builtin "ValueError.__new__"):=qim q5;have e0:=qil q0;obtain⟨nm,bs,mro,ns,qn,hdc,sn,sub,ab,col,del⟩:=cd;dsimp only at hm q2 q3;subst hm q2 q3 e4 e0;exact xIn_iff.mpr ⟨nm,qn,ns,bs,bm,sn,sub,ab,col,dd,k0,k1,k2,k3,k5,h,hx⟩
 | _=>cases q
theorem xIsa_of {K:Frag}{C D:Addr}{b:Bool} (h1:isClsIn K D=true) (h2:typeIn K (.ref D)=some (.type "type")) (h3:subIn K (.ref C) (.ref D)=some b):qks K C (.ref D)=some b:=by
 unfold qks;have h1':(clsIn K D).isSome=true:=h1;simp only[h1',h2,Bool.true_and,beq_self_eq_true,if_true];exact h3
theorem qmk {P:Program}{w:World}{X:Cx}:j4 (CX1 P w) X E0:=fun _ _ _ _ _ _ _ ⟨_,_,_,H',_,_,_,_,_,x,q⟩=>(q H' (fun _ _ _ e=>e) x).elim
def Rz (C:Addr) (f:Str) (v:V) (H:Hp) (E:XK):Prop:=∀ (ea dx:Addr) (H':Hp),Same H H'->H ea=none->H dx=none->H' dx=some (.xd [(f,v)])->XAt H' ea C (some dx)->E (.ref C) (some ea) H'
theorem Rz.same {C:Addr}{f:Str}{v:V}{H G:Hp}{E:XK} (h:Rz C f v H E) (s:Same H G):Rz C f v G E:=fun ea dx H' s' n1 n2 e x=>h ea dx H' (s.trans s') (s.none n1) (s.none n2) e x
theorem Rz.sure {C:Addr}{f:Str}{v:V}{H:Hp}{E:XK} (h:Rz C f v H E) {ea dx:Addr}{tb:Value} (n1:H ea=none) (n2:H dx=none) (ne:dx≠ea) :
   Sure E C ea (some dx) (upd (upd (upd H ea (.ext (ExO ea C none .none))) ea (.ext (ExO ea C (some dx) tb))) dx (.xd [(f,v)])):=by
 intro H' k x;refine h ea dx H' (fun b o e=>k b o (qi e n1) ?_) n1 n2 (k dx _ ne qc) x;rw[qj (qi e n2),qj (qi e n1),qj (qi e n1)];exact e
section
variable {P:Program}{w:World}{K:Frag}{mg:Str->Option Value}{base:Heap}
theorem Fun.okX {x qual:Str}{st:Stmt}{f:Addr}{fd:FuncData}{N ps:List Str}{k:Nat}{sp:Sp} (F:Fun K x qual st f fd) (S:qo N ps (qg st)) (len:∀ vs H Q E,sp vs H Q E->vs.length=ps.length)
   (hbody:∀ (cdv:Value) (A:Around) (outer:List Env) (s:Shared) (H:Hp) (vs:List V) (Q:VK) (E:XK),Room k (A.deeper (envOfC qual (qg st) s.heap.objs.size f cdv))->sp vs H Q E ->
     ∃ t,PSs (zb (CX1 P w) P w K mg base N qual (qg st) f cdv A outer s H E) (zT st) t∧t { nx:=fun _ H'=>Q .non H',rt:=Q } (j6 N vs) H):qD P w K mg base (CX1 P w) (k+1) f fd ps sp:=by
 obtain⟨oc,od,kV,doc,pm,an,cdv,ct,osl,rfl,lk,hcd⟩:=F.ex;exact qlm lk hcd S len fun A outer s H vs Q E hr hsp=>hbody cdv A outer s H vs Q E hr hsp
end
theorem CompOk.defX {CX:CXT}{P:Program}{w:World}{K:Frag}{mg:Str->Option Value}{base:Heap}{N0:List Str}{qual:Str}{sc0:Scope}{f:Addr}{cd:Value}{A:Around}{outer:List Env}{s:Shared}{H:Hp}{E:XK}{scope:Scope}
   (N:List Str) (js:List (Option Nat)) (hk0:sc0.kind=.function:=by rfl) (hk:scope.kind=.function:=by rfl) (hcell:∀ y∈scope.names,y.2≠.cell:=by decide +kernel) (hnames:∀ y∈scope.names,y.2=.local->scope.names.lookup y.1=some .local:=by decide +kernel)
   (hfr0:∀ y∈scope.names,y.2=.free->sc0.names.lookup y.1=some .cell:=by decide +kernel) (len:js.length=N.length:=by rfl) (hfr:qj7 scope N0 N js=true:=by decide +kernel) :
   CompOk (zb CX P w K mg base N0 qual sc0 f cd A outer s H E) scope N (z9 (zb CX P w K mg base N0 qual sc0 f cd A outer s H E).env.cells scope.names []) js :=
 CompOk.of hk hcell hnames hk0 (fun y hy z=>⟨hfr0 y hy z,Option.isSome_iff_exists.mp (PySem.W.cellsFrom_some _ _ _ (.inl (hfr0 y hy z)))⟩) len (qeT hfr)
theorem qj8 {K:Frag}{t:Bool}{a b:Addr}{xs ys:List V}{g:TG}{tb:TS}{D:qfx}{σ:St}{H:Hp} (Pv:Nat->St->Hp->Prop) (he:xs.length=ys.length) (h0:Pv 0 σ H) (hl:∀ i σ H,i≤xs.length->Pv i σ H->SqK K t H a xs∧SqK K t H b ys)
   (hs:∀ i x y σ H p,xs[i]?=some x->ys[i]?=some y->Pv i σ H->H p=none->g (.ref p) σ (upd H p (.tup [x,y])) fun σ2 H2=>tb { D with nx:=Pv (i+1),ct:=Pv (i+1),bk:=D.nx } σ2 H2) (hd:∀ σ H,Pv xs.length σ H->D.nx σ H) :
   ∃ W:Nat->Nat->St->Hp->Prop,(∃ m,W 0 m σ H)∧∀ i m σ H,W i m σ H ->
     ((Itz K t a b).stop i H∧D.nx σ H)∨((Itz K t a b).go i H∧∃ N:St->Hp->Prop,(∀ σ' H',N σ' H'->∃ m',m' < m∧W (i+1) m' σ' H')∧∀ x H',(Itz K t a b).yld i H x H'->g x σ H' fun σ2 H2=>tb { D with nx:=N,ct:=N,bk:=D.nx } σ2 H2):=by
 refine⟨fun i m σ H=>m=xs.length - i∧i≤xs.length∧Pv i σ H,⟨xs.length,by simp,Nat.zero_le _,h0⟩,?_⟩;rintro i m σ H ⟨rfl,hi,p⟩;obtain⟨q1,q2⟩:=hl i σ H hi p;by_cases hlt:i < xs.length
 · have hlt2:i < ys.length:=by omega
   refine .inr ⟨⟨xs,ys,xs[i],ys[i],q1,q2,by simp[hlt],by simp[hlt2]⟩,Pv (i+1),fun σ' H' p'=>⟨xs.length - (i+1),by omega,rfl,hlt,p'⟩,fun x H' y=>?_⟩;obtain⟨c,u,v,hn,rfl,z,rfl⟩:=y;obtain⟨z1,z2⟩:=z xs ys q1 q2;exact hs i u v σ _ c z1 z2 p hn
 · have e:i=xs.length:=by omega
   subst e;exact .inl ⟨⟨xs,ys,q1,q2,.inl (Nat.le_refl _)⟩,hd σ H p⟩
theorem qlF {K:Frag}{C:Addr} (q:xIn K C=true):mroIn K C (.ref C)=some true:=by
 obtain⟨cd,bm,h1,h2,_,_⟩:=xcd q;unfold mroIn;rw[h1,Option.bind_some,h2,if_neg (by simp)];simp
theorem qeY (zs:List V) (n:Nat) (k:Int) (hk:k=(n:Int)):qfz zs none (some k)=zs.take n:=by
 subst hk;unfold qfz;rw[HT.sIx_none,HT.sIx_nat,Nat.sub_zero,List.drop_zero];by_cases h:n≤zs.length
 · rw[Nat.min_eq_left h]
 · rw[Nat.min_eq_right (by omega),List.take_of_length_le (Nat.le_refl _),List.take_of_length_le (by omega)]
theorem qjZ {h:Heap}{a:Addr}{m m':Str->Option Value} (x:h.Ns a m) (y:h.Ns a m'):m=m':=by
 obtain⟨o,es,ep,ho,hd,_,f⟩:=x;obtain⟨o',es',ep',ho',hd',_,f'⟩:=y;rw[ho]at ho';cases ho';rw[hd]at hd';cases hd';exact funext fun n=>(f n).symm.trans (f' n)
section
variable {X:Cx}{pins:List (Addr×Obj)}{σ:List (Option V)}{H:Hp}{s:Shared}{pos:Pos}
theorem Inv.gone {h':Heap}{m:Str->Option Value}{n:Str}{i:Nat}{v:Option Value}{t':Nat} (I:Inv X pins σ H s) (hN:X.N.Nodup) (hi:X.N[i]?=some n) (hm:s.heap.Ns X.env.locals m)
   (hn:h'.Ns X.env.locals (fun x=>if x=n then v else m x)) (hs:Heap.SameBut X.env.locals s.heap h'):Inv X pins (σ.set i none) H { s with heap:=h',toks:=t' }:=by
 have J:=I.lose (t':=t') hn hs;refine⟨J.ok,J.os,J.bare,J.base,?_,J.cell,J.free,J.freeC,J.pin,J.hok,by rw[List.length_set];exact I.len⟩;obtain⟨m0,hm0,hl⟩:=I.loc;rw[qjZ hm0 hm]at hl;refine⟨_,hn,fun j x w e1 e2 e3=>?_⟩
 have ne:i≠j:=fun z=>by
   subst z;by_cases lt:i < σ.length
   · rw[List.getElem?_set_self lt]at e2;cases e2
   · rw[List.getElem?_eq_none (by rw[List.length_set];omega)]at e2;cases e2
 rw[List.getElem?_set_ne ne]at e2;have nx:x≠n:=fun z=>ne (qcu hN hi (z▸e1));obtain⟨u,r,l⟩:=hl j x w e1 e2 e3;refine⟨u,r,?_⟩;rcases l with l|⟨k,c,e,ob,ho,hd⟩
 · refine .inl ⟨l.1,?_⟩;show (if x=n then v else m x)=some u;rw[if_neg nx];exact l.2
 · exact .inr ⟨k,c,e,ob,(hs.2 c (I.cne x c e)).trans ho,hd⟩
def qlM (K:Frag) (LC:Addr) (i:Nat) (tb:XTS) (th:TS):TS:=fun D σ H=>tb D (fun Cv eo H'=>∃ C ea,Cv=.ref C∧eo=some ea∧xIn K C=true∧mroIn K C (.ref LC)=some true ∧
 th { nx:=fun σ' H2=>D.nx (σ'.set i none) H2,rt:=D.rt } (σ.set i (some (.ref ea))) H') σ H
theorem qjO {body suite:List Stmt}{b₀:Stmt}{lx n:Str}{np hpos:Pos}{i:Nat}{LC:Addr}{tb:XTS}{th:TS} (hst:X.stack=X.env::X.outer) (hfr:X.env.frame=some X.env.locals)
   (hb:PX X body tb) (hg:Gl X lx) (hm:X.mg lx=some (.ref LC)) (xl:xIn X.K LC=true) (hN:X.N.Nodup) (hi:X.N[i]?=some n) (hx:Loc X.env.scope n) (hloc:X.env.kindOf n=some .local)
   (hh:∀ ea,PSs (qii X ea) (b₀::suite) th) (hdb:(lx == ("__debug__":Str))=false:=by decide) (hf:X.fn n=true∨X.env.scope.names.lookup n=some .local:=by first|exact .inl rfl|exact .inr rfl) :
   PS X (.Try body [.ExceptHandler (some (.Name lx np)) (some n) (b₀::suite) hpos] [] [] pos) (qlM X.K LC i tb th):=by
 intro pins s σ H D I h;refine wpAny_Try_except ?_;refine wpAny_mono (hb pins s σ H D _ (fun e s₁=>wpAny (model X.prog X.w) X.A (noteFrame e X.env) (fun _ s₂=>wpAny (model X.prog X.w) X.A (setFlight e none) (fun _ s₃=>wpAny (model X.prog X.w) X.A (handleBy e X.env [.ExceptHandler (some (.Name lx np)) (some n) (b₀::suite) hpos]) (SP X pins D) X.xe s₃) X.xe s₂) X.xe s₁) I h ?_)
   (fun f s1 q=>?_) fun e s1 q=>q
 · intro ea C dx H' s' J xa sr;refine qgK J hst hfr J.ok.frames xa fun s2 T hT hne J2=>?_;obtain⟨C1,ea1,e1,e2,xc,hmr,q⟩:=sr _ (fun b o hb e=>qaR hT hb e) (qgM hT hne);cases e1;cases e2;have tb1:Zk H' ea C dx T ea=some (.ext (ExO ea C dx (.ref T))):=by unfold Zk;rw[qj (Ne.symm hne),qc]
   have tb2:Zk H' ea C dx T T=some (.ext (TbO T)):=by unfold Zk;rw[qc]
   obtain⟨⟨oe,vs,hx1,hcl,hdx,hd,hz,h1,hx2⟩,_,_⟩:=(show ObjOk X.prog X.w _ s2.heap ea (.ext (ExO ea C dx (.ref T))) from J2.hok ea _ tb1)
   obtain⟨⟨oT,ts,hT1,hTd,hT3⟩,_,_⟩:=(show ObjOk X.prog X.w _ s2.heap T (.ext (TbO T)) from J2.hok T _ tb2)
   have JM:=J2.mark ea;refine wpAny_handleBy_cons (codeAny_handlers_test (Jg (X:=qii X ea) JM hg hm ?_ hdb)) (by intro z;cases z);refine qfA J2.kIn xc xl hmr hx1 hcl ?_;refine codeAny_handlers_suite_as ?_;unfold setFlight;refine wpAny_bind (wpAny_field hx1 hd h1 ?_);rw[if_pos (show (Value.ref T != Value.none)=true from by simp)];refine wpAny_setField hT1 hTd (Array.getElem?_eq_some_iff.mp hT3).1 ?_;rw[show s2.heap.update T (Obj.mapFields (·.setIfInBounds 3 ((none:Option Addr).elim Value.none fun f=>rawInt f)))=s2.heap from Heap.update_setField_same s2.heap T oT ts 3 Value.none hT1 hTd hT3];refine jt (v:=.ref ea) J2 hN hi hx rfl (fun s3 J3=>?_) hf;refine wpAny_mono (hh ea pins s3 _ _ _ (J3.mark ea) q) (fun fl s4 q4=>?_) fun _ _ z=>z.elim
   cases fl with
   | next =>
     obtain⟨σ',H4,J4,z⟩:=q4;have J5:=Inv.unmark (A0:=True) J2.ok J4;obtain⟨m,hn,_⟩:=id J5.loc;refine wpAny_nameGoes_keeps hloc hn (by rw[J2.ok.kind];rfl) fun h' v hn' hs'=>?_;exact⟨_,H4,J5.gone hN hi hn hn' hs',z⟩
   | brk=>obtain⟨_,_,_,z⟩:=q4;exact z.elim
   | cont=>obtain⟨_,_,_,z⟩:=q4;exact z.elim
   | ret u =>
     obtain⟨v,σ',H4,J4,rv,z⟩:=q4;have J5:=Inv.unmark (A0:=True) J2.ok J4;obtain⟨m,hn,_⟩:=J5.loc;refine wpAny_nameGoes hloc hn (by rw[J2.ok.kind];rfl) fun h' m' hn' hs'=>?_;exact⟨v,_,H4,J5.lose hn' hs',rv,z⟩
 · cases f with
   | next=>exact wpAny_execs_nil q
   | ret v=>exact q
   | brk=>exact q
   | cont=>exact q
end
def qmq (i j:Int):Prop:=0 < j∧j < 340282366920938463463374607431768211456
theorem qh5 {X:Cx}:OpR X (binaryOp .FloorDiv) (rI qmq fun i j=>.int (i / j)):=opI fun i j _ _ _ _ _ hc q=>by
 have h1:(0:Int) < j:=hc.1;have h2:j < 340282366920938463463374607431768211456:=hc.2;have h3:j.natAbs < 2 ^ 128:=by omega
 have h4:j.natAbs.log2 < 128:=(Nat.log2_lt (by omega)).mpr h3;exact floordiv_int (by omega) (by rw[Int.fdiv_eq_ediv_of_nonneg i (by omega)];exact q) (.inl (PyProof.noPylong_of_log2 (by omega)))
def qlZ:Value->Option Addr
 | .ref a=>some a
 | _=>none
theorem qgb (D:Addr):∀ l:List Value,l.contains (.ref D)=(l.map qlZ).contains (some D)
 | []=>rfl
 | v::l=>by
   rw[List.map_cons,List.contains_cons,List.contains_cons,qgb D l];congr 1
   cases v with
   | ref c =>
     show (Value.ref D == Value.ref c)=(some D == some c);by_cases e:D=c
     · subst e;simp
     · rw[beq_eq_false_iff_ne.mpr (fun z=>e (Value.ref.inj z)),beq_eq_false_iff_ne.mpr (fun z=>e (Option.some.inj z))]
   | _=>rfl
def XMro (K:Frag) (C:Addr) (l:List (Option Addr)):Prop:=∃ cd,clsIn K C=some cd∧cd.mro.map qlZ=l
def qla (l:List (Option Addr)) (o:Obj):Bool:=match o.data with
 | .cls cd=>cd.mro.map qlZ == l
 | _=>false
theorem XMro.of {K:Frag}{C:Addr}{o:Obj}{l:List (Option Addr)} (h:K.lookup C=some o) (q:qla l o=true):XMro K C l:=by
 obtain⟨oc,od,odt,osl⟩:=o;unfold qla at q
 cases odt with
 | cls cd =>
   refine⟨cd,?_,eq_of_beq q⟩;unfold clsIn;rw[h]
 | _=>cases q
def qhC (K:Frag) (D:Addr):Prop:=isClsIn K D=true∧typeIn K (.ref D)=some (.type "type")
theorem qhF {K:Frag}{C D:Addr}{l:List (Option Addr)} (m:XMro K C l) (hl:l≠[]) (d:qhC K D):qks K C (.ref D)=some (l.contains (some D)):=by
 obtain⟨cd,h1,h2⟩:=m;refine xIsa_of d.1 d.2 ?_;show mroIn K C (.ref D)=_;unfold mroIn;rw[h1,Option.bind_some,if_neg,qgb,h2];intro z;rw[List.isEmpty_iff]at z;rw[z]at h2;exact hl h2.symm
end L2
namespace Srt
open PySem PySem.W PyProof.Rows
def RunP {α:Type} (lt:Nat->Nat->Bool) (n:Nat):KasT α->(α->Prop)->Prop
 | .ret a,P=>P a
 | .ask i j k,P=>i < n∧j < n∧RunP lt n (k (lt i j)) P
section
variable {lt:Nat->Nat->Bool}{n:Nat}
theorem RunP.bind {α β:Type}{f:α->KasT β}{P:β->Prop}:∀ {t:KasT α},RunP lt n t (fun a=>RunP lt n (f a) P)->RunP lt n (t.bind f) P
 | .ret _,h=>h
 | .ask i j k,h=>⟨h.1,h.2.1,RunP.bind (t:=k (lt i j)) h.2.2⟩
theorem RunP.mono {α:Type}{P P':α->Prop} (hp:∀ a,P a->P' a):∀ {t:KasT α},RunP lt n t P->RunP lt n t P'
 | .ret _,h=>hp _ h
 | .ask i j k,h=>⟨h.1,h.2.1,RunP.mono hp (t:=k (lt i j)) h.2.2⟩
theorem RunP.wp {α:Type}{cmp:Nat->Nat->(Bool->Shared->Prop)->Shared->Prop}{Q:α->Shared->Prop}{P:α->Prop}{s:Shared} (hc:∀ i j (C:Bool->Shared->Prop),i < n->j < n->C (lt i j) s->cmp i j C s) (hq:∀ a,P a->Q a s):∀ {t:KasT α},RunP lt n t P->t.kasWp cmp Q s
 | .ret _,h=>hq _ h
 | .ask i j k,h=>hc i j _ h.1 h.2.1 (RunP.wp hc hq (t:=k (lt i j)) h.2.2)
theorem RunP.ite {α:Type}{c:Prop} [Decidable c] {t u:KasT α}{P:α->Prop} (h1:c->RunP lt n t P) (h2:¬ c->RunP lt n u P):RunP lt n (if c then t else u) P:=by
 by_cases h:c
 · rw[if_pos h];exact h1 h
 · rw[if_neg h];exact h2 h
def Bd (n:Nat) (p:Array Nat):Prop:=∀ x,p.getD x 0 < n
theorem qa2 {p q:Array Nat}{x y:Nat} (h:p[x]?=q[y]?):p.getD x 0=q.getD y 0:=by
 simp only[Array.getD_eq_getD_getElem?,h]
theorem qbO {p:Array Nat}{i j:Nat} (hj:j≤p.size) (x:Nat):(kas_rev p i j).getD x 0=if i≤x∧x < j then p.getD (i+j - 1 - x) 0 else p.getD x 0:=by
 have h:=getElem?_mirror_all (xs:=p) (i:=i) hj x;by_cases c:i≤x∧x < j
 · rw[if_pos c]at h ⊢;exact qa2 h
 · rw[if_neg c]at h ⊢;exact qa2 h
theorem Bd.rev {p:Array Nat}{i j:Nat} (h:Bd n p) (hj:j≤p.size):Bd n (kas_rev p i j):=fun x=>by
 rw[qbO hj];split<;>exact h _
theorem qhk {p:Array Nat}{k d:Nat} (hk:k < p.size) (hd:d≤k) (x:Nat):(bubble p k d).getD x 0=if x=k - d then p.getD k 0 else if k - d < x∧x≤k then p.getD (x - 1) 0 else p.getD x 0:=by
 have h:=getElem?_bubble (xs:=p) hk d hd x;by_cases c:x=k - d
 · rw[if_pos c]at h ⊢;exact qa2 h
 · rw[if_neg c]at h ⊢;by_cases c2:k - d < x∧x≤k
   · rw[if_pos c2]at h ⊢;exact qa2 h
   · rw[if_neg c2]at h ⊢;exact qa2 h
theorem Bd.bub {p:Array Nat}{k d:Nat} (h:Bd n p) (hk:k < p.size) (hd:d≤k):Bd n (bubble p k d):=fun x=>by
 rw[qhk hk hd];by_cases c:x=k - d
 · rw[if_pos c];exact h _
 · rw[if_neg c];by_cases c2:k - d < x∧x≤k
   · rw[if_pos c2];exact h _
   · rw[if_neg c2];exact h _
structure Ord (lt:Nat->Nat->Bool):Prop where
 tr:∀ a b c,lt b a=false->lt c b=false->lt c a=false
 asy:∀ a b,lt a b=true->lt b a=false
theorem Ord.irr (O:Ord lt) (a:Nat):lt a a=false:=by
 cases h:lt a a with
 | false=>rfl
 | true=>rw[← h];exact O.asy _ _ h
def Up (lt:Nat->Nat->Bool) (p:Array Nat) (k:Nat):Prop:=∀ x,x+1 < k->lt (p.getD (x+1) 0) (p.getD x 0)=false
def Dn (lt:Nat->Nat->Bool) (p:Array Nat) (k:Nat):Prop:=∀ x,x+1 < k->lt (p.getD x 0) (p.getD (x+1) 0)=false
def Eqv (lt:Nat->Nat->Bool) (a b:Nat):Prop:=lt a b=false∧lt b a=false
theorem Eqv.not (O:Ord lt) {a a' b b':Nat} (h1:Eqv lt a a') (h2:Eqv lt b b') (h:lt a b=false):lt a' b'=false:=O.tr _ _ _ (O.tr _ _ _ h2.1 h) h1.2
theorem Up.le (O:Ord lt) {p:Array Nat}{k:Nat} (h:Up lt p k) {x:Nat}:∀ d,x+d < k->lt (p.getD (x+d) 0) (p.getD x 0)=false
 | 0,_=>O.irr _
 | d+1,hd=>O.tr _ _ _ (Up.le O h d (by omega)) (h (x+d) (by omega))
theorem qht (p:Array Nat) (hb:Bd n p):∀ (f m:Nat),1≤m->Up lt p m->RunP lt n (kas_asc p f m) fun r=>m≤r∧r≤m+f∧Up lt p r∧(r < m+f->lt (p.getD r 0) (p.getD (r - 1) 0)=true)
 | 0,m,_,hu=>⟨Nat.le_refl _,Nat.le_refl _,hu,fun h=>absurd h (by omega)⟩
 | f+1,m,h1,hu=>by
   refine⟨hb _,hb _,RunP.ite (fun c=>?_) (fun c=>?_)⟩
   · exact⟨Nat.le_refl _,by omega,hu,fun _=>c⟩
   · have c:lt (p.getD m 0) (p.getD (m - 1) 0)=false:=by simpa using c
     refine RunP.mono (fun r h=>?_) (qht p hb f (m+1) (by omega) (fun x hx=>?_))
     · exact⟨by omega,by omega,h.2.2.1,fun z=>h.2.2.2 (by omega)⟩
     · by_cases e:x+1=m
       · have e1:x=m - 1:=by omega
         rw[e1,show m - 1+1=m by omega];exact c
       · exact hu x (by omega)
def Blk (lt:Nat->Nat->Bool) (p:Array Nat) (m q:Nat):Prop:=q+1≤m∧∀ x,m - (q+1)≤x->x < m->Eqv lt (p.getD x 0) (p.getD (m - 1) 0)
theorem Blk.rev (O:Ord lt) {p:Array Nat}{m q:Nat} (hm:m≤p.size) (h:Blk lt p m q) (x:Nat) (hx:x < m):Eqv lt (p.getD x 0) ((kas_rev p (m - (q+1)) m).getD x 0):=by
 rw[qbO hm];by_cases c:m - (q+1)≤x∧x < m
 · rw[if_pos c];have h1:=h.2 x c.1 c.2;have hq:=h.1;have h2:=h.2 (m - (q+1)+m - 1 - x) (by omega) (by omega);exact⟨O.tr _ _ _ h2.2 h1.1,O.tr _ _ _ h1.2 h2.1⟩
 · rw[if_neg c];exact⟨O.irr _,O.irr _⟩
theorem Dn.eqv (O:Ord lt) {p p':Array Nat}{m:Nat} (h:Dn lt p m) (e:∀ x,x < m->Eqv lt (p.getD x 0) (p'.getD x 0)):Dn lt p' m:=fun x hx=>(e x (by omega)).not O (e (x+1) hx) (h x hx)
theorem qcC (O:Ord lt):∀ (f:Nat) (p:Array Nat) (m q:Nat),Bd n p->1≤m->m+f≤p.size->Dn lt p m->Blk lt p m q->RunP lt n (kas_desc f p m q) fun r =>
   Bd n r.1∧r.1.Perm p∧r.1.size=p.size∧m≤r.2.1∧r.2.1≤m+f∧Dn lt r.1 r.2.1∧Blk lt r.1 r.2.1 r.2.2
 | 0,p,m,q,hb,h1,hs,hd,bl=>⟨hb,Array.Perm.refl _,rfl,Nat.le_refl _,Nat.le_refl _,hd,bl⟩
 | f+1,p,m,q,hb,h1,hs,hd,bl=>by
   have one:∀ p':Array Nat,p'.getD m 0=p'.getD (m+1 - 1) 0:=fun p'=>rfl;refine⟨hb _,hb _,RunP.ite (fun c=>RunP.ite (fun hq=>?_) (fun hq=>?_)) (fun c=>⟨hb _,hb _,RunP.ite (fun d=>?_) (fun d=>?_)⟩)⟩
   · have hm:m≤p.size:=by omega
     have ev:=bl.rev O hm;have sz:(kas_rev p (m - (q+1)) m).size=p.size:=kas_rev_size _ _;have out:(kas_rev p (m - (q+1)) m).getD m 0=p.getD m 0:=by rw[qbO hm,if_neg (by omega)]
     refine RunP.mono (fun r h=>?_) (qcC O f (kas_rev p (m - (q+1)) m) (m+1) 0 (hb.rev hm) (by omega) (by omega) (fun x hx=>?_) ⟨by omega,fun x h0 h2=>?_⟩)
     · exact⟨h.1,h.2.1.trans (mirror_perm _ _ _ _),by rw[h.2.2.1,sz],by omega,by omega,h.2.2.2.2.2.1,h.2.2.2.2.2.2⟩
     · by_cases e:x+1=m
       · have e1:x=m - 1:=by omega
         subst e1;rw[show m - 1+1=m by omega,out];exact(ev (m - 1) (by omega)).not O ⟨O.irr _,O.irr _⟩ (O.asy _ _ c)
       · exact hd.eqv O ev x (by omega)
     · have e:x=m:=by omega
       subst e;exact⟨O.irr _,O.irr _⟩
   · refine RunP.mono (fun r h=>?_) (qcC O f p (m+1) 0 hb (by omega) (by omega) (fun x hx=>?_) ⟨by omega,fun x h0 h2=>?_⟩)
     · exact⟨h.1,h.2.1,h.2.2.1,by omega,by omega,h.2.2.2.2.2.1,h.2.2.2.2.2.2⟩
     · by_cases e:x+1=m
       · have e1:x=m - 1:=by omega
         subst e1;rw[show m - 1+1=m by omega];exact O.asy _ _ c
       · exact hd x (by omega)
     · have e:x=m:=by omega
       subst e;exact⟨O.irr _,O.irr _⟩
   · exact⟨hb,Array.Perm.refl _,rfl,Nat.le_refl _,(by show m≤m+(f+1);omega),hd,bl⟩
   · have c:lt (p.getD m 0) (p.getD (m - 1) 0)=false:=by simpa using c
     have d:lt (p.getD (m - 1) 0) (p.getD m 0)=false:=by simpa using d
     refine RunP.mono (fun r h=>?_) (qcC O f p (m+1) (q+1) hb (by omega) (by omega) (fun x hx=>?_) ⟨by have:=bl.1;omega,fun x h0 h2=>?_⟩)
     · exact⟨h.1,h.2.1,h.2.2.1,by omega,by omega,h.2.2.2.2.2.1,h.2.2.2.2.2.2⟩
     · by_cases e:x+1=m
       · have e1:x=m - 1:=by omega
         subst e1;rw[show m - 1+1=m by omega];exact d
       · exact hd x (by omega)
     · show Eqv lt (p.getD x 0) (p.getD m 0);by_cases e:x=m
       · rw[e];exact⟨O.irr _,O.irr _⟩
       · have:=bl.2 x (by omega) (by omega)
         exact⟨O.tr _ _ _ d this.1,O.tr _ _ _ this.2 c⟩
theorem Dn.rev {p:Array Nat}{m:Nat} (h:Dn lt p m) (hm:m≤p.size):Up lt (kas_rev p 0 m) m:=fun x hx=>by
 rw[qbO hm,qbO hm,if_pos ⟨Nat.zero_le _,by omega⟩,if_pos ⟨Nat.zero_le _,by omega⟩]
 have:=h (m - 2 - x) (by omega)
 rw[show m - 2 - x+1=0+m - 1 - x by omega]at this;rw[show 0+m - 1 - (x+1)=m - 2 - x by omega];exact this
def Cnt (lt:Nat->Nat->Bool) (n N:Nat) (p:Array Nat) (r:Nat×Array Nat):Prop:=Bd n r.2∧r.2.Perm p∧r.2.size=p.size∧1≤r.1∧r.1≤N∧Up lt r.2 r.1
theorem qea {N m:Nat}{p:Array Nat} (hb:Bd n p) (h1:1≤m) (hm:m≤N) (hs:N≤p.size) (hd:Dn lt p m):RunP lt n (kas_tail3 m N p) (Cnt lt n N p):=by
 unfold kas_tail3;refine RunP.bind (RunP.mono (fun r h=>?_) (qht (kas_rev p 0 m) (hb.rev (by omega)) (N - m) m h1 (hd.rev (by omega))));exact⟨hb.rev (by omega),mirror_perm _ _ _ _,kas_rev_size _ _,by omega,by omega,h.2.2.1⟩
theorem qa3 (O:Ord lt) {N m:Nat}{p:Array Nat} (hb:Bd n p) (h1:1≤m) (hm:m < N) (hs:N≤p.size) (hd:Dn lt p (m+1)):RunP lt n (kas_descPart m N p) (Cnt lt n N p):=by
 unfold kas_descPart
 refine RunP.bind (RunP.mono (fun r h=>?_) (qcC O (N - (m+1)) p (m+1) 0 hb (by omega) (by omega) hd ⟨by omega,fun x h0 h2=>by
   have e:x=m:=by omega
   subst e
   exact⟨O.irr _,O.irr _⟩⟩))
 obtain⟨g1,g2,g3,g4,g5,g6,g7⟩:=h;refine RunP.ite (fun hq=>?_) (fun hq=>?_)
 · have hm2:r.2.1≤r.1.size:=by omega
   refine RunP.mono (fun z hz=>?_) (qea (g1.rev hm2) (by omega) (by omega) (by rw[kas_rev_size];omega) (g6.eqv O (g7.rev O hm2)));exact⟨hz.1,(hz.2.1.trans (mirror_perm _ _ _ _)).trans g2,by rw[hz.2.2.1,kas_rev_size,g3],hz.2.2.2⟩
 · refine RunP.mono (fun z hz=>?_) (qea g1 (by omega) (by omega) (by omega) g6);exact⟨hz.1,hz.2.1.trans g2,by rw[hz.2.2.1,g3],hz.2.2.2⟩
theorem qiy (O:Ord lt) {N:Nat}{p:Array Nat} (hb:Bd n p) (h2:1≤N) (hs:N≤p.size):RunP lt n (kas_count N p) (Cnt lt n N p):=by
 unfold kas_count;refine RunP.bind (RunP.mono (fun m h=>?_) (qht p hb (N - 1) 1 (Nat.le_refl _) (fun x hx=>by omega)));obtain⟨m1,mN,up,stop⟩:=h;refine RunP.ite (fun c=>?_) (fun c=>?_)
 · exact⟨hb,Array.Perm.refl _,rfl,m1,by omega,up⟩
 · have c:m≠N:=by simpa using c
   have st:=stop (by omega);refine RunP.ite (fun g=>⟨hb _,hb _,RunP.ite (fun e=>?_) (fun e=>?_)⟩) (fun g=>?_)
   · exact⟨hb,Array.Perm.refl _,rfl,m1,by omega,up⟩
   · have e:lt (p.getD 0 0) (p.getD (m - 1) 0)=false:=by simpa using e
     -- all of the first m are alike
     have alike:∀ x,x < m->Eqv lt (p.getD x 0) (p.getD (m - 1) 0):=fun x hx=>by
       have a1:=up.le O (x:=x) (m - 1 - x) (by omega);rw[show x+(m - 1 - x)=m - 1 by omega]at a1;have a2:=up.le O (x:=0) x (by omega);rw[Nat.zero_add]at a2;exact⟨O.tr _ _ _ e a2,a1⟩
     have hmp:m≤p.size:=by omega
     have blk:Blk lt p m (m - 1):=⟨by omega,fun x _ hx=>alike x hx⟩
     have ev:=blk.rev O hmp;rw[show m - (m - 1+1)=0 by omega]at ev;have dn0:Dn lt p m:=fun x hx=>O.tr _ _ _ (alike (x+1) hx).2 (alike x (by omega)).1
     have dn:Dn lt (kas_rev p 0 m) (m+1):=fun x hx=>by
       by_cases e1:x+1=m
       · have e2:x=m - 1:=by omega
         subst e2;have out:(kas_rev p 0 m).getD (m - 1+1) 0=p.getD m 0:=by rw[qbO hmp,if_neg (by omega),show m - 1+1=m by omega]
         rw[out];exact(ev (m - 1) (by omega)).not O ⟨O.irr _,O.irr _⟩ (O.asy _ _ st)
       · exact dn0.eqv O ev x (by omega)
     refine RunP.mono (fun z hz=>?_) (qa3 O (hb.rev hmp) m1 (by omega) (by rw[kas_rev_size];exact hs) dn);exact⟨hz.1,hz.2.1.trans (mirror_perm _ _ _ _),by rw[hz.2.2.1,kas_rev_size],hz.2.2.2⟩
   · have e1:m=1:=by omega
     subst e1
     exact qa3 O hb (Nat.le_refl _) (by omega) hs (fun x hx=>by
       have:x=0:=by omega
       subst this
       exact O.asy _ _ st)
theorem qci (O:Ord lt) {p:Array Nat}{k:Nat} (hb:Bd n p) (up:Up lt p k):∀ (f l r:Nat),l≤r->r≤k->r - l≤f->(∀ x,x < l->lt (p.getD k 0) (p.getD x 0)=false)->(∀ x,r≤x->x < k->lt (p.getD k 0) (p.getD x 0)=true) ->
   RunP lt n (kas_place p k f l r) fun m=>m≤k∧(∀ x,x < m->lt (p.getD k 0) (p.getD x 0)=false)∧∀ x,m≤x->x < k->lt (p.getD k 0) (p.getD x 0)=true
 | 0,l,r,h1,h2,h3,a,b=>⟨by omega,a,fun x hx=>b x (by omega)⟩
 | f+1,l,r,h1,h2,h3,a,b=>by
   refine RunP.ite (fun c=>?_) (fun c=>⟨hb _,hb _,RunP.ite (fun d=>?_) (fun d=>?_)⟩)
   · exact⟨by omega,a,fun x hx=>b x (by omega)⟩
   · refine qci O hb up f l ((l+r) / 2) (by omega) (by omega) (by omega) a fun x hx hk=>?_
     cases hz:lt (p.getD k 0) (p.getD x 0) with
     | true=>rfl
     | false =>
       have q:=up.le O (x:=(l+r) / 2) (x - (l+r) / 2) (by omega);rw[show (l+r) / 2+(x - (l+r) / 2)=x by omega]at q
       have:=O.tr _ _ _ q hz
       rw[d]at this;cases this
   · have d:lt (p.getD k 0) (p.getD ((l+r) / 2) 0)=false:=by simpa using d
     refine qci O hb up f ((l+r) / 2+1) r (by omega) h2 (by omega) (fun x hx=>?_) b;have q:=up.le O (x:=x) ((l+r) / 2 - x) (by omega);rw[show x+((l+r) / 2 - x)=(l+r) / 2 by omega]at q;exact O.tr _ _ _ q d
theorem qjj (O:Ord lt):∀ (f:Nat) (p:Array Nat) (k:Nat),Bd n p->k+f≤p.size->Up lt p k->RunP lt n (kas_bin f p k) fun r=>r.Perm p∧Up lt r (k+f)
 | 0,p,k,hb,hs,up=>⟨Array.Perm.refl _,up⟩
 | f+1,p,k,hb,hs,up=>by
   refine RunP.bind (RunP.mono (fun l h=>?_) (qci O hb up k 0 k (Nat.zero_le _) (Nat.le_refl _) (by omega) (fun x hx=>absurd hx (by omega)) (fun x h1 h2=>absurd h1 (by omega))));obtain⟨lk,lo,hi⟩:=h;have hk:k < p.size:=by omega
   refine RunP.mono (fun r h=>⟨h.1.trans (bubble_perm _ _ _),by rw[show k+(f+1)=k+1+f by omega];exact h.2⟩) (qjj O f (bubble p k (k - l)) (k+1) (hb.bub hk (by omega)) (by rw[bubble_size];omega) (fun x hx=>?_));have e:k - (k - l)=l:=by omega
   rw[qhk hk (by omega),qhk hk (by omega),e];by_cases c1:x+1=l
   · rw[if_pos c1,if_neg (by omega),if_neg (by omega)];exact lo x (by omega)
   · rw[if_neg c1];by_cases c2:x=l
     · rw[if_pos c2,if_pos ⟨by omega,by omega⟩,show x+1 - 1=x by omega];exact O.asy _ _ (hi x (by omega) (by omega))
     · rw[if_neg c2];by_cases c3:l < x
       · rw[if_pos ⟨by omega,by omega⟩,if_pos ⟨c3,by omega⟩]
         have:=up (x - 1) (by omega)
         rw[show x - 1+1=x by omega]at this;rw[show x+1 - 1=x by omega];exact this
       · rw[if_neg (by omega),if_neg (by omega)];exact up x (by omega)
theorem sort_ok (O:Ord lt) (h:1≤n):RunP lt n (kas_sort n) fun r=>r.Perm (List.toArray (List.range n))∧Up lt r n:=by
 have hb:Bd n (List.toArray (List.range n)):=fun x=>by
   simp only[Array.getD_eq_getD_getElem?,List.getElem?_toArray];by_cases hx:x < n
   · rw[List.getElem?_range hx];exact hx
   · rw[List.getElem?_eq_none (by simp;omega)];exact h
 have sz:(List.toArray (List.range n)).size=n:=by simp
 unfold kas_sort;refine RunP.bind (RunP.mono (fun r hr=>?_) (qiy O hb h (by omega)));obtain⟨g1,g2,g3,g4,g5,g6⟩:=hr;refine RunP.ite (fun c=>?_) (fun c=>?_)
 · have e:max r.1 1=r.1:=by omega
   rw[e];refine RunP.mono (fun z hz=>⟨hz.1.trans g2,?_⟩) (qjj O (n - r.1) r.2 r.1 g1 (by omega) g6)
   have:=hz.2
   rw[show r.1+(n - r.1)=n by omega]at this;exact this
 · have e:r.1=n:=by omega
   rw[e]at g6;exact⟨g2,g6⟩
end
end Srt
namespace L2
open PySem PySem.Spec PyProof.Rows
open PySem.W (Frag kitOne)
theorem ObjOk.lies {P:Program}{w:World}{H:Hp}{h:Heap}{a:Addr}{o:HO} (x:ObjOk P w H h a o):∃ ob,h.get? a=some ob:=by
 cases o with
 | lst xs=>obtain⟨_,_,_,_,e⟩:=x;exact⟨_,e⟩
 | tup xs=>obtain⟨_,_,_,o,e,_⟩:=x;exact⟨_,e⟩
 | dK kvs=>obtain⟨_,_,_,_,o,_,_,e,_⟩:=x;exact⟨_,e⟩
 | dT kvs=>obtain⟨_,_,_,_,o,_,_,e,_⟩:=x;exact⟨_,e⟩
 | set S n=>obtain⟨o,_,_,_,e,_⟩:=x;exact⟨_,e⟩
 | ins C dx fs=>obtain⟨_,_,_,e,_⟩:=x;exact⟨_,e⟩
 | own y=>obtain⟨_,e⟩:=x;exact⟨_,e⟩
 | xd fs=>obtain⟨_,⟨_,_,_,e,_⟩,_⟩:=x;exact⟨_,e⟩
 | rng lo hi=>obtain⟨_,_,_,e⟩:=x;exact⟨_,e⟩
 | frz ob u=>obtain⟨e,_⟩:=x;exact⟨_,e⟩
 | tbl ps=>exact⟨_,(show h.get? a=some _ from x)⟩
 | met f y=>exact⟨_,(show h.get? a=some _ from x)⟩
 | ext φ=>obtain⟨_,⟨_,e⟩,_⟩:=x;exact⟨_,e⟩
section
variable {X:Cx}{pins:List (Addr×Obj)}{σ:List (Option V)}{H:Hp}{s:Shared}{h':Heap}
theorem Inv.unlaid {a:Addr} (I:Inv X pins σ H s) (e:s.heap.get? a=none):H a=none:=by
 cases q:H a with
 | none=>rfl
 | some o =>
   obtain⟨ob,z⟩:=(I.hok a o q).lies;rw[e]at z;cases z
theorem Inv.laidL {a:Addr}{o:HO}{t':Nat} (I:Inv X pins σ H s) (k:∀ b u,b≠X.env.locals->s.heap.get? b=some u->h'.get? b=some u) (ns:∀ m,s.heap.Ns X.env.locals m->h'.Ns X.env.locals m)
   (hp:s.heap.get? a=none) (new:ObjOk X.prog X.w (upd H a o) h' a o):Inv X pins σ (upd H a o) { s with heap:=h',toks:=t' }:=by
 have hn:H a=none:=I.unlaid hp;have nL:∀ b u,H b=some u->b≠X.env.locals:=fun b u e z=>by rw[z,I.free]at e;cases e
 have na:∀ b u,s.heap.get? b=some u->b≠a:=fun b u q z=>by rw[z,hp]at q;cases q
 refine I.step (g':=s.gens) (d':=s.drawn) (ch:=[]) (fun _ z=>nomatch z) (fun b o hb _ _ e _=>k b o hb e) (fun b o hb _ _ e _=>⟨o.slots,k b o hb e⟩) (fun b o _ e n=>by rw[qj (na b o e)];exact n) (fun b o _ e=>?_)
   (fun b xs q=>by rw[qj (qi q hn)];exact q) (fun b u xs q=>by rw[qj (qi q hn)];exact q) (fun b ps q=>⟨#[],by rw[qj (qi q hn),q];simp⟩) ns (fun b u e=>?_) I.bare
 · by_cases z:b=X.env.locals
   · obtain⟨m,hm,_⟩:=I.loc;obtain⟨o',_,_,ho',_⟩:=ns m hm;exact⟨o',by rw[z];exact ho'⟩
   · exact⟨o,k b o z e⟩
 · by_cases z:b=a
   · subst z;rw[qc]at e;cases e;exact new
   · rw[qj z]at e;refine(I.hok b u e).stay (fun c v hc q=>k c v ?_ q) (fun c q=>by rw[qj (qi q hn)];exact q) fun c xs q=>by rw[qj (qi q hn)];exact q
     rcases hc with z|z
     · rw[z];exact nL b u e
     · exact nL c _ z
end
def qdH (base h:Heap) (L:Addr):List (Addr×Obj):=(List.range h.objs.size).filterMap fun a=>if a=L then none else if (base.get? a).isSome then none else (h.get? a).map fun o=>(a,o)
theorem qb3 (base h:Heap) (L:Addr):News base L h (qdH base h L):=by
 intro p hp;unfold qdH at hp;obtain⟨a,_,e⟩:=List.mem_filterMap.mp hp;by_cases c1:a=L
 · rw[if_pos c1]at e;cases e
 · rw[if_neg c1]at e;by_cases c2:(base.get? a).isSome=true
   · rw[if_pos c2]at e;cases e
   · rw[if_neg c2]at e
     cases q:h.get? a with
     | none=>rw[q]at e;cases e
     | some o =>
       rw[q]at e;cases e;refine⟨q,c1,?_⟩
       cases z:base.get? a with
       | none=>rfl
       | some _=>rw[z]at c2;exact absurd rfl c2
theorem jZ {base h:Heap}{L b:Addr}{o:Obj} (e:h.get? b=some o) (ne:b≠L) (n:base.get? b=none):(b,o)∈qdH base h L:=by
 unfold qdH;refine List.mem_filterMap.mpr ⟨b,List.mem_range.mpr (Heap.lt_size e),?_⟩;rw[if_neg ne,n,e];rfl
theorem qi4 {h:Heap}{a:Addr}{m m':Str->Option Value} (x:h.Ns a m) (y:h.Ns a m'):m=m':=by
 obtain⟨o,es,ep,ho,hd,_,f⟩:=x;obtain⟨o',es',ep',ho',hd',_,f'⟩:=y;rw[ho]at ho';cases ho';rw[hd]at hd';cases hd';exact funext fun n=>(f n).symm.trans (f' n)
section
variable {X:Cx}{pins:List (Addr×Obj)}{σ:List (Option V)}{H:Hp}{s:Shared}{h':Heap}
theorem Inv.laidN {D:Addr}{m:Str->Option Value}{vs:List Value}{c:Nat}{ys:List V} (I:Inv X pins σ H s) (F:Fr X.base X.env.locals s.heap m) (F':Fr X.base X.env.locals h' m)
   (N':News X.base X.env.locals h' ((D,PySem.W.listOf vs.toArray c)::qdH X.base s.heap X.env.locals)) (hD:∀ q∈qdH X.base s.heap X.env.locals,q.1 < D) (r:Vals ys vs) (hz:ys.length≤sizeLine) :
   H D=none∧Inv X pins σ (upd H D (.lst ys)) { s with heap:=h' }:=by
 obtain⟨e1,e2,e3⟩:=N' _ (.head _)
 have free:s.heap.get? D=none:=by
   cases q:s.heap.get? D with
   | none=>rfl
   | some o=>exact absurd (hD _ (jZ q e2 e3)) (Nat.lt_irrefl _)
 have kp:∀ b u,b≠X.env.locals->s.heap.get? b=some u->h'.get? b=some u:=fun b u ne q=>by
   cases z:X.base.get? b with
   | some o =>
     have:=I.bk b o z
     rw[q]at this;cases this;exact F'.keep b _ z
   | none=>exact(N' _ (List.mem_cons_of_mem _ (jZ q ne z))).1
 refine⟨I.unlaid free,I.laidL (t':=s.toks) kp (fun m' hm=>?_) free ⟨hz,vs,c,r,?_⟩⟩
 · rw[qi4 hm F.ns];exact F'.ns
 · exact e1
theorem qeN:∀ {ns:List Int}{vs:List Value},Vals (ns.map V.int) vs->IntsAre vs ns
 | [],_,.nil=>.nil
 | n::ns,_,.cons r t=>by
   obtain⟨tk,rfl⟩:=(show ∃ t,_=Value.int n t from r)
   exact .cons n tk (qeN t)
end
def QS:List Int->List Int->Bool
 | a::as,b::bs=>if a=b then QS as bs else decide (a < b)
 | _,_=>false
theorem qdk:∀ as bs,QS as bs=true->QS bs as=false
 | [],_,h=>by simp[QS]at h
 | _::_,[],h=>by simp[QS]at h
 | a::as,b::bs,h=>by
   unfold QS at h ⊢;by_cases e:a=b
   · rw[if_pos e]at h;rw[if_pos e.symm];exact qdk as bs h
   · rw[if_neg e]at h;rw[if_neg fun z=>e z.symm]
     have:=of_decide_eq_true h
     exact decide_eq_false (by omega)
theorem qeI:∀ {as bs cs:List Int},as.length=bs.length->bs.length=cs.length->QS as bs=false->QS bs cs=false->QS as cs=false
 | [],_,_,_,_,_,_=>rfl
 | _::_,[],_,h,_,_,_=>by simp at h
 | _::_,_::_,[],_,h,_,_=>by simp at h
 | a::as,b::bs,c::cs,h1,h2,x,y=>by
   unfold QS at x y ⊢;by_cases e1:a=b
   · subst e1;rw[if_pos rfl]at x;by_cases e2:a=c
     · subst e2;rw[if_pos rfl]at y ⊢;exact qeI (by simpa using h1) (by simpa using h2) x y
     · rw[if_neg e2]at y ⊢;exact y
   · rw[if_neg e1]at x;have x':=of_decide_eq_false x;by_cases e2:b=c
     · subst e2;rw[if_neg e1];exact x
     · rw[if_neg e2]at y;have y':=of_decide_eq_false y;rw[if_neg (by omega)];exact decide_eq_false (by omega)
section
variable {prog:Program}{w:World}{A:Around}{s:Shared}
theorem qgN {b:Bool}{Q:Bool->Shared->Prop}:∀ {as bs:List Int}{us vs:List Value}{i:Nat},Vals (as.map V.int) us->Vals (bs.map V.int) vs->as.length=bs.length->Q (QS as bs) s->PySem.W.KatLex prog w A b false Q (us.zip vs) i s
 | [],[],_,_,_,.nil,.nil,_,h=>PySem.W.kat_nil h
 | [],_::_,_,_,_,_,_,e,_=>by simp at e
 | _::_,[],_,_,_,_,_,e,_=>by simp at e
 | a::as,c::cs,_,_,i,.cons r1 t1,.cons r2 t2,e,h=>by
   obtain⟨x,rfl⟩:=(show ∃ t,_=Value.int a t from r1)
   obtain⟨y,rfl⟩:=(show ∃ t,_=Value.int c t from r2)
   refine PySem.W.kat_cons (wpAny_eqBool_int ?_);unfold QS at h;by_cases z:a=c
   · rw[if_pos z]at h;rw[show (a == c)=true by rw[z];exact beq_self_eq_true c];exact PySem.W.kat_yes (qgN t1 t2 (by simpa using e) h)
   · rw[if_neg z]at h;rw[show (a == c)=false by exact beq_eq_false_iff_ne.mpr z];refine PySem.W.kat_no ?_
     cases (b && i == 0) with
     | true=>exact oneLt_int h
     | false=>exact PySem.W.kat_one _ _ (wpAny_lt_int h)
end
structure TupI (H:Hp) (zs:List V) (rs:List (List Int)):Prop where
 len:zs.length=rs.length
 at_:∀ (i:Nat) (z:V) (r:List Int),zs[i]?=some z->rs[i]?=some r->∃ t,z=.ref t∧H t=some (.tup (r.map V.int))
def ltI (k:Nat) (rs:List (List Int)) (i j:Nat):Bool:=QS (rs.getD i (List.replicate k 0)) (rs.getD j (List.replicate k 0))
theorem Qx {k:Nat}{rs:List (List Int)} (h:∀ r∈rs,r.length=k) (i:Nat):(rs.getD i (List.replicate k 0)).length=k:=by
 rw[List.getD_eq_getElem?_getD]
 cases e:rs[i]? with
 | none=>exact List.length_replicate
 | some r=>exact h r (List.mem_of_getElem? e)
theorem qgJ {k:Nat}{rs:List (List Int)} (h:∀ r∈rs,r.length=k):Srt.Ord (ltI k rs) :=
 ⟨fun a b c x y=>qeI ((Qx h c).trans (Qx h b).symm) ((Qx h b).trans (Qx h a).symm) y x,fun a b=>qdk _ _⟩
section
variable {X:Cx}{pins:List (Addr×Obj)}{σ:List (Option V)}{H:Hp}{s:Shared}
theorem Inv.tupI {t:Addr}{r:List Int} (I:Inv X pins σ H s) (h:H t=some (.tup (r.map V.int))):∃ (o:Obj) (us:List Value) (n:Nat),Vals (r.map V.int) us∧s.heap.get? t=some o∧o.cls=.type "tuple"∧o.data=.seq us.toArray n:=by
 obtain⟨_,its,rv,o,e,c,n,d⟩:=I.hok t _ h;exact⟨o,its,n,rv,e,c,d⟩
theorem Inv.kpN {h':Heap}{m:Str->Option Value}{x:Addr×Obj} (I:Inv X pins σ H s) (F':Fr X.base X.env.locals h' m) (N':News X.base X.env.locals h' (x::qdH X.base s.heap X.env.locals)) :
   ∀ b u,b≠X.env.locals->s.heap.get? b=some u->h'.get? b=some u:=fun b u ne q=>by
 cases z:X.base.get? b with
 | some o =>
   have:=I.bk b o z
   rw[q]at this;cases this;exact F'.keep b _ z
 | none=>exact(N' _ (List.mem_cons_of_mem _ (jZ q ne z))).1
end
theorem TupI.tail {H:Hp}{z:V}{zs:List V}{r:List Int}{rs:List (List Int)} (h:TupI H (z::zs) (r::rs)):TupI H zs rs :=
 ⟨by have:=h.len;simpa using this,fun i z' r' e1 e2=>h.at_ (i+1) z' r' (by simpa using e1) (by simpa using e2)⟩
inductive qhu (h:Heap) (v:Value) (r:List Int):Prop
 | mk (t:Addr) (o:Obj) (us:List Value) (n:Nat) (h1:v=.ref t) (h2:Vals (r.map V.int) us) (h3:h.get? t=some o) (h4:o.cls=.type "tuple") (h5:o.data=.seq us.toArray n):qhu h v r
def qlx (h:Heap) (v:Value) (r:List Int):Prop:=qhu h v r
theorem qb7 {h:Heap}:∀ {vs:List Value}{rs:List (List Int)},Paired (qlx h) vs rs->(∀ r∈rs,0 < r.length)->∃ fs,PySem.W.KatTups h vs fs∧fs.length=vs.length∧∀ v∈fs,∃ i t,v=Value.int i t
 | _,_,.nil,_=>⟨[],.nil,rfl,fun _ z=>nomatch z⟩
 | _,r::rs,.cons ⟨t,o,us,n,e,rv,ho,hc,hd⟩ q,k=>by
   obtain⟨fs,k1,k2,k3⟩:=qb7 q fun r hr=>k r (List.mem_cons_of_mem _ hr);subst e;have pos:=k r List.mem_cons_self
   match r,us,rv,pos with
   | a::r,_,.cons ra rt,_ =>
     obtain⟨tk,rfl⟩:=(show ∃ t,_=Value.int a t from ra)
     refine⟨_::fs,.cons ho hc hd (by simp;rfl) k1,by simp[k2],fun v hv=>?_⟩;rcases List.mem_cons.mp hv with rfl|hv
     · exact⟨_,_,rfl⟩
     · exact k3 v hv
theorem Qf {α β:Type}{F:α->β->Prop}:∀ {xs:List α}{ys:List β}{i:Nat}{d:α}{e:β},Paired F xs ys->i < xs.length->F (xs.getD i d) (ys.getD i e)
 | _,_,_,_,_,.nil,h=>by simp at h
 | _,_,0,_,_,.cons r _,_=>by simpa using r
 | _,_,i+1,_,_,.cons _ t,h=>by
   simp only[List.getD_cons_succ];exact Qf t (by simpa using h)
theorem qbQ {α β:Type}{F:α->β->Prop}{xs:List α}{ys:List β}{d:α}{e:β} (r:Paired F xs ys):∀ {is:List Nat},(∀ i∈is,i < xs.length)->Paired F (is.map fun i=>xs.getD i d) (is.map fun i=>ys.getD i e)
 | [],_=>.nil
 | i::is,h=>.cons (Qf r (h i List.mem_cons_self)) (qbQ r fun j hj=>h j (List.mem_cons_of_mem _ hj))
theorem qbg {α:Type} (l:List α) (d:α):(List.range l.length).map (fun i=>l.getD i d)=l:=by
 apply List.ext_getElem
 · simp
 · intro i h1 h2;simp[h2]
section
variable {prog:Program}{w:World}{A:Around}{E:Value->Shared->Prop}{s:Shared}
theorem qhN {a:Addr}{vs:List Value}{n:Nat}{P:PySem.Fin->Shared->Prop} (ho:s.heap.get? a=some (seqObj "list" vs.toArray n)) (h2:vs.length < 2)
   (h:∀ c h',(∀ b o,b≠a->s.heap.get? b=some o->h'.get? b=some o)->h'.get? a=some (seqObj "list" vs.toArray c)->P (.done (.ret .none)) { s with heap:=h' }) :
   wpAny (model prog w) A (Builtin.«list.sort» ⟨[.ref a],[]⟩) P E s:=by
 obtain⟨e1,ho1⟩:∃ e1,(s.heap.update a (Obj.mapSeq fun _=>(#[]:Array Value))).get? a=some (seqObj "list" #[] e1):=⟨_,get?_update_seq ho fun _=>#[]⟩
 have s1:=Heap.SameBut.update s.heap a (Obj.mapSeq fun _=>(#[]:Array Value));rw[list_sort_plain];refine wpAny_bind (listItems_at ho rfl ?_);refine wpAny_bind (listUpdate_at ho rfl ?_ (by rw[List.size_toArray,sizeLine_eq];omega) (Nat.zero_le _));refine wpAny_bind (seqEpoch_at ho1 rfl ?_);refine wpAny_bind (wpAny_newTuple ?_ (by show vs.length≤_;rw[sizeLine_eq];omega));refine wpAny_bind (wpAny_newList ?_ (Nat.zero_le _));refine wpAny_holding ?_;dsimp only;have hn2:vs.toArray.size < 2:=by rw[List.size_toArray];omega
 rw[if_pos hn2];refine wpAny_bind (wpAny_pure ?_);rw[if_pos hn2];refine wpAny_bind (wpAny_pure ?_);have ho2:(((s.heap.update a (Obj.mapSeq fun _=>(#[]:Array Value))).push (seqObj "tuple" vs.toArray 0)).push (seqObj "list" #[] 0)).get? a=some (seqObj "list" #[] e1):=Heap.get?_push_of_some _ (Heap.get?_push_of_some _ ho1)
 have hsnd:Array.map (fun x:Keyed=>x.snd) (arrOf (SortSt.mk' general' (vs.toArray.zip vs.toArray) #[] 7 none))=vs.toArray:=by
   show Array.map (fun x:Value×Value=>x.snd) (vs.toArray.zip vs.toArray)=vs.toArray;apply Array.toList_inj.mp;simp only[Array.toList_map,Array.toList_zip];exact List.map_snd_zip (Nat.le_refl _)
 refine wpAny_bind (seqEpoch_at ho2 rfl ?_);dsimp only;rw[hsnd];refine wpAny_bind (listUpdate_at ho2 rfl ?_ (Nat.zero_le _) (by rw[List.size_toArray,sizeLine_eq];omega));show wpAny (model prog w) A (if (e1 != e1)=true then _ else ret Value.none) P E _;rw[if_neg (by simp)];refine wpAny_pure (h _ _ (fun b o hb q=>?_) (get?_update_seq ho2 fun _=>vs.toArray));rw[(Heap.SameBut.update _ a _).2 b hb];exact Heap.get?_push_of_some _ (Heap.get?_push_of_some _ ((s1.2 b hb).trans q))
theorem qbJ {l:Addr}{vs:List Value}{Q:Value->Shared->Prop} (hl:s.heap.IsList l vs.toArray) (h2:vs.length < 2)
   (h:∀ D c h',s.heap.get? D=none->(∀ b o,s.heap.get? b=some o->h'.get? b=some o)->h'.get? D=some (seqObj "list" vs.toArray c)->Q (.ref D) { s with heap:=h' }) :
   wpAny (model prog w) A (call (.builtin "sorted") [.ref l]) Q E s:=by
 refine Calls.call_function_entry kind_sorted plain_sorted entry_sorted (args_sorted1 _) ?_;unfold Builtin.«sorted»;refine wpAny_bind (m:=checkCount "sorted" 1 1 _) (wpAny_pure ?_);refine wpAny_bind (collect_list hl ?_ (by rw[sizeLine_eq];omega));refine wpAny_bind (wpAny_newList ?_ (by rw[sizeLine_eq];omega))
 have hsz:((s.heap.push (seqObj "list" #[] 0)).update s.heap.objs.size (Obj.mapSeq (·++vs.toArray))).objs.size=s.heap.objs.size+1:=by
   rw[Heap.size_update,size_push']
 have hoL:(((s.heap.push (seqObj "list" #[] 0)).update s.heap.objs.size (Obj.mapSeq (·++vs.toArray))).push (seqObj "list" vs.toArray 0)).get? (s.heap.objs.size+1)=some (seqObj "list" vs.toArray 0):=by
   rw[← hsz];exact Heap.get?_push_size _ rfl
 have keep:∀ b o,s.heap.get? b=some o->(((s.heap.push (seqObj "list" #[] 0)).update s.heap.objs.size (Obj.mapSeq (·++vs.toArray))).push (seqObj "list" vs.toArray 0)).get? b=some o:=fun b o q=>by
   have hlt:b < s.heap.objs.size:=Heap.lt_size q;rw[Heap.get?_push_ne _ _ _ (by rw[hsz];exact Nat.ne_of_lt (Nat.lt_succ_of_lt hlt)),Heap.get?_update_ne _ _ _ _ (Nat.ne_of_lt hlt),Heap.get?_push_ne _ _ _ (Nat.ne_of_lt hlt)];exact q
 show wpAny _ _ _ _ _ { s with heap:=((s.heap.push (seqObj "list" #[] 0)).update s.heap.objs.size (Obj.mapSeq (·++vs.toArray))).push (seqObj "list" vs.toArray 0) };rw[hsz];refine wpAny_bind (wpAny_holding (wpAny_call_entry slot_list_sort ⟨_,hoL,rfl⟩ entry_list_sort ?body (args_list_sort _)))
 case body =>
   refine qhN (s:={ s with heap:=((s.heap.push (seqObj "list" #[] 0)).update s.heap.objs.size (Obj.mapSeq (·++vs.toArray))).push (seqObj "list" vs.toArray 0) }) hoL h2 fun c h' k e=>?_;exact⟨_,rfl,wpAny_pure ⟨_,rfl,h (s.heap.objs.size+1) c h' (Heap.get?_none_of_le (Nat.le_succ _)) (fun b o q=>k b o (Nat.ne_of_lt (Nat.lt_succ_of_lt (Heap.lt_size q))) (keep b o q)) e⟩⟩
end
inductive qez (K:Frag) (xs:List V) (H:Hp) (Q:VK):Prop
 | mk (l:Addr) (zs:List V) (rs:List (List Int)) (k:Nat) (h1:xs=[.ref l]) (h2:SqL K H l zs) (h3:TupI H zs rs) (h4:(∀ r∈rs,r.length=k)) (h5:0 < k) (h6:zs.length < 64) (h7:∀ (p:Addr) (zs':List V) (rs':List (List Int)),H p=none->rs'.Perm rs->TupI H zs' rs'->rs'.Pairwise (fun a b=>QS b a=false)->Q (.ref p) (upd H p (.lst zs'))):qez K xs H Q
def qiQ (K:Frag):List V->Hp->VK->Prop:=fun xs H Q=>qez K xs H Q
theorem qdM {X:Cx}{pins:List (Addr×Obj)}{σ:List (Option V)}{H:Hp}{s:Shared}{h':Heap} (I:Inv X pins σ H s) (kp:∀ b u,b≠X.env.locals->s.heap.get? b=some u->h'.get? b=some u) :
   ∀ {zs:List V}{rs:List (List Int)}{vs:List Value},TupI H zs rs->Vals zs vs->Paired (qlx h') vs rs
 | [],rs,_,h,.nil=>by
   have:rs=[]:=List.eq_nil_of_length_eq_zero h.len.symm
   subst this;exact .nil
 | z::zs,[],_,h,_=>by have:=h.len;simp at this
 | z::zs,r::rs,_,h,.cons r1 t1=>by
   refine .cons ?_ (qdM I kp h.tail t1);obtain⟨t,rfl,ht⟩:=h.at_ 0 z r rfl rfl;obtain⟨o,us,n,rv,e,c,d⟩:=I.tupI ht;exact⟨t,o,us,n,r1,rv,kp t o (fun q=>by rw[q,I.free]at ht;cases ht) e,c,d⟩
theorem qfG {H:Hp}{zs:List V}{rs:List (List Int)}{d:V}{e:List Int} (h:TupI H zs rs) {is:List Nat} (hi:∀ i∈is,i < zs.length):TupI H (is.map fun i=>zs.getD i d) (is.map fun i=>rs.getD i e):=by
 refine⟨by rw[List.length_map,List.length_map],fun j z r e1 e2=>?_⟩;rw[List.getElem?_map]at e1 e2
 cases q:is[j]? with
 | none=>rw[q]at e1;cases e1
 | some i =>
   rw[q]at e1 e2;have lt:=hi i (List.mem_of_getElem? q);have lt2:i < rs.length:=by rw[← h.len];exact lt
   have z1:zs.getD i d=z:=Option.some.inj e1;have r1:rs.getD i e=r:=Option.some.inj e2;rw[List.getD_eq_getElem?_getD,List.getElem?_eq_getElem lt]at z1;rw[List.getD_eq_getElem?_getD,List.getElem?_eq_getElem lt2]at r1;exact h.at_ i z r (by rw[List.getElem?_eq_getElem lt];exact congrArg some z1) (by rw[List.getElem?_eq_getElem lt2];exact congrArg some r1)
section
variable {X:Cx}
theorem call_sortT:CallR X (.builtin "sorted") (qiQ X.K):=by
 intro pins s σ H xs us Q I r h;obtain⟨l,zs,rs,k,rfl,hq,tp,hk,k0,h64,q⟩:=h;obtain⟨u,rfl,ru⟩:=j5 r;cases (show u=Value.ref l from ru);obtain⟨its,rv,p,hz⟩:=I.list hq;have hlen:=rv.length;by_cases h2:its.length < 2
 · refine qbJ p.isList h2 fun D c h' free kp e=>?_;have I':Inv X pins σ (upd H D (.lst zs)) { s with heap:=h' }:=I.laidL (t':=s.toks) (fun b u _ z=>kp b u z) (fun m ⟨o,es,ep,ho,r⟩=>⟨o,es,ep,kp _ _ ho,r⟩) free ⟨hz,its,c,rv,e⟩;refine⟨.ref D,_,I',rfl,q D zs rs (I.unlaid free) (List.Perm.refl _) tp ?_⟩;have l2:rs.length < 2:=by rw[← tp.len,hlen];exact h2
   match rs,l2 with
   | [],_=>exact .nil
   | [r],_=>exact List.pairwise_singleton _ _
   | _::_::_,l2=>simp at l2;omega
 · obtain⟨m,F⟩:=I.fr;refine PySem.W.kat_sorted F (qb3 X.base s.heap X.env.locals) p.isList (by omega) (by omega) fun D e1 h' F' N' hD=>?_;have kp:=I.kpN F' N';have pa:=qdM I kp tp rv;obtain⟨fs,t1,t2,t3⟩:=qb7 pa fun r hr=>by rw[hk r hr];exact k0
   refine PySem.W.kat_kind (T:=.type "int") t1 (by omega) (fun v hv=>?_) rfl ?_
   · obtain⟨i,t,rfl⟩:=t3 v hv;exact PySem.W.Looks.of_pure rfl
   refine Srt.RunP.wp (fun i j C hi hj hC=>?_) (fun a ha=>?_) (Srt.sort_ok (n:=its.length) (qgJ hk) (by omega))
   · obtain⟨x,ox,ux,nx,ex,rx,hx,cx,dx⟩:=Qf (d:=Value.none) (e:=List.replicate k 0) pa hi;obtain⟨y,oy,uy,ny,ey,ry,hy,cy,dy⟩:=Qf (d:=Value.none) (e:=List.replicate k 0) pa hj;unfold PySem.W.kas_ask;rw[ex,ey];refine PySem.W.kat_lt hx dx hy dy ?_;have lx:=Qx hk i;have ly:=Qx hk j;have e1':=rx.length;have e2':=ry.length;rw[List.length_map]at e1' e2';rw[show decide (ux.toArray.size < uy.toArray.size)=false from decide_eq_false (by rw[List.size_toArray,List.size_toArray];omega)];exact qgN rx ry (by omega) hC
   · obtain⟨hp,up⟩:=ha
     have pl:a.toList.Perm (List.range its.length):=by
       have:=Array.perm_iff_toList_perm.mp hp
       simpa using this
     have inR:∀ i∈a.toList,i < zs.length:=fun i hi=>by rw[hlen];exact List.mem_range.mp (pl.mem_iff.mp hi)
     refine PySem.W.KasFin.intro F' N' (.head fun q hq=>Nat.ne_of_lt (hD q hq)) fun h2 c F2 N2=>?_;have rv2:Vals (a.toList.map fun i=>zs.getD i .non) (a.toList.map fun i=>its.getD i Value.none):=qbQ rv inR;obtain⟨hn,I'⟩:=I.laidN F F2 N2 hD rv2 (by rw[List.length_map,pl.length_eq,List.length_range,← hlen];exact hz);refine⟨.ref D,_,I',rfl,q D _ (a.toList.map fun i=>rs.getD i (List.replicate k 0)) hn ?_ (qfG tp inR) ?_⟩
     · have:=pl.map fun i=>rs.getD i (List.replicate k 0)
       rw[← hlen,tp.len,qbg]at this;exact this
     · have sz:a.size=its.length:=by
         have:=pl.length_eq
         rw[Array.length_toList,List.length_range]at this;exact this
       refine List.pairwise_iff_getElem.mpr fun i j hi hj lt=>?_;have hj':j < a.size:=by simpa using hj
       have hi':i < a.size:=by omega
       have:=Srt.Up.le (qgJ hk) up (x:=i) (j - i) (by omega)
       rw[show i+(j - i)=j by omega]at this;simp only[List.getElem_map,Array.getElem_toList];simp only[ltI,Array.getD_eq_getD_getElem?,Array.getElem?_eq_getElem hj',Array.getElem?_eq_getElem hi',Option.getD_some]at this;exact this
end
theorem qfC:∀ {xs:List V}{us:List Value},us.length=xs.length->(∀ (i:Nat) (x:V) (u:Value),xs[i]?=some x->us[i]?=some u->RelV x u)->Vals xs us
 | [],[],_,_=>.nil
 | [],_::_,h,_=>by cases h
 | _::_,[],h,_=>by cases h
 | x::xs,u::us,h,r=>.cons (r 0 x u rfl rfl) (qfC (Nat.succ.inj h) fun i y v e1 e2=>r (i+1) y v e1 e2)
theorem qgQ {k:Key}{v:Value} (h:qdZ k v=true):RelV (kV k) v:=by
 rcases ze h with ⟨i,t,rfl,rfl⟩|⟨x,t,rfl,rfl⟩
 · exact⟨t,rfl⟩
 · exact⟨t,rfl⟩
theorem qgP:∀ {kvs:List (Key×V)}{vs:List (Key×Value)},KV kvs vs->∀ {i:Nat}{k:Key}{x:Value},vs[i]?=some (k,x)->∃ y,kvs[i]?=some (k,y)∧RelV y x
 | _,_,.nil,i,k,x,e=>by cases e
 | _,_,.cons (a:=a) (b:=b) r t,i,k,x,e=>by
   cases i with
   | zero =>
     cases e;exact⟨a.2,by rw[List.getElem?_cons_zero];obtain⟨a1,a2⟩:=a;have:=r.1;simp at this;rw[this],r.2⟩
   | succ i=>exact qgP t e
theorem qaU:∀ {kvs:List (Key×V)}{vs:List (Key×Value)},KV kvs vs->vs.length=kvs.length
 | _,_,.nil=>rfl
 | _,_,.cons _ t=>by rw[List.length_cons,List.length_cons,qaU t]
section
variable {X:Cx}
def qge:List V->Hp->VK->Prop:=fun xs H Q=>∃ a kvs,xs=[V.ref a]∧Rd H a (.dK kvs)∧∀ l,H l=none->Q (.ref l) (upd H l (.lst (kvs.map fun p=>kV p.1)))
theorem qb0 (hc:X.calm=true):CallR X (.type "list") qge:=by
 intro pins s σ H xs us Q I r h;obtain⟨a,kvs,rfl,hq,q⟩:=h;obtain⟨u,rfl,ru⟩:=j5 r;cases ru;obtain⟨hz,hS,vs,rel,o,es,ep,e,x,d,k,p,n⟩:=qdz I.hok hq;have D:s.heap.DictAt (qP X.prog X.w) a vs ep:=⟨o,es,e,x,d,k,p,n⟩
 refine PySem.W.kdl_call (PySem.W.kdl_dict (knd:=qP X.prog X.w) (kvs:=vs) (ep:=ep) hS) (I.ok.hd hc) D (by rw[qaU rel];exact hz) fun h' tk acc' c' kp e' it=>?_;obtain⟨al,ag⟩:=it
 have rv:Vals (kvs.map fun p=>kV p.1) acc'.toList:=by
   refine qfC (by rw[Array.length_toList,al,List.length_map,qaU rel]) fun i y v e1 e2=>?_;obtain⟨k',x',e3,e4⟩:=ag i v (by rw[← Array.getElem?_toList];exact e2);obtain⟨y',e5,_⟩:=qgP rel e3;rw[List.getElem?_map,e5]at e1;cases e1;exact qgQ e4
 refine⟨.ref s.heap.objs.size,_,I.laid (t':=tk) kp (Nat.le_refl _) (show ObjOk X.prog X.w _ h' _ (.lst _) from ⟨by rw[List.length_map];exact hz,acc'.toList,c',rv,?_⟩),rfl,q _ (I.hok.fresh (Nat.le_refl _))⟩;rw[Array.toArray_toList];exact e'
def qkm (K:Frag):List V->Hp->VK->Prop:=fun xs H Q=>∃ x C t b,xs=[x,V.ref C]∧qdI K H x t∧kitOne K t (.ref C)=some b∧Q (.bl b) H
theorem jX:CallR X (.builtin "isinstance") (qkm X.K):=by
 intro pins s σ H xs us Q I r h;obtain⟨x,C,t,b,rfl,ht,hk,q⟩:=h;obtain⟨u,w',rfl,ru,rw'⟩:=qfD r;cases (show w'=Value.ref C from rw');exact qds I ru ht hk fun tk=>⟨.bl _,H,I.tok tk,rfl,q⟩
theorem qZ {K:Frag}{C D:Addr}{l:List (Option Addr)} (m:XMro K C l) (hl:l.head?=some (some C)) (d:qhC K D):kitOne K (.ref C) (.ref D)=some (l.contains (some D)):=by
 have e:=qhF m (by intro z;rw[z]at hl;cases hl) d;unfold kitOne;split
 · rename_i z
   have z':C=D:=Value.ref.inj (eq_of_beq z);subst z';congr 1
   cases l with
   | nil=>cases hl
   | cons x r=>rw[List.head?_cons]at hl;cases hl;simp
 · obtain⟨cd,h1,h2⟩:=m;unfold PySem.W.kitCls;have d1:(PySem.W.clsIn K D).isSome=true:=d.1;simp only[d.2,d1];simp only[qks,d.2,d1]at e;simpa using e
theorem PE.or {e:Expr}{t u:TE} (h:PE X e t) (h':PE X e u):PE X e (fun σ H Q=>t σ H Q∨u σ H Q):=fun pins s σ H Q I q=>q.elim (h pins s σ H Q I) (h' pins s σ H Q I)
def qjJ:R2:=fun x y H Q=>∃ a o,y=.ref a∧qjq H a x o∧Q (.bl (!o.isSome)) H
theorem qgo (hu:X.A.units+1 < cLine):OpR X (compareOp .NotIn) qjJ:=by
 intro pins s σ H x y v u Q I rx ry h;obtain⟨a,o,rfl,g,q⟩:=h;cases ry;exact qkd hu I g rx fun s' I'=>⟨.bl _,H,I',rfl,q⟩
def qm2 (t:TS):TS:=fun D σ H=>t D σ H∨∃ a kvs,H a=some (.dK kvs)∧∀ ob,t D σ (upd H a (.frz ob (.dK kvs)))
theorem PS.frz {st:Stmt}{t:TS} (h:PS X st t):PS X st (qm2 t):=by
 intro pins s σ H D I q;rcases q with q|⟨a,kvs,e,q⟩
 · exact h pins s σ H D I q
 · obtain⟨hz,hS,vs,rel,o,es,ep,e1,r⟩:=qdz I.hok (.inl e);have I':Inv X pins σ (upd H a (.frz o (.dK kvs))) { s with heap:=s.heap,toks:=s.toks }:=I.write (x:=a) (e:=a) (by rw[e];exact True.intro) (.inl rfl) (fun b u _ z=>z) ⟨_,e1⟩ ⟨e1,hz,hS,vs,rel,o,es,ep,e1,r⟩;exact h pins s σ _ D I' (q o)
end
def Itd (a:Addr) (ob:Obj) (kvs:List (Key×V)):It :=
 ⟨fun i H=>H a=some (.frz ob (.dK kvs))∧i < kvs.length,fun i H x H'=>H'=H∧∃ k y,kvs[i]?=some (k,y)∧x=kV k,fun i H=>H a=some (.frz ob (.dK kvs))∧kvs.length≤i⟩
theorem qje {P:Program}{w:World}{H:Hp}{h:Heap}{a:Addr}{ob:Obj}{kvs:List (Key×V)}{es:Array DictEntry}{ep:Nat} (ok:HOk P w H h) (e:H a=some (.frz ob (.dK kvs))) (hd:ob.data=.dict es ep) :
   (a == sysModules)=false∧∃ vs,KV kvs vs∧h.DictAt (qP P w) a vs ep:=by
 obtain⟨g,hz,hS,vs,rel,o,es',ep',e1,x,d,r⟩:=(show ObjOk P w H h a (.frz ob (.dK kvs)) from ok a _ e)
 rw[g]at e1;cases e1;rw[hd]at d;cases d;exact⟨hS,vs,rel,_,_,g,x,hd,r⟩
theorem qe9 {P:Program}{w:World}{K:Frag}{tg:Expr} (a it:Addr) (ob:Obj) (kvs:List (Key×V)) {es:Array DictEntry}{ep:Nat} (hd:ob.data=.dict es ep):qjo P w K tg (Itd a ob kvs) [it] it (fun i h=>h.IsKeyIter it a i kvs.length ep) where
 mem:=by simp
 obj:=fun i h st b hb=>by
   have e:b=it:=by simpa using hb
   subst e;obtain⟨o,e,c,d⟩:=st;exact⟨o,e,fun v z=>by rw[d]at z;cases z⟩
 keep:=fun i h h' st k=>by
   obtain⟨o,e,r⟩:=st;exact⟨o,k it (by simp) o e,r⟩
 item:=by
   intro X hP hw hK hc i pins s σ H E I hf st hg;subst hP hw hK;obtain⟨e,hi⟩:=hg;obtain⟨hS,vs,rel,D⟩:=qje I.hok e hd;obtain⟨f0,f1,f2,f3,f4,f5⟩:=hf it (by simp);have ln:=qaU rel;obtain⟨⟨k,y⟩,hy⟩:∃ p,vs[i]?=some p:=⟨vs[i]'(by omega),by rw[List.getElem?_eq_getElem]⟩
   obtain⟨y',hy',_⟩:=qgP rel hy;rw[← ln]at st;refine wpAny_pyNext_dict_item st D hy fun key h' hkey st' sb=>?_;have I1:Inv X pins σ H { s with heap:=h' }:=I.turned (t':=s.toks) (fun b o hb e=>(sb.2 b hb).trans e) f0 f1 f3 f4 f5;obtain⟨o,e',c,d⟩:=id st';rw[ln]at st';exact⟨key,rfl,qip (s:={ s with heap:=h' }) e' c d (by decide) ⟨kV k,H,I1,qgQ hkey,⟨rfl,k,y',hy',rfl⟩,st',fun b hb=>(hf b hb).1⟩⟩
 done:=by
   intro X hP hw hK hc i pins s σ H E I hf st hg;subst hP hw hK;obtain⟨e,hi⟩:=hg;obtain⟨hS,vs,rel,D⟩:=qje I.hok e hd;obtain⟨f0,f1,f2,f3,f4,f5⟩:=hf it (by simp);have ln:=qaU rel;rw[← ln]at st;exact wpAny_pyNext_dict_end (I.ok.hd hc) st D (List.getElem?_eq_none (by omega)) fun h' eb=>⟨rfl,I.turned (t':=s.toks) (fun b o hb e=>eb b o hb e) f0 f1 f3 f4 f5⟩
 self:=fun _ _ _ _ _ st h=>wpAny_pyIter_keyiter st h
section
variable {X:Cx}{tg:Expr}
def qmh (tl:TE):TI:=fun σ H R=>tl σ H fun x H1=>∃ a ob kvs,x=.ref a∧H1 a=some (.frz ob (.dK kvs))∧R (Itd a ob kvs) H1
theorem qjT {l:Expr}{tl:TE} (hl:PE X l tl):PI X tg l (qmh tl):=by
 intro pins s σ H R I h;refine thn (hl pins s σ H _ I h) fun v s1 zz_=>?_;obtain⟨x,H1,I1,r1,q1⟩:=zz_;obtain⟨a,ob,kvs,e,hq,q⟩:=q1;subst e;cases r1;obtain⟨g,hz,hS,vs,rel,o,es,ep,e1,x,d,r⟩:=(show ObjOk X.prog X.w H1 s1.heap a (.frz ob (.dK kvs)) from I1.hok a _ hq)
 rw[g]at e1;cases e1;have D:s1.heap.DictAt (qP X.prog X.w) a vs ep:=⟨_,_,g,x,d,r⟩
 refine wpAny_pyIter_dict hS D ?_;refine⟨s1.heap.objs.size,[s1.heap.objs.size],_,_,H1,rfl,I1.kept (t':=s1.toks) fun b o e=>Heap.get?_push_of_some _ e,qe9 a _ ob kvs d,(by rw[← qaU rel];exact⟨_,Heap.get?_push_size _ rfl,rfl,rfl⟩),fun b hb=>?_,q⟩;have e:b=s1.heap.objs.size:=by simpa using hb
 subst e;exact I1.fpOk (Nat.le_refl _) (I1.hok.fresh (Nat.le_refl _))
theorem qhc {a:Addr}{ob:Obj}{kvs:List (Key×V)}{g:TG}{tt:TT}{te:TE}{D:Addr}{Q:VK}{σ:St}{H:Hp} (Pv:Nat->St->Hp->Prop) (h0:Pv 0 σ H) (hl:∀ i σ H,i≤kvs.length->Pv i σ H->H a=some (.frz ob (.dK kvs)))
   (hs:∀ i k y σ H,kvs[i]?=some (k,y)->Pv i σ H->g (kV k) σ H fun σ3 H3=>tt σ3 H3 fun ok H4=>if ok=true then te σ3 H4 fun y H5=>∃ ys,H5 D=some (.lst ys)∧ys.length < sizeLine∧Pv (i+1) σ3 (upd H5 D (.lst (ys++[y]))) else Pv (i+1) σ3 H4)
   (hd:∀ σ H,Pv kvs.length σ H->Q (.ref D) H) :
   Q4 (Itd a ob kvs) g tt te D Q σ H:=by
 refine⟨fun i m σ H=>m=kvs.length - i∧i≤kvs.length∧Pv i σ H,⟨kvs.length,by simp,Nat.zero_le _,h0⟩,?_⟩;rintro i m σ H ⟨rfl,hi,p⟩;have q:=hl i σ H hi p;by_cases hlt:i < kvs.length
 · refine .inr ⟨⟨q,hlt⟩,Pv (i+1),fun σ' H' p'=>⟨kvs.length - (i+1),by omega,rfl,hlt,p'⟩,fun v H' y=>?_⟩;obtain⟨e,k,y,hk,ex⟩:=y;subst e;subst ex;exact hs i k y σ _ hk p
 · have e:i=kvs.length:=by omega
   subst e;exact .inl ⟨⟨q,Nat.le_refl _⟩,hd σ H p⟩
structure InsF (K:Frag) (C:Addr):Prop where
 cl:Cls K C
 ha:PySem.W.findIn K (.ref C) "__class__"=some (some (.builtin "object.__class__"))
 hn:PySem.W.specialIn K (.builtin "object.__class__") "__get__"=some (some (.builtin "getset_descriptor.__get__"))
 htk:PySem.W.takesIn K (.builtin "object.__class__")=some true
 hm:PySem.W.mroIn K C (.type "object")=some true
theorem InsF.ty {K:Frag}{H:Hp}{a C dx:Addr}{fs:List (Str×V)} (i:InsF K C) (e:H a=some (.ins C dx fs)):qdI K H (.ref a) (.ref C):=.ins e i.cl i.ha i.hn i.htk i.hm
end
theorem qbV:entryFor table "dict.update.loop"=some Builtin.«dict.update.loop»:=entryFor_of_tree (by kernel_rfl)
theorem ZM:plainId "dict.update.loop"=true:=by decide +kernel
theorem qdm:typeLookup (.type "list") (Str.ofString "keys")=pure none:=am_miss_of_fast (by kernel_rfl)
section
variable {prog:Program}{w:World}{A:Around}{E:Value->Shared->Prop}{s:Shared}
theorem qj0 {l:Addr}{o:Obj}{xs:Array Value}{k:Nat}{Q:Option Value->Shared->Prop} (hx:s.heap.get? l=some o) (hc:o.cls=.type "list") (hdat:o.data=.seq xs k) (hd:o.dict=none) (hA:A.handled=none)
   (q:∀ h' tk,(∀ b ob,s.heap.get? b=some ob->h'.get? b=some ob)->Q none { s with heap:=h',toks:=tk }):wpAny (model prog w) A (getAttr? (.ref l) (Str.ofString "keys")) Q E s:=by
 obtain⟨c,dct,dat,sl⟩:=o;simp only at hc hdat hd;subst hc;subst hdat;subst hd;obtain⟨hp,g,d,tk,os⟩:=s;have f1:=sub_AttributeError;have f3:=F.slot_list_getattribute.lookup;have f4:=F.slot_list_getattribute.bind (Value.ref l);have f5:=am_list_getattr_none;have f6:=attrError_no_first;unfold getAttr? getAttrBy? getAttrBy getAttrByItsOwn hookBefore callGetattribute boundAndCalled;refine wpAny_bind (wpAny_mkText (wpAny_bind (wpAny_attempt (wpAny_holding (wpAny_bind (wpAny_typeOf (s:={ heap:=hp,gens:=g,drawn:=d,toks:=tk+1,os:=os }) (T:="list") ⟨_,hx,rfl⟩ (wpAny_bind (wpAny_of_eq f3 ?_))))))));rw[if_neg (by decide)];refine wpAny_bind ?_;rw[if_neg (by decide)];refine wpAny_pure (wpAny_bind (wpAny_attempt (wpAny_holding ?_)));show wpAny _ _ (bindSpecial (.builtin "list.__getattribute__") (.ref l) >>= _) _ _ _;refine wpAny_bind (wpAny_of_eq f4 ?_);refine call_meets F.slot_list_getattribute ⟨_,hx,rfl⟩ am_entry_list_getattribute (F.args_list_getattribute_2 (.ref l) (.str (Str.ofString "keys") tk)) (meets_getattribute_miss_list l xs k sl (Str.ofString "keys") tk qdm (by decide +kernel) (by decide +kernel)) ⟨hx,hA,fun h' tk' e hx'=>?_⟩;obtain⟨kp,nw,t,u,he⟩:=hx';dsimp only;unfold getattributeRaised hookBehind;have hT:Shared.TypeIs { heap:=h',gens:=g,drawn:=d,toks:=tk',os:=os } (.ref e) "AttributeError":=⟨_,he,rfl⟩
 refine wpAny_bind (wpAny_isInstance hT f1 ?_);simp only[if_true];rw[if_neg (by decide)];refine wpAny_bind (wpAny_of_eq f5 ?_);unfold hookOrError attributeErrorLeaves;simp only[Bool.not_false,if_true];refine wpAny_bind (wpAny_throw ?_);refine wpAny_bind (wpAny_isInstance hT f1 ?_);simp only[if_true];exact wpAny_pure (q h' tk' kp)
end
section
variable {prog:Program}{w:World}{A:Around}{R:Result->Shared->Prop}{I:Addr}{fp wr:List Addr}{n:Nat}{P:Nat->Value->Prop}{St:Nat->Heap->Prop}
theorem qkb (W:Walks prog w A.in1 I fp wr n P St) (S:Addr) (nS:S∉fp) (vs:List (Key×Value)) (ln:vs.length=n) (hb:n≤sizeLine) (ts:Nat->Addr) (keys:Nat->Value)
   (hP:∀ i v,i < n->P i v->v=.ref (ts i)) (ok:∀ i k x,vs[i]?=some (k,x)->(qP prog w).is k (keys i)=true∧ts i≠S∧ts i∉wr) :
   ∀ (k i:Nat) (s:Shared),n - i=k->i≤n->St i s.heap->s.heap.DictOf (qP prog w) S (merged [] (vs.take i))->(∀ j kk x,vs[j]?=some (kk,x)->s.heap.IsTuple (ts j) #[keys j,x]) ->
     (∀ h' tk,(∀ b o,b≠S->b∉wr->s.heap.get? b=some o->h'.get? b=some o)->h'.DictOf (qP prog w) S (merged [] vs)->R (.ok (.ret .none)) { s with heap:=h',toks:=tk }) ->
     codeAny (model prog w) A (.builtin "dict.update.loop" ⟨[.ref S,.ref I,rawInt (i:Int),.none],[]⟩) R s:=by
 have wS:S∉wr:=fun z=>nS (W.sub _ z);intro k
 induction k with
 | zero =>
   intro i s k0 i0 st dS tu fin;have e:i=n:=by omega
   subst e;rw[← ln,List.take_length]at dS;refine codeAny_builtin qbV ?_;rw[Around.under_plainId ZM _];show wpAny _ A.in1 (pyNext (.ref I) >>= _) _ _ s;refine wpAny_bind (W.done s _ _ st fun h' tk mv=>?_)
   have dS':h'.DictOf (qP prog w) S (merged [] vs):=by
     obtain⟨o,es,ep,e,c⟩:=dS;exact⟨o,es,ep,mv _ _ wS e,c⟩
   show wpAny _ A.in1 (Builtin.Dict.addKeywords S [] >>= fun _=>ret Value.none) _ _ _;unfold Builtin.Dict.addKeywords;refine wpAny_bind (wpAny_bind (wpAny_pure (wpAny_pure ?_)));exact wpAny_pure (fin h' tk (fun b o _ nb e=>mv b o nb e) dS')
 | succ k ih =>
   intro i s k0 i0 st dS tu fin;have lt:i < n:=by omega
   obtain⟨⟨kk,x⟩,hv⟩:∃ p,vs[i]?=some p:=⟨_,List.getElem?_eq_getElem (by omega)⟩
   obtain⟨hk,n1,n2⟩:=ok i kk x hv;refine codeAny_builtin qbV ?_;rw[Around.under_plainId ZM _];show wpAny _ A.in1 (pyNext (.ref I) >>= _) _ _ s;refine wpAny_bind (W.item i s _ _ lt st fun v h' tk pv st' mv=>?_);have hvv:=hP i v lt pv;subst hvv
   have dS':h'.DictOf (qP prog w) S (merged [] (vs.take i)):=by
     obtain⟨o,es,ep,e,c⟩:=dS;exact⟨o,es,ep,mv _ _ wS e,c⟩
   have tu':∀ j kk x,vs[j]?=some (kk,x)->h'.IsTuple (ts j) #[keys j,x]:=fun j kk x e=>by
     obtain⟨o,e1,c⟩:=tu j kk x e;exact⟨o,mv _ _ (ok j kk x e).2.2 e1,c⟩
   obtain⟨ot,et,ct,nt,dt⟩:=tu' i kk x hv;have hT:Shared.TypeIs { s with heap:=h',toks:=tk } (.ref (ts i)) "tuple":=⟨_,et,ct⟩
   show wpAny _ A.in1 (holding [Value.ref (ts i)] _ >>= _) _ _ _;refine wpAny_bind (wpAny_holding (wpAny_bind (wpAny_tryCatch ?_)));unfold Builtin.Dict.pairItems;refine wpAny_bind (wpAny_typeOf hT ?_);rw[if_pos (by decide)];refine wpAny_bind (wpAny_seqItems (s:={ s with heap:=h',toks:=tk }) et dt (wpAny_pure ?_));show wpAny _ A.in1 (holding [keys i,x] (dictSet S (keys i) x)) _ _ _;refine wpAny_holding (wpAny_dictSet_pairs (s:={ s with heap:=h',toks:=tk }) hk dS' (fun h2 dS2 sb=>?_) ?_)
   · rw[← merged_take_succ [] vs i (kk,x) hv]at dS2;refine wpAny_pure ⟨plainId_quiet ZM _,?_⟩;refine ih (i+1) _ (by omega) lt (W.frame _ h' _ st' fun b mb o e=>?_) dS2 (fun j k2 x2 e=>?_) fun h3 tk3 mv3 dS3=>?_
     · rw[sb.2 b (fun z:b=S=>nS (by rw[← z];exact mb))];exact e
     · obtain⟨o,e1,c⟩:=tu' j k2 x2 e;exact⟨o,by rw[sb.2 _ (ok j k2 x2 e).2.1];exact e1,c⟩
     · refine fin h3 tk3 (fun b o b1 b2 e=>mv3 b o b1 b2 ?_) dS3;rw[sb.2 b b1];exact mv b o b2 e
   · have:=merged_length_le ([]:List (Key×Value)) (vs.take i)
     rw[List.length_take]at this;simp at this;omega
end
section
variable {prog:Program}{w:World}{A:Around}{E:Value->Shared->Prop}{s:Shared}
theorem qiv {l:Addr}{o:Obj}{items:Array Value}{nl:Nat}{vs:List (Key×Value)}{ts:Nat->Addr}{keys:Nat->Value}{Q:Value->Shared->Prop} (hh:A.handled=none) (hl:s.heap.get? l=some o) (hc:o.cls=.type "list") (hdat:o.data=.seq items nl) (hd:o.dict=none)
   (ln:vs.length=items.size) (hb:items.size≤sizeLine) (hI:∀ (i:Nat) v,items[i]?=some v->v=.ref (ts i)) (ok:∀ i k x,vs[i]?=some (k,x)->(qP prog w).is k (keys i)=true∧s.heap.IsTuple (ts i) #[keys i,x])
   (fin:∀ h' tk,(∀ b o,s.heap.get? b=some o->h'.get? b=some o)->h'.DictOf (qP prog w) s.heap.objs.size (merged [] vs)->Q (.ref s.heap.objs.size) { s with heap:=h',toks:=tk }) :
   wpAny (model prog w) A (call (.type "dict") [.ref l]) Q E s:=by
 refine callType_codes F.kt_called_dict (F.kt_typeCall_dict_1 (.ref l)) F.entry_dict_init (kt_code_dict_new (Q₁:=fun obj s₁=>obj=.ref s.heap.objs.size∧s₁={ s with heap:=s.heap.push { cls:=.type "dict",data:=.dict #[] } }) (.ref l) ⟨rfl,rfl⟩) fun obj s₁ a=>?_;obtain⟨rfl,rfl⟩:=a;have hnew:=Heap.DictOf.new (knd:=qP prog w) s.heap;refine⟨hnew.typeIs,F.args_dict_init_2 _ _,?_⟩;have hl':(s.heap.push { cls:=.type "dict",data:=.dict #[] }).get? l=some o:=Heap.get?_push_of_some _ hl;unfold Builtin.«dict.__init__» Builtin.Dict.selfAndRest;refine wpAny_bind ?_;show wpAny _ _ (_ >>= _) _ _ _;refine wpAny_bind (wpAny_notOrdered_dict hnew.typeIs ?_);show wpAny _ _ (pure (s.heap.objs.size,[Value.ref l])) _ _ _;refine wpAny_pure ?_;show wpAny _ _ (Builtin.Dict.updateFrom "dict.__init__" s.heap.objs.size (.ref l) [] .none) _ _ _;unfold Builtin.Dict.updateFrom;have hT:Shared.TypeIs { s with heap:=s.heap.push { cls:=.type "dict",data:=.dict #[] } } (.ref l) "list":=⟨o,hl',hc⟩
 refine wpAny_bind (wpAny_typeOf hT ?_);rw[if_pos (by decide)];refine wpAny_bind (qj0 (s:={ s with heap:=s.heap.push { cls:=.type "dict",data:=.dict #[] } }) hl' hc hdat hd (by simp[hh]) fun h1 tk1 kp=>?_);simp only[Option.isNone_none,if_true];have hlt:=Heap.lt_size hl;have hl1:h1.get? l=some o:=kp _ _ hl';have hL1:h1.IsList l items:=⟨o,hl1,hc,nl,hdat⟩
 refine wpAny_bind (wpAny_rule (wpAny_bind (wpAny_pyIter_list (s:={ s with heap:=h1,toks:=tk1 }) hL1 (wpAny_pure ⟨plainId_quiet ZM _,?_⟩))))
 have hS1:h1.DictOf (qP prog w) s.heap.objs.size []:=by
   obtain⟨ob,es,ep,e,c⟩:=hnew;exact⟨ob,es,ep,kp _ _ e,c⟩
 have hSlt:s.heap.objs.size < h1.objs.size:=by
   obtain⟨ob,es,ep,e,c⟩:=hS1;exact Heap.lt_size e
 have hl1t:l < h1.objs.size:=Heap.lt_size hl1;have hh3:A.in1.in1.handled=none:=by simp[hh]
 have nS:s.heap.objs.size∉[h1.objs.size,l]:=by
   simp only[List.mem_cons,List.mem_singleton,List.not_mem_nil,or_false,not_or];exact⟨Nat.ne_of_lt hSlt,Nat.ne_of_gt hlt⟩
 refine qkb (Walks.list hh3 h1.objs.size l (Nat.ne_of_lt hl1t) items) s.heap.objs.size nS vs ln hb ts keys (fun i v _ e=>hI i v e) (fun i k x e=>?_) (items.size - 0) 0 _ (by omega) (Nat.zero_le _) ⟨⟨_,Heap.get?_push_size _ rfl,rfl,rfl⟩,hL1.push _⟩ ?_ (fun j kk x e=>?_) fun h' tk mv dS=>?_
 · obtain⟨k1,ot,et,c⟩:=ok i k x e;have h2:=Heap.lt_size et;have h3:=Heap.lt_size (kp _ _ (Heap.get?_push_of_some _ et));exact⟨k1,Nat.ne_of_lt h2,by simp only[List.mem_singleton];exact Nat.ne_of_lt h3⟩
 · obtain⟨ob,es,ep,e,c⟩:=hS1;exact⟨ob,es,ep,Heap.get?_push_of_some _ e,c⟩
 · obtain⟨k1,ot,et,c⟩:=ok j kk x e;exact⟨ot,Heap.get?_push_of_some _ (kp _ _ (Heap.get?_push_of_some _ et)),c⟩
 · refine⟨rfl,fin h' tk (fun b ob e=>?_) dS⟩;have h2:=Heap.lt_size e;have e1:=kp _ _ (Heap.get?_push_of_some { cls:=.type "dict",data:=.dict #[] } e);exact mv b ob (Nat.ne_of_lt h2) (by simp only[List.mem_singleton];exact Nat.ne_of_lt (Heap.lt_size e1)) (Heap.get?_push_of_some _ e1)
end
section
inductive Prs (K:Frag) (H:Hp):List V->List (Key×V)->Prop
 | nil:Prs K H [] []
 | cons {t:Addr}{k:Key}{v:V}{zs:List V}{kvs:List (Key×V)} (h:SqT K H t [kV k,v]) (r:Prs K H zs kvs):Prs K H (.ref t::zs) ((k,v)::kvs)
theorem Prs.len {K:Frag}{H:Hp}{zs:List V}{kvs:List (Key×V)} (r:Prs K H zs kvs):zs.length=kvs.length:=by
 induction r with
 | nil=>rfl
 | cons _ _ ih=>rw[List.length_cons,List.length_cons,ih]
variable {X:Cx}{pins:List (Addr×Obj)}{σ:St}{H:Hp}{s:Shared}
theorem qhY (I:Inv X pins σ H s):∀ {zs:List V}{kvs:List (Key×V)}{its:List Value},Prs X.K H zs kvs->Vals zs its->∃ (vs:List (Key×Value)) (tk:List (Addr×Value)),KV kvs vs∧vs.length=its.length∧tk.length=its.length ∧
   (∀ (j:Nat) (a:Addr×Value),tk[j]?=some a->its[j]?=some (.ref a.1))∧∀ (j:Nat) (k:Key) (x:Value) (a:Addr×Value),vs[j]?=some (k,x)->tk[j]?=some a->(qP X.prog X.w).is k a.2=true∧s.heap.IsTuple a.1 #[a.2,x]:=by
 intro zs kvs its r
 induction r generalizing its with
 | nil =>
   intro v;cases v;exact⟨[],[],.nil,rfl,rfl,(fun j a e=>by cases e),fun j k x a e=>by cases e⟩
 | @cons t k v zs kvs h r ih =>
   intro hv
   cases hv with
   | @cons _ u _ us r1 hv =>
     cases (show u=Value.ref t from r1);obtain⟨vs,tk,c,l1,l2,q1,q2⟩:=ih hv;obtain⟨ts,tv,it,_⟩:=I.tuple h
     cases tv with
     | @cons _ key _ us2 rk tv =>
       cases tv with
       | @cons _ x _ us3 rx tv =>
         cases tv;refine⟨(k,x)::vs,(t,key)::tk,.cons ⟨rfl,rx⟩ c,by rw[List.length_cons,List.length_cons,l1],by rw[List.length_cons,List.length_cons,l2],fun j a e=>?_,fun j k' x' a e1 e2=>?_⟩
         · cases j with
           | zero=>cases e;rfl
           | succ j=>exact q1 j a e
         · cases j with
           | zero=>cases e1;cases e2;exact⟨qfr rk,it⟩
           | succ j=>exact q2 j k' x' a e1 e2
def qiX (K:Frag):List V->Hp->VK->Prop:=fun xs H Q=>∃ (l:Addr) (zs:List V) (kvs:List (Key×V)),xs=[V.ref l]∧SqL K H l zs∧Prs K H zs kvs∧(kvs.map (·.1)).Nodup∧∀ d,H d=none->Q (.ref d) (upd H d (.dK kvs))
theorem qfu (hc:X.calm=true):CallR X (.type "dict") (qiX X.K):=by
 intro pins s σ H xs us Q I r h;obtain⟨l,zs,kvs,rfl,hl,pr,nd,q⟩:=h;obtain⟨u,rfl,ru⟩:=j5 r;cases ru;obtain⟨its,rv,⟨o,nl,e1,e2,e3,e4⟩,hz⟩:=I.list hl;obtain⟨vs,tk,kv,l1,l2,q1,q2⟩:=qhY I pr rv;have hlen:=rv.length;have gd:∀ j,j < its.length->∃ a,tk[j]?=some a:=fun j hj=>⟨_,List.getElem?_eq_getElem (by omega)⟩
 have ek:vs.map (·.1)=kvs.map (·.1):=by
   clear q1 q2 l1 nd q pr
   induction kv with
   | nil=>rfl
   | cons h _ ih =>
     rw[List.map_cons,List.map_cons,ih,h.1]
 refine qiv (ts:=fun j=>(tk.getD j (0,.none)).1) (keys:=fun j=>(tk.getD j (0,.none)).2) (vs:=vs) (I.ok.hd hc) e1 e2 e4 e3 (by rw[l1,List.size_toArray]) (by rw[List.size_toArray];omega) (fun j v e=>?_) (fun j k x e=>?_) fun h' tk' kp dS=>?_
 · have e:its[j]?=some v:=by simpa using e
   obtain⟨a,ha⟩:=gd j (List.getElem?_eq_some_iff.mp e).1
   have:=q1 j a ha
   rw[List.getD_eq_getElem?_getD,ha];rw[this]at e;cases e;rfl
 · obtain⟨a,ha⟩:=gd j (by rw[← l1];exact(List.getElem?_eq_some_iff.mp e).1)
   have:=q2 j k x a e ha
   simp only[List.getD_eq_getElem?_getD,ha];exact this
 · rw[merged_nil_of_nodup vs (by rw[ek];exact nd)]at dS;refine⟨.ref s.heap.objs.size,_,I.laid (t':=tk') kp (Nat.le_refl _) (show ObjOk X.prog X.w _ h' _ (.dK kvs) from ⟨by rw[← pr.len];exact hz,?_,vs,kv,dS⟩),rfl,q _ (I.hok.fresh (Nat.le_refl _))⟩
   have:=I.big
   exact beq_eq_false_iff_ne.mpr (Nat.ne_of_gt this)
end
section
variable {X:Cx}
def qiY:List V->Hp->VK->Prop:=fun xs H Q=>∃ a kvs,xs=[V.ref a]∧Rd H a (.dK kvs)∧∀ d,H d=none->Q (.ref d) (upd H d (.dK kvs))
theorem qfv:CallR X (.type "dict") qiY:=by
 intro pins s σ H xs us Q I r h;obtain⟨a,kvs,rfl,hq,q⟩:=h;obtain⟨u,rfl,ru⟩:=j5 r;cases ru;obtain⟨hz,hS,vs,rel,D⟩:=qdz I.hok hq;refine kt_call_dict hS D (by rw[qaU rel];exact hz) fun h' dS sb=>?_;have kp:∀ b o,s.heap.get? b=some o->h'.get? b=some o:=fun b o e=>by rw[sb.2 b (Nat.ne_of_lt (Heap.lt_size e))];exact Heap.get?_push_of_some _ e
 refine⟨.ref s.heap.objs.size,_,I.laid (t':=s.toks) kp (Nat.le_refl _) (show ObjOk X.prog X.w _ h' _ (.dK kvs) from ⟨hz,?_,vs,rel,dS⟩),rfl,q _ (I.hok.fresh (Nat.le_refl _))⟩
 have:=I.big
 exact beq_eq_false_iff_ne.mpr (Nat.ne_of_gt this)
end
end L2
namespace L2
open PySem PySem.Spec PyProof.Rows
open PySem.W (Frag tabObj kla_obj)
def qhD (mg:Str->Option Value) (base:Heap):Prop:=∃ bm o,mg "__builtins__"=some (.ref bm)∧bm≠builtinsNs∧base.get? bm=some o∧o.cls=.type "module"∧o.dict=some builtinsNs∧o.data=.plain
def qkk (ts:List Addr) (H:Hp):Prop:=∀ b,H b=none∨(∃ o xs,H b=some (.frz o (.lst xs)))∨(b∈ts∧H b=some (.tbl #[]))
theorem qgO {P:Program}{w:World}{K:Frag}{mg mb:Str->Option Value}{CX:CXT}{k:Nat}{fa a:Addr}{fd:FuncData}{x:Str}{sp:Sp}{s₁:Shared}{vs:List Value}{ns:List Int}{ts:List Addr}
   (KX:K.In s₁.heap) (hns:s₁.heap.Ns mainGlobals mg) (hb:s₁.heap.Ns builtinsNs mb) (hbb:∀ x:Str,x≠"__name__"->mb x=bootBuiltins x) (hlim:s₁.heap.NoLimit) (hg:s₁.gens=#[])
   (ht:∀ t∈ts,s₁.heap.get? t=some (tabObj #[])) (hc:∀ t∈ts,isCodeTable s₁.heap t) (hk:∀ t∈ts,K.lookup t=none)
   (hB:qhD mg s₁.heap) (ha:s₁.heap.get? a=some { cls:=.type "list",data:=.seq vs.toArray }) (hi:IntsAre vs ns) (hl:ns.length≤sizeLine) (hr:Room k callerA)
   (F:∀ base:Heap,K.In base->base.Ns mainGlobals mg->qhD mg base->qD P w K mg base CX k fa fd [x] sp) (hbind:∀ (s:Shared) (u:Value),BindsTo s fd ⟨[u],[]⟩ [(x,u)])
   (hsp:∀ H:Hp,qkk ts H->(∀ t∈ts,H t=some (.tbl #[]))->SqL K H a (ns.map V.int)->sp [.ref a] H (fun v _=>v=.bl true) fun _ _ _=>False)
   (hCX:∀ H e s',CX [] H s₁ (fun _ _ _=>False) e s'->False) :
   codeAny (model P w) callerA (.call (.ref fa) ⟨[.ref a],[]⟩) (fun r s'=>r=.ok (.ret (.bool true))∧OldK s₁.heap s'.heap∧s'.os=s₁.os∧AllBare s'.gens) s₁:=by
 have rv:=qcF hi;have lenV:=hi.length
 have nat:a∉ts:=fun m=>by
   have:=ht a m
   rw[ha]at this;cases this
 have core:∀ H:Hp,qkk ts H->(∀ t∈ts,H t=some (.tbl #[]))->SqL K H a (ns.map V.int)->HOk P w H s₁.heap->(∀ b,H b≠none->b=a∨b∈ts)->(H a≠none->K.lookup a=none) ->
     codeAny (model P w) callerA (.call (.ref fa) ⟨[.ref a],[]⟩) (fun r s'=>r=.ok (.ret (.bool true))∧OldK s₁.heap s'.heap∧s'.os=s₁.os∧AllBare s'.gens) s₁:=by
   intro H hO hT hS hok hA hK;have base_of:∀ {b:Addr}{o:Obj},s₁.heap.get? b=some o->H b=none->(qhB s₁.heap H).get? b=some o:=fun e n=>qin e n
   have noA:∀ {b:Addr}{o:Obj}{es:Array DictEntry}{ep:Nat},s₁.heap.get? b=some o->o.data=.dict es ep->H b=none:=fun {b o es ep} e d=>by
     cases q:H b with
     | none=>rfl
     | some u =>
       rcases hA b (by rw[q];simp) with rfl|m
       · rw[ha]at e;cases e;cases d
       · rw[ht b m]at e;cases e;cases d
   have nsK:∀ {b:Addr}{m:Str->Option Value},s₁.heap.Ns b m->(qhB s₁.heap H).Ns b m:=fun {b m} ⟨o,es,ep,e,d,r⟩=>⟨o,es,ep,base_of e (noA e d),d,r⟩
   have hKb:K.In (qhB s₁.heap H):=fun b o e=>base_of (KX b o e) (by
     cases q:H b with
     | none=>rfl
     | some u =>
       rcases hA b (by rw[q];simp) with z|m
       · subst z;rw[hK (by rw[q];simp)]at e;cases e
       · rw[hk b m]at e;cases e)
   have hBb:qhD mg (qhB s₁.heap H):=by
     obtain⟨bm,o,b1,b2,b3,b4,b5,b6⟩:=hB;refine⟨bm,o,b1,b2,base_of b3 ?_,b4,b5,b6⟩
     cases q:H bm with
     | none=>rfl
     | some u =>
       rcases hA bm (by rw[q];simp) with z|m
       · rw[z,ha]at b3;cases b3;cases b6
       · rw[ht bm m]at b3;cases b3;cases b6
   have hM:Mod K mg (qhB s₁.heap H):=⟨hKb,nsK hns,⟨mb,nsK hb,hbb⟩,let ⟨mc,h1,h2⟩:=hlim;⟨mc,nsK h1,h2⟩⟩
   have e0:Env0 P w K mg (qhB s₁.heap H) callerA [] s₁ H:=⟨rfl,hM,fun b o e=>qjX e,Nat.le_of_eq (qg1 _ _),trivial,fun b hb=>absurd (show b∈([]:List Addr) from hb) (by simp),hok,.of_eq hg⟩
   refine codeAny_mono ((F _ hKb (nsK hns) hBb).run callerA [] s₁ H ⟨[.ref a],[]⟩ [.ref a] [.ref a] _ _ hr e0 (hbind s₁ (.ref a)) (.cons rfl .nil) (hsp H hO hT hS)) fun r s' h=>?_
   cases r with
   | error e=>exact(hCX H e s' h).elim
   | ok fl =>
     cases fl with
     | next=>exact False.elim h
     | brk=>exact False.elim h
     | cont=>exact False.elim h
     | ret u =>
       obtain⟨v,H',os,bare,un,hok',r',q⟩:=h;have q':v=.bl true:=q;subst q';obtain rfl:u=Value.bool true:=r'
       have grown:∀ t∈ts,∃ more,s'.heap.get? t=some (tabObj more):=fun t m=>by
         obtain⟨more,z⟩:=un.tbls t #[] (hT t m);exact⟨_,(show ObjOk P w H' s'.heap t (.tbl (#[]++more)) from hok' t _ z)⟩
       have keep:∀ b o,b∉ts->s₁.heap.get? b=some o->s'.heap.get? b=some o:=fun b o nm e=>by
         rcases hO b with z|⟨ob,xs,z⟩|⟨m,_⟩
         · exact un.keep b o e z (by intro z;exact absurd (show b∈([]:List Addr) from z) (by simp)) (by simp)
         · have z2:=un.frzs b ob _ z;obtain⟨e1,_⟩:=hok b _ z;obtain⟨e2,_⟩:=hok' b _ z2;rw[e]at e1;cases e1;exact e2
         · exact absurd m nm
       refine⟨rfl,⟨fun b o e=>?_,fun b o e=>?_⟩,os,bare⟩
       · by_cases m:b∈ts
         · obtain⟨ps,g⟩:=grown b m;have e':=ht b m;rw[e]at e';cases e';exact .inr (.inl ⟨hc b m,rfl,#[],ps,rfl,by rw[Array.empty_append];exact g⟩)
         · exact .inl (keep b o m e)
       · by_cases m:b∈ts
         · obtain⟨ps,g⟩:=grown b m;exact⟨_,g⟩
         · exact⟨o,keep b o m e⟩
 cases hka:K.lookup a with
 | some o =>
   have e:=KX a o hka;rw[ha]at e;cases e;refine core (fun b=>if b∈ts then some (.tbl #[]) else none) (fun b=>?_) (fun t m=>if_pos m) (.inr ⟨_,vs.toArray,_,hka,rfl,rfl,rfl,by rw[List.size_toArray,lenV];exact hl,by simpa using rv⟩) (fun b u z=>?_) (fun b z=>?_) fun z=>absurd (if_neg nat) z
   · by_cases m:b∈ts
     · exact .inr (.inr ⟨m,if_pos m⟩)
     · exact .inl (if_neg m)
   · by_cases m:b∈ts
     · have z':=(if_pos m).symm.trans z;cases z';exact ht b m
     · have z':=(if_neg m).symm.trans z;cases z'
   · by_cases m:b∈ts
     · exact .inr m
     · exact absurd (if_neg m) z
 | none =>
   refine core (fun b=>if b=a then some (.frz { cls:=.type "list",data:=.seq vs.toArray } (.lst (ns.map V.int))) else if b∈ts then some (.tbl #[]) else none) (fun b=>?_) (fun t m=>?_) (.inl (.inr ⟨{ cls:=.type "list",data:=.seq vs.toArray },if_pos rfl⟩)) (fun b u z=>?_) (fun b z=>?_) fun _=>hka
   · by_cases hb:b=a
     · exact .inr (.inl ⟨_,_,if_pos hb⟩)
     · by_cases m:b∈ts
       · exact .inr (.inr ⟨m,(if_neg hb).trans (if_pos m)⟩)
       · exact .inl ((if_neg hb).trans (if_neg m))
   · have hb:t≠a:=fun z=>nat (z▸m);exact(if_neg hb).trans (if_pos m)
   · by_cases hb:b=a
     · have z':=(if_pos hb).symm.trans z;cases z';subst hb;exact⟨ha,by rw[List.length_map];exact hl,vs,_,rv,ha⟩
     · by_cases m:b∈ts
       · have z':=((if_neg hb).trans (if_pos m)).symm.trans z;cases z';exact ht b m
       · have z':=((if_neg hb).trans (if_neg m)).symm.trans z;cases z'
   · by_cases hb:b=a
     · exact .inl hb
     · by_cases m:b∈ts
       · exact .inr m
       · exact absurd ((if_neg hb).trans (if_neg m)) z
theorem walk_ofT {l:PySem.W.OpenLaw}{n k:Nat}{q:Program}{loose:List Str}{XP:(Str->Option Value)->Heap->Prop}{YP:World->Heap->Prop}{d:DefRec}{K:Params->Frag}{CX:World->CXT}{sp:World->Sp}{x:Str}{ts:List Addr}
   (hn:l.most=some n) (hn2:n≤sizeLine) (hdf:d.params.defaults=[]) (hr:Room k callerA)
   (hY:∀ (w:World) (h:Heap),YP w h->(K w.params).In h∧(∀ t∈ts,h.get? t=some (tabObj #[]))∧(∀ t∈ts,isCodeTable h t)∧∀ t∈ts,(K w.params).lookup t=none)
   (F:∀ (w:World) (mg:Str->Option Value) (fa:Addr) (h:Heap),(K w.params).In h->h.Ns mainGlobals mg->mg d.name=some (.ref fa) ->
     ∃ fd:FuncData,(∀ (s:Shared) (u:Value),BindsTo s fd ⟨[u],[]⟩ [(x,u)]) ∧
       ∀ base:Heap,(K w.params).In base->base.Ns mainGlobals mg->qhD mg base->qD l.prog w (K w.params) mg base (CX w) k fa fd [x] (sp w))
   (hsp:∀ (w:World) (H:Hp) (a:Addr) (ns:List Int),ns.length≤n->qkk ts H->(∀ t∈ts,H t=some (.tbl #[]))->SqL (K w.params) H a (ns.map V.int)->sp w [.ref a] H (fun v _=>v=.bl true) fun _ _ _=>False)
   (hCX:∀ (w:World) (H:Hp) (s:Shared) (e:Value) (s':Shared),CX w [] H s (fun _ _ _=>False) e s'->False) :
   PySem.W.WalkO q loose XP YP l.row.toRowW d [] (fun f vs=>PySem.call f vs):=by
 refine Att.attach_call hn hdf fun w s₀ s₁ mg mb fa o pm cd doc a vs ns G Y ho hd hcd hmg hobj hints hlen hg=>?_;obtain⟨KX,h1,h2,h3⟩:=hY w _ Y;obtain⟨fd,hb,hF⟩:=F w mg fa _ KX G.T.g hmg;exact qgO KX G.T.g G.T.b G.T.builtins G.T.nolimit hg h1 h2 h3 (let ⟨bm,ob,b1,b2,b3,b4,b5,b6⟩:=G.T.bmain;⟨bm,ob,b1,b2,b3,b4,b5,b6⟩) hobj hints (Nat.le_trans hlen hn2) hr hF hb (fun H hO hT hS=>hsp w H a ns hlen hO hT hS) fun H e s'=>hCX w H s₁ e s'
def qa9 (c:Addr) (q:Str):Heap->Prop:=fun h=>h.CodeRec (.ref c) q
def qe6 (f:Addr) (o:Obj):Heap->Prop:=fun h=>h.get? f=some o
section
variable {P:Program}{w:World}{H:Hp}{h:Heap}{c f:Addr}{q:Str}{o:Obj}
theorem qiB (x:qa9 c q h):ObjOk P w H h c (.ext (qa9 c q)):=by
 obtain⟨c',o,vs,t,e,g,r⟩:=id x;cases e;exact⟨x,⟨o,g⟩,fun h1 h2 ⟨c',o',vs',t',e',g',r'⟩ k=>by cases e';exact⟨c,o',vs',t',rfl,k _ g',r'⟩⟩
theorem qgA (x:qe6 f o h):ObjOk P w H h f (.ext (qe6 f o)):=⟨x,⟨o,x⟩,fun _ _ e k=>k _ e⟩
end
def qlE (H:Hp) (T:Addr) (pos:Pos) (q:Str):Prop :=
 ∃ ps,H T=some (.tbl ps)∧TriplesOk ps.toList∧(codeAmong pos ps.toList=none∨∃ c,codeAmong pos ps.toList=some (.ref c)∧H c=some (.ext (qa9 c q)))
theorem Jn {i j:Int}{a b:Tok}{c:Value}:∀ {l:List Value},TriplesOk l->TriplesOk (l++[.int i a,.int j b,c])
 | [],_=>True.intro
 | .int _ _::.int _ _::_::r,h=>Jn (l:=r) h
section
variable {X:Cx}{pins:List (Addr×Obj)}{σ:St}{H:Hp}{s:Shared}{h':Heap}
theorem Inv.lam {T c':Addr}{ps:Array Value}{more:Array Value}{q:Str}{t':Nat} (I:Inv X pins σ H s) (hT:H T=some (.tbl ps)) (hx:Heap.ExtBut T s.heap h') (c0:s.heap.objs.size≤c') (c1:c' < h'.objs.size) (hr:h'.CodeRec (.ref c') q)
   (ht:h'.get? T=some (tabObj (ps++more))) (fo:Obj) (hfo:fo.isFreed=false) :
   Inv X pins σ (upd (upd (upd H T (.tbl (ps++more))) c' (.ext (qa9 c' q))) h'.objs.size (.ext (qe6 h'.objs.size fo))) { s with heap:=h'.push fo,toks:=t' }:=by
 have Tlt:T < s.heap.objs.size:=I.hok.lt hT;have nTc:T≠c':=Nat.ne_of_lt (Nat.lt_of_lt_of_le Tlt c0);have Tf:T < h'.objs.size:=Heap.lt_size ht;have nTf:T≠h'.objs.size:=Nat.ne_of_lt Tf;have ncf:c'≠h'.objs.size:=Nat.ne_of_lt c1;have hcn:H c'=none:=I.hok.fresh c0;have sle:s.heap.objs.size≤h'.objs.size:=Nat.le_trans c0 (Nat.le_of_lt c1);have hfn:H h'.objs.size=none:=I.hok.fresh sle;have oth:∀ b,b≠T->b≠c'->b≠h'.objs.size->upd (upd (upd H T (.tbl (ps++more))) c' (.ext (qa9 c' q))) h'.objs.size (.ext (qe6 h'.objs.size fo)) b=H b:=fun b n1 n2 n3=>by rw[qj n3,qj n2,qj n1]
 have kp:∀ b o,b≠T->s.heap.get? b=some o->(h'.push fo).get? b=some o:=fun b o n e=>Heap.get?_push_of_some _ (hx b o n e);have nT:∀ {b u},H b=some u->u≠.tbl ps->b≠T:=fun e n z=>by rw[z,hT]at e;exact n (Option.some.inj e).symm
 have nc:∀ {b u},H b=some u->b≠c':=fun e z=>by rw[z,hcn]at e;cases e
 have nf:∀ {b u},H b=some u->b≠h'.objs.size:=fun e z=>by rw[z,hfn]at e;cases e
 have same:∀ {b u},H b=some u->u≠.tbl ps->upd (upd (upd H T (.tbl (ps++more))) c' (.ext (qa9 c' q))) h'.objs.size (.ext (qe6 h'.objs.size fo)) b=some u:=fun e n=>by rw[oth _ (nT e n) (nc e) (nf e)];exact e
 refine I.un ⟨fun b o e n _ _=>kp b o (fun z=>by rw[z,hT]at n;cases n) e,fun b o e n _ _=>⟨o.slots,kp b o (fun z=>by rw[z,hT]at n;cases n) e⟩,fun b o e n _=>?_,fun b o e _=>?_,fun b xs e=>same e (by intro z;cases z),fun b o u e=>same e (by intro z;cases z),fun b qs e=>?_⟩ fun b u e=>?_
 · have lt:=Heap.lt_size e;rw[oth b (fun z=>by rw[z,hT]at n;cases n) (Nat.ne_of_lt (Nat.lt_of_lt_of_le lt c0)) (Nat.ne_of_lt (Nat.lt_of_lt_of_le lt sle))];exact n
 · by_cases z:b=T
   · subst z;exact⟨_,Heap.get?_push_of_some _ ht⟩
   · exact⟨o,kp b o z e⟩
 · by_cases z:b=T
   · subst z;rw[hT]at e;cases e;exact⟨more,by rw[qj nTf,qj nTc,qc]⟩
   · rw[oth b z (nc e) (nf e)];exact⟨#[],by rw[e];simp⟩
 · by_cases z3:b=h'.objs.size
   · subst z3;rw[qc]at e;cases e;exact qgA (Heap.get?_push_size _ hfo)
   · rw[qj z3]at e;by_cases z2:b=c'
     · subst z2;rw[qc]at e;cases e;exact qiB (hr.push fo)
     · rw[qj z2]at e;by_cases z1:b=T
       · subst z1;rw[qc]at e;cases e;exact Heap.get?_push_of_some _ ht
       · rw[qj z1]at e;refine(I.hok b u e).stay (fun c v hc g=>kp c v (fun z=>?_) g) (fun c r=>same r (by intro z;cases z)) fun c xs r=>same r (by intro z;cases z);rcases hc with hc|hc
         · exact z1 (hc▸z)
         · rw[z,hT]at hc;cases hc
def qkl (X:Cx) (params:Arguments) (body:Expr) (scope:Scope) (c:Addr) (o:Obj):Prop :=
 ∃ pm ctv,o=kla_obj "<lambda>" (X.env.qual++"<lambda>") params body scope (z9 X.env.cells scope.names []) pm c ctv
def qmX (X:Cx) (T:Addr) (pos:Pos) (params:Arguments) (body:Expr) (scope:Scope):TE:=fun σ H Q=>qlE H T pos (X.env.qual++"<lambda>") ∧
 ∀ (f c:Addr) (o:Obj) (H':Hp),H f=none->f≠T->But T H H'->qlE H' T pos (X.env.qual++"<lambda>")->H' f=some (.ext (qe6 f o))->H' c=some (.ext (qa9 c (X.env.qual++"<lambda>")))->qkl X params body scope c o->Q (.ref f) H'
theorem qk0 {params:Arguments}{body:Expr}{scope:Scope}{pos:Pos}{c T:Addr} (hdef:defaultsOf params X.env=([],[])) (hfree:∀ y∈scope.names,y.2=.free->∃ c,X.env.cells.lookup y.1=some c) (hcode:X.env.code=.ref c)
   (hcd:PySem.W.codeHdIn X.K c T=true) (hbm:qhD X.mg X.base):PE X (.Lambda params body scope pos) (qmX X T pos params body scope):=by
 intro pins s σ H Q I h;obtain⟨⟨ps,hT,tr,hc⟩,h⟩:=h;have tb:s.heap.get? T=some (tabObj ps):=(show ObjOk X.prog X.w H s.heap T (.tbl ps) from I.hok T _ hT)
 have hg:s.heap.Ns mainGlobals X.mg:=I.mod.glob.keeps I.bk;have CH:=PySem.W.codeHd_of_K I.kIn hcd;obtain⟨bm,ob,b1,b2,b4,b5,b6,b7⟩:=hbm;have hbo:=I.bk bm ob b4
 have b3:bm≠mainGlobals:=fun z=>by
   obtain⟨o,es,ep,e,d,_⟩:=hg;rw[← z,hbo]at e;cases e;rw[b7]at d;cases d
 have nbT:bm≠T:=fun z=>by rw[z,tb]at hbo;cases hbo;cases b5
 have ngT:mainGlobals≠T:=fun z=>by
   obtain⟨o,es,ep,e,d,_⟩:=hg;rw[z,tb]at e;cases e;cases d
 have BA:s.heap.BuiltinsAt X.mg T:=⟨bm,ob,b1,b2,b3,nbT,hbo,b5,b6,b7⟩
 refine PySem.W.kla_eval hdef ?_;rcases hc with hn|⟨c',hc,hc'⟩
 · refine PySem.W.kla_makeFunction (clos:=z9 X.env.cells scope.names []) (Jm hfree) I.ok.glob hg hcode CH tb tr hn ngT BA fun c' ctv h' tk hx hge hlt hrec htb=>?_;have Tlt:T < s.heap.objs.size:=I.hok.lt hT;have hfn:H h'.objs.size=none:=I.hok.fresh (Nat.le_trans hge (Nat.le_of_lt hlt));have hcn:H c'=none:=I.hok.fresh hge;have ncf:c'≠h'.objs.size:=Nat.ne_of_lt hlt;have nTf:T≠h'.objs.size:=Nat.ne_of_lt (Nat.lt_of_lt_of_le Tlt (Nat.le_trans hge (Nat.le_of_lt hlt)));have nTc:T≠c':=Nat.ne_of_lt (Nat.lt_of_lt_of_le Tlt hge);have J:=I.lam (t':=tk) hT hx hge hlt hrec htb (kla_obj "<lambda>" (X.env.qual++"<lambda>") params body scope (z9 X.env.cells scope.names []) ((X.mg "__name__").getD .none) c' ctv) rfl;refine⟨.ref h'.objs.size,_,J,rfl,h _ c' _ _ hfn (Ne.symm nTf) (fun b o e n=>?_) ⟨_,by rw[qj nTf,qj nTc,qc],?_,.inr ⟨c',?_,by rw[qj ncf,qc]⟩⟩ qc (by rw[qj ncf,qc]) ⟨_,_,rfl⟩⟩
   · rw[qj (qi e hfn),qj (qi e hcn),qj n];exact e
   · rw[Array.toList_append];exact Jn tr
   · rw[Array.toList_append];exact codeAmong_snoc _ tr hn
 · refine PySem.W.kla_makeFunctionHit (clos:=z9 X.env.cells scope.names []) (Jm hfree) I.ok.glob hg hcode CH tb tr hc BA fun ctv h' tk hk hsz=>?_;have hfn:H h'.objs.size=none:=I.hok.fresh hsz;have S:=Same.new (.ext (qe6 h'.objs.size (kla_obj "<lambda>" (X.env.qual++"<lambda>") params body scope (z9 X.env.cells scope.names []) ((X.mg "__name__").getD .none) c' ctv))) hfn;refine⟨.ref h'.objs.size,_,I.laid (t':=tk) (fun b o e=>Heap.get?_push_of_some _ (hk b o e)) hsz (qgA (Heap.get?_push_size _ rfl)),rfl,h _ c' _ _ hfn (qi hT hfn).symm (fun b o e _=>S b o e) ⟨ps,S _ _ hT,tr,.inr ⟨c',hc,S _ _ hc'⟩⟩ qc (S _ _ hc') ⟨_,_,rfl⟩⟩
end
section
variable {X:Cx}{pins:List (Addr×Obj)}{σ:List (Option V)}{H:Hp}{s:Shared}{h':Heap}
theorem Inv.keptL {t':Nat} (I:Inv X pins σ H s) (k:∀ b u,b≠X.env.locals->s.heap.get? b=some u->h'.get? b=some u) (ns:∀ m,s.heap.Ns X.env.locals m->h'.Ns X.env.locals m) :
   Inv X pins σ H { s with heap:=h',toks:=t' }:=by
 have nL:∀ b u,H b=some u->b≠X.env.locals:=fun b u e z=>by rw[z,I.free]at e;cases e
 refine I.step (g':=s.gens) (d':=s.drawn) (ch:=[]) (fun _ z=>nomatch z) (fun b o hb _ _ e _=>k b o hb e) (fun b o hb _ _ e _=>⟨o.slots,k b o hb e⟩) (fun b o _ e n=>n) (fun b o _ e=>?_)
   (fun b xs q=>q) (fun b u xs q=>q) (fun b ps q=>⟨#[],by rw[q];simp⟩) ns (fun b u e=>?_) I.bare
 · by_cases z:b=X.env.locals
   · obtain⟨m,hm,_⟩:=I.loc;obtain⟨o',_,_,ho',_⟩:=ns m hm;exact⟨o',by rw[z];exact ho'⟩
   · exact⟨o,k b o z e⟩
 · refine(I.hok b u e).stay (fun c v hc q=>k c v ?_ q) (fun c q=>q) fun c xs q=>q;rcases hc with z|z
   · rw[z];exact nL b u e
   · exact nL c _ z
theorem Inv.keptN {t':Nat}{m:Str->Option Value} (I:Inv X pins σ H s) (F:Fr X.base X.env.locals s.heap m) (F':Fr X.base X.env.locals h' m) (N':News X.base X.env.locals h' (qdH X.base s.heap X.env.locals)) :
   Inv X pins σ H { s with heap:=h',toks:=t' }:=by
 refine I.keptL (fun b u ne q=>?_) fun m' hm=>?_
 · cases z:X.base.get? b with
   | some o =>
     have:=I.bk b o z
     rw[q]at this;cases this;exact F'.keep b _ z
   | none=>exact(N' _ (jZ q ne z)).1
 · rw[qi4 hm F.ns];exact F'.ns
inductive qgc (K:Frag) (xs:List V) (H:Hp) (Q:VK):Prop
 | mk (l:Addr) (ns:List Int) (h1:xs=[.ref l]) (h2:SqL K H l (ns.map V.int)) (h3:Q (.int ns.sum) H):qgc K xs H Q
def qkN (K:Frag):List V->Hp->VK->Prop:=fun xs H Q=>qgc K xs H Q
theorem qhi (hc:X.calm=true):CallR X (.builtin "sum") (qkN X.K):=by
 intro pins s σ H xs us Q I r h;obtain⟨l,ns,rfl,hq,q⟩:=h;obtain⟨u,rfl,ru⟩:=j5 r;cases (show u=Value.ref l from ru);obtain⟨its,rv,p,hz⟩:=I.list hq;obtain⟨m,F⟩:=I.fr;exact LSm.sum_ints F (qb3 X.base s.heap X.env.locals) (I.ok.hd hc) p.isList (qeN rv) fun h' tk t' F' N'=>⟨.int ns.sum,H,I.keptN F F' N',⟨t',rfl⟩,q⟩
end
end L2
namespace SetO
open PySem
end SetO
set_option maxHeartbeats 8000000
namespace L2
open PySem PySem.Spec PyProof.Rows
open PySem.W (Frag fnOf envX)
def qbu (c:Addr) (v:V):Heap->Prop:=fun h=>∃ u,RelV v u∧h.IsCell c (some u)
def backL (H:Hp) (cs:List Addr) (H2:Hp):Hp:=fun b=>if b∈cs then H b else H2 b
theorem Qp {H H2:Hp}{cs:List Addr}{b:Addr} (h:b∉cs):backL H cs H2 b=H2 b:=by unfold backL;rw[if_neg h]
theorem qe3 {H H2:Hp}{cs:List Addr}{b:Addr} (h:b∈cs):backL H cs H2 b=H b:=by unfold backL;rw[if_pos h]
theorem qhr {H:Hp}{cs:List Addr}:backL H cs (cut H cs)=H:=by
 funext b;by_cases z:b∈cs
 · rw[qe3 z]
 · rw[Qp z,qa4 z]
section
variable {P:Program}{w:World}{H H2:Hp}{h h':Heap}{cs:List Addr}{c:Addr}{v:V}
theorem qiC (x:qbu c v h):ObjOk P w H h c (.ext (qbu c v)):=by
 obtain⟨u,r,o,e,d⟩:=id x;exact⟨x,⟨o,e⟩,fun h1 h2 ⟨u,r,o,e,d⟩ k=>⟨u,r,o,k _ e,d⟩⟩
theorem HOk.cutL (ok:HOk P w H h) (e:∀ c∈cs,∃ φ,H c=some (.ext φ)):HOk P w (cut H cs) h:=fun b u q=>by
 have nb:b∉cs:=fun z=>by rw[qeZ z]at q;cases q
 have out:∀ c v,H c=some v->(∀ φ,v≠.ext φ)->cut H cs c=some v:=fun c v r nv=>by
   rw[qa4 fun z=>by obtain⟨φ,e⟩:=e c z;rw[e]at r;exact nv φ (Option.some.inj r).symm];exact r
 rw[qa4 nb]at q;exact(ok b u q).stay (fun _ _ _ z=>z) (fun c r=>out c _ r (by intro φ z;cases z)) fun c xs r=>out c _ r (by intro φ z;cases z)
theorem HOk.backL (ok:HOk P w H h) (e:∀ c∈cs,∃ φ,H c=some (.ext φ)) (ok2:HOk P w H2 h') (n2:∀ c∈cs,H2 c=none) (k:∀ c∈cs,∀ o,h.get? c=some o->h'.get? c=some o):HOk P w (backL H cs H2) h':=fun b u q=>by
 by_cases z:b∈cs
 · obtain⟨φ,e⟩:=e b z;rw[qe3 z,e]at q;cases q;obtain⟨f,⟨o,g⟩,st⟩:=(show ObjOk P w H h b (.ext φ) from ok b _ e)
   exact⟨st h h' f (k b z),⟨o,k b z o g⟩,st⟩
 · rw[Qp z]at q;have out:∀ c v,H2 c=some v->L2.backL H cs H2 c=some v:=fun c v r=>by rw[Qp fun z=>by rw[n2 c z]at r;cases r];exact r
   exact(ok2 b u q).stay (fun _ _ _ z=>z) (fun c r=>out c _ r) fun c xs r=>out c _ r
end
inductive Clo (H:Hp) (f:Addr) (qual:Str) (params:Arguments) (body:Expr) (scope:Scope) (fv:List (Str×V)):Prop
 | mk (cl:List (Str×Addr)) (c:Addr) (pm ctv:Value) (hf:H f=some (.ext (qe6 f (PySem.W.kla_obj "<lambda>" qual params body scope cl pm c ctv)))) (hc:H c=some (.ext (qa9 c qual)))
     (cells:∀ x d,cl.lookup x=some d->∃ v,fv.lookup x=some v∧H d=some (.ext (qbu d v))) (all:∀ x v,fv.lookup x=some v->∃ d,cl.lookup x=some d) (inj:∀ x y d,cl.lookup x=some d->cl.lookup y=some d->x=y):Clo H f qual params body scope fv
theorem Clo.mp {H H':Hp}{f:Addr}{qual:Str}{params:Arguments}{body:Expr}{scope:Scope}{fv:List (Str×V)} (h:Clo H f qual params body scope fv) (k:∀ b φ,H b=some (.ext φ)->H' b=some (.ext φ)):Clo H' f qual params body scope fv:=by
 obtain⟨cl,c,pm,ctv,hf,hc,cells,all,inj⟩:=h;exact⟨cl,c,pm,ctv,k _ _ hf,k _ _ hc,fun x d e=>let ⟨v,e1,e2⟩:=cells x d e;⟨v,e1,k _ _ e2⟩,all,inj⟩
theorem Clo.same {H H':Hp}{f:Addr}{qual:Str}{params:Arguments}{body:Expr}{scope:Scope}{fv:List (Str×V)} (h:Clo H f qual params body scope fv) (s:Same H H'):Clo H' f qual params body scope fv:=h.mp fun b φ e=>s _ _ e
def cxC (P:Program) (w:World) (K:Frag) (mg:Str->Option Value) (base:Heap) (N:List Str) (qual:Str) (scope:Scope) (f c:Addr) (cl:List (Str×Addr)) (A:Around) (outer:List Env) (s:Shared) (H:Hp):Cx where
 prog:=P
 w:=w
 K:=K
 mg:=mg
 base:=base
 A:=A.deeper (envX qual scope s.heap.objs.size f (.ref c) cl)
 N:=N
 s₀:=s
 H₀:=H
 env:=envX qual scope s.heap.objs.size f (.ref c) cl
 outer:=outer
 stack:=envX qual scope s.heap.objs.size f (.ref c) cl::outer
 ex:=[]
 fn:=fun x=>!(cl.lookup x).isSome
 calm:=true
 pn:=[]
 xe:=fun _ _=>False
def fcs (cl:List (Str×Addr)) (fv:List (Str×V)):List Addr:=fv.filterMap fun y=>cl.lookup y.1
structure qmP (params:Arguments) (body:Expr) (scope:Scope) (ps fs:List Str):Prop where
 co:scope.isCoroutine=false
 gen:scope.isGenerator=false
 kind:scope.kind=.function
 cell:∀ x∈scope.names,x.2≠.cell
 free:∀ y∈scope.names,y.2=.free->y.1∈fs
 loc:∀ x∈ps,scope.names.lookup x=some .local
 fre:∀ x∈fs,scope.names.lookup x=some .free
 bind:∀ (qual:Str) (cl:List (Str×Addr)) (pm cdv ct:Value) (us:List Value),us.length=ps.length->bindArgs (PySem.W.kla_fn "<lambda>" qual params body scope cl pm cdv ct) ⟨us,[]⟩=pure (ps.zip us)
 nd:(ps++fs).Nodup
theorem qeJ {α:Type}{x:Str}{v:α}:∀ {l:List (Str×α)},(l.map (·.1)).Nodup->(x,v)∈l->l.lookup x=some v
 | y::r,nd,h=>by
   have n:=List.nodup_cons.mp nd;rcases List.mem_cons.mp h with z|m
   · subst z;exact List.lookup_cons_self
   · have mm:x∈r.map (·.1):=List.mem_map.mpr ⟨(x,v),m,rfl⟩
     have ne:(x == y.1)=false:=by
       rw[beq_eq_false_iff_ne];intro z;rw[z]at mm;exact n.1 mm
     rw[List.lookup_cons,ne];exact qeJ n.2 m
theorem qkh {k:Nat}{P:Program}{w:World}{K:Frag}{mg:Str->Option Value}{base:Heap}{f:Addr}{qual:Str}{params:Arguments}{body:Expr}{scope:Scope}{ps:List Str}{fv:List (Str×V)} (L:qmP params body scope ps (fv.map (·.1)))
   {A:Around}{outer:List Env}{s:Shared}{H:Hp}{us:List Value}{vs:List V}{Q:VK} (hr:Room (k+1) A) (e0:Env0 P w K mg base A outer s H) (C:Clo H f qual params body scope fv) (r:Vals vs us) (hl:vs.length=ps.length)
   (hbody:∀ (cl:List (Str×Addr)) (c:Addr),Room k (A.deeper (envX qual scope s.heap.objs.size f (.ref c) cl))->(∀ b v,H b=some v->(∀ φ,v≠.ext φ)->cut H (fcs cl fv) b=some v) ->
     ∃ te,PE (cxC P w K mg base (ps++fv.map (·.1)) qual scope f c cl A outer s (cut H (fcs cl fv))) body te∧te (vs.map some++fv.map fun y=>some y.2) (cut H (fcs cl fv)) fun v H'=>Q v (backL H (fcs cl fv) H')) :
   codeAny (model P w) A (.call (.ref f) ⟨us,[]⟩) (CR CX0 outer P w H s Q E0) s:=by
 obtain⟨cl,c,pm,ctv,hf,hc,cells,all,inj⟩:=C;have ff:s.heap.get? f=some _:=((show ObjOk P w H s.heap f (.ext (qe6 f _)) from e0.hok f _ hf)).1;have cc:s.heap.CodeRec (.ref c) qual:=((show ObjOk P w H s.heap c (.ext (qa9 c qual)) from e0.hok c _ hc)).1;have lim:s.heap.NoLimit:=e0.mod.nolimit.keeps fun b o e=>(e0.bs b o e).1;have ul:us.length=ps.length:=by rw[← r.length];exact hl
 have csx:∀ d∈fcs cl fv,∃ v,H d=some (.ext (qbu d v)):=fun d m=>by
   obtain⟨y,_,e⟩:=List.mem_filterMap.mp m;obtain⟨v,_,q⟩:=cells _ _ e;exact⟨v,q⟩
 have csin:∀ x d,cl.lookup x=some d->d∈fcs cl fv:=fun x d e=>by
   obtain⟨v,q,_⟩:=cells x d e;exact List.mem_filterMap.mpr ⟨(x,v),PySem.mem_of_lookup q,e⟩
 have cex:∀ d∈fcs cl fv,∃ φ,H d=some (.ext φ):=fun d m=>let ⟨v,q⟩:=csx d m;⟨_,q⟩
 have cn:∀ b,H b=none->cut H (fcs cl fv) b=none:=fun b n=>by
   unfold cut;split
   · rfl
   · exact n
 have e1:Env0 P w K mg base A outer s (cut H (fcs cl fv)):=⟨e0.frames,e0.mod,fun b o q=>⟨(e0.bs b o q).1,cn b (e0.bs b o q).2⟩,e0.bsz,e0.funs,fun b m=>cn b (e0.frf b m),e0.hok.cutL cex,e0.bare⟩
 refine PySem.W.kla_callFunE hr.depth ff rfl L.co L.gen rfl cc ?_;rw[show bindArgs _ _=_ from L.bind _ _ _ _ _ us ul];refine wpAny_pure (wpAny_newFunctionEnv L.cell (fun x hx=>L.loc _ (List.of_mem_zip hx).1) (fun h₁ hns hsb=>⟨lim.fresh _ hsb,?_⟩) L.kind);have hk₁:∀ b o,s.heap.get? b=some o->h₁.get? b=some o:=fun b o e=>hsb.extBut b o (Nat.ne_of_lt (Heap.lt_size e)) (Heap.get?_push_of_some _ e);show codeAny _ _ (.expr _ (envX qual scope s.heap.objs.size f (.ref c) cl)) _ _;refine PySem.W.kla_codeExpr ?_;obtain⟨te,hte,hq⟩:=hbody cl c (hr.deeper _) fun b v r nv=>(qa4 fun z=>by obtain⟨φ,e⟩:=cex b z;rw[e]at r;exact nv φ (Option.some.inj r).symm).trans r;have noA:∀ b:Addr,b∉(cxC P w K mg base (ps++fv.map (·.1)) qual scope f c cl A outer s (cut H (fcs cl fv))).ex:=fun b z=>absurd (show b∈([]:List Addr) from z) (by simp);have ndp:ps.Nodup:=(List.nodup_append.mp L.nd).1;have ndf:(fv.map (·.1)).Nodup:=(List.nodup_append.mp L.nd).2.1
 have zk:((ps.zip us).reverse.map (·.1)).Nodup:=by
   rw[List.map_reverse];rw[show (ps.zip us).map (·.1)=ps from List.map_fst_zip (by omega)];exact List.pairwise_reverse.mpr (List.Pairwise.imp Ne.symm ndp)
 have isc:∀ x d,cl.lookup x=some d->∃ v u,fv.lookup x=some v∧RelV v u∧s.heap.IsCell d (some u):=fun x d e=>by
   obtain⟨v,q,hd⟩:=cells x d e;obtain⟨⟨u,rv,ic⟩,_,_⟩:=(show ObjOk P w H s.heap d (.ext (qbu d v)) from e0.hok d _ hd)
   exact⟨v,u,q,rv,ic⟩
 have up:∀ {d:Addr}{v:Option Value},s.heap.IsCell d v->h₁.IsCell d v:=fun⟨o,e,d⟩=>⟨o,hk₁ _ _ e,d⟩
 have I:Inv (cxC P w K mg base (ps++fv.map (·.1)) qual scope f c cl A outer s (cut H (fcs cl fv))) [] (vs.map some++fv.map fun y=>some y.2) (cut H (fcs cl fv)) { heap:=h₁,gens:=s.gens,drawn:=s.drawn,toks:=s.toks+(ps.zip us).length,os:=s.os }:=by
   refine⟨⟨e0.mod,L.kind,rfl,rfl,Nat.le_refl _,inj,fun y hy=>?_,fun y d h1 h2=>?_,fun _=>hr.hd,Around.frames_deeper e0.frames,.inr ⟨rfl,rfl⟩,fun b z=>absurd z (noA b),e1.bs,e1.bsz,fun b _ _=>noA b,fun b z=>absurd z (noA b),e0.funs,e1.frf⟩,
     rfl,e0.bare,Un.kept hk₁,⟨_,hns,fun i y v h1 h2 h3=>?_⟩,fun y d h=>?_,e1.hok.fresh (Nat.le_refl _),fun y d h=>qeZ (csin y d h),fun p hp=>absurd (show p∈([]:List (Addr×Obj)) from hp) (by simp),e1.hok.kept hk₁,?_⟩
   · have hy:scope.names.lookup y=some .cell∨scope.names.lookup y=some .free:=hy;rcases hy with hy|hy
     · exact absurd rfl (L.cell _ (PySem.mem_of_lookup hy))
     · obtain⟨z,mz,ez⟩:=List.mem_map.mp (L.free _ (PySem.mem_of_lookup hy) rfl);obtain⟨d,hd⟩:=all z.1 z.2 (qeJ ndf mz);exact⟨d,by rw[← show z.1=y from ez];exact hd⟩
   · have h1:(!(cl.lookup y).isSome)=true:=h1;have h2:cl.lookup y=some d:=h2;rw[h2]at h1;cases h1
   · have h1:(ps++fv.map (·.1))[i]?=some y:=h1;by_cases lt:i < ps.length
     · rw[List.getElem?_append_left lt]at h1;rw[List.getElem?_append_left (by rw[List.length_map,hl];exact lt),List.getElem?_map]at h2;obtain⟨v',hv,ev⟩:=Option.map_eq_some_iff.mp h2;cases ev;obtain⟨u,hu,rv⟩:=r.get hv;refine⟨u,rv,.inl ⟨L.loc y (List.mem_of_getElem? h1),?_⟩⟩;refine qeJ zk (List.mem_reverse.mpr (List.mem_of_getElem? (i:=i) ?_));rw[List.getElem?_zip_eq_some];exact⟨h1,hu⟩
     · rw[List.getElem?_append_right (by omega)]at h1;rw[List.getElem?_append_right (by rw[List.length_map,hl];omega),List.length_map,hl]at h2;rw[List.getElem?_map]at h1 h2;obtain⟨z,hz,ez⟩:=Option.map_eq_some_iff.mp h1;rw[hz]at h2;cases h2;have lk:=qeJ ndf (x:=z.1) (v:=z.2) (List.mem_of_getElem? hz);obtain⟨d,hd⟩:=all z.1 z.2 lk;obtain⟨v',u,q,rv,ic⟩:=isc z.1 d hd;rw[lk]at q;cases q;refine⟨u,rv,.inr ⟨.inr ?_,d,?_,up ic⟩⟩
       · rw[← show z.1=y from ez];exact L.fre _ (List.mem_map.mpr ⟨z,List.mem_of_getElem? hz,rfl⟩)
       · rw[← show z.1=y from ez];exact hd
   · obtain⟨v,u,_,_,ic⟩:=isc y d h;exact⟨_,up ic⟩
   · show (vs.map some++fv.map fun y=>some y.2).length=(ps++fv.map (·.1)).length;rw[List.length_append,List.length_append,List.length_map,List.length_map,List.length_map,hl]
 refine wpAny_mono (hte [] _ _ _ _ I hq) (fun u s' hs=>?_) fun e s' hs=>hs.elim;obtain⟨v,H',J,rv,q⟩:=hs;have un:=J.base;have nx:∀ b:Addr,b∉([]:List Addr):=fun b=>by simp
 have cold:∀ d∈fcs cl fv,∃ o,s.heap.get? d=some o∧d∉frs outer:=fun d m=>by
   obtain⟨v,q⟩:=csx d m;obtain⟨⟨u,_,o,e,_⟩,_,_⟩:=(show ObjOk P w H s.heap d (.ext (qbu d v)) from e0.hok d _ q)
   exact⟨o,e,fun z=>by rw[e0.frf d z]at q;cases q⟩
 have n2:∀ d∈fcs cl fv,H' d=none:=fun d m=>let ⟨o,e,_⟩:=cold d m;un.free d o e (qeZ m) (nx d);have kp:∀ d∈fcs cl fv,∀ o,s.heap.get? d=some o->s'.heap.get? d=some o:=fun d m o e=>un.keep d o e (qeZ m) (let ⟨_,_,z⟩:=cold d m;z) (nx d)
 have out:∀ b v,H b=some v->(∀ φ,v≠.ext φ)->cut H (fcs cl fv) b=some v∧b∉fcs cl fv:=fun b v r nv=>by
   have nb:b∉fcs cl fv:=fun z=>by obtain⟨φ,e⟩:=cex b z;rw[e]at r;exact nv φ (Option.some.inj r).symm
   exact⟨(qa4 nb).trans r,nb⟩
 refine⟨v,backL H (fcs cl fv) H',J.os,J.bare,⟨fun b o q n=>un.keep b o q (cn b n),fun b o q n=>un.slot b o q (cn b n),fun b o q n hx=>?_,un.there,fun b xs q=>?_,fun b o u q=>?_,fun b qs q=>?_⟩,e0.hok.backL cex J.hok n2 kp,rv,q⟩
 · have nb:b∉fcs cl fv:=fun z=>by obtain⟨φ,e⟩:=cex b z;rw[e]at n;cases n
   rw[Qp nb];exact un.free b o q (cn b n) hx
 · obtain⟨a1,a2⟩:=out b _ q (by intro φ z;cases z);rw[Qp a2];exact un.tups b xs a1
 · obtain⟨a1,a2⟩:=out b _ q (by intro φ z;cases z);rw[Qp a2];exact un.frzs b o u a1
 · obtain⟨a1,a2⟩:=out b _ q (by intro φ z;cases z);rw[Qp a2];exact un.tbls b qs a1
structure qiE where
 nx:St->Hp->Prop
 rt:V->St->Hp->Prop
abbrev TSK:=qiE->St->Hp->Prop
def SPK (X:Cx) (pins:List (Addr×Obj)) (D:qiE) (fl:Flow) (s':Shared):Prop :=
 match fl with
 | .next=>∃ σ' H',Inv X pins σ' H' s'∧D.nx σ' H'
 | .ret u=>∃ v σ' H',Inv X pins σ' H' s'∧RelV v u∧D.rt v σ' H'
 | _=>False
def PSK (X:Cx) (st:Stmt) (t:TSK):Prop :=
 ∀ (pins:List (Addr×Obj)) (s:Shared) (σ:St) (H:Hp) (D:qiE),Inv X pins σ H s->t D σ H->wpAny (model X.prog X.w) X.A (exec st X.env) (SPK X pins D) X.xe s
def qjp (X:Cx) (st:List Stmt) (t:TSK):Prop :=
 ∀ (pins:List (Addr×Obj)) (s:Shared) (σ:St) (H:Hp) (D:qiE),Inv X pins σ H s->t D σ H->wpAny (model X.prog X.w) X.A (execs st X.env) (SPK X pins D) X.xe s
section
variable {X:Cx}{st:Stmt}{rest:List Stmt}{t u:TSK}{pos:Pos}{e:Expr}{te:TE}
def qma:TSK:=fun D σ H=>D.nx σ H
def qm9 (t u:TSK):TSK:=fun D σ H=>t { D with nx:=u D } σ H
def qna (te:TE):TSK:=fun D σ H=>te σ H fun v H'=>D.rt v σ H'
def kIf (c:TT) (t u:TSK):TSK:=fun D σ H=>c σ H fun b H1=>if b=true then t D σ H1 else u D σ H1
theorem qhV:qjp X [] qma:=fun _ _ σ H _ I h=>wpAny_execs_nil ⟨σ,H,I,h⟩
theorem qgf (h1:PSK X st t) (h2:qjp X rest u):qjp X (st::rest) (qm9 t u):=by
 intro pins s σ H D I h;refine wpAny_execs_cons (thn (h1 pins s σ H { D with nx:=u D } I h) fun f s1 q=>?_)
 cases f with
 | next =>
   obtain⟨σ',H',I',q⟩:=q;exact h2 pins s1 σ' H' D I' q
 | ret v=>exact q
 | brk=>exact q.elim
 | cont=>exact q.elim
theorem qeD (h1:PSK X st t):qjp X [st] t:=by
 intro pins s σ H D I h;refine wpAny_execs_cons (thn (h1 pins s σ H D I h) fun f s1 q=>?_)
 cases f with
 | next=>exact wpAny_execs_nil q
 | ret v=>exact q
 | brk=>exact q.elim
 | cont=>exact q.elim
theorem qgg (he:PE X e te):PSK X (.Return (some e) pos) (qna te):=by
 intro pins s σ H D I h;exact wpAny_Return_some (thn (he pins s σ H _ I h) fun v s1 ⟨x,H1,I1,r1,q1⟩=>⟨x,σ,H1,I1,r1,q1⟩)
theorem qkS {c:Expr}{a b:List Stmt}{tc:TT} (hc:PT X c tc) (ha:qjp X a t) (hb:qjp X b u):PSK X (.If c a b pos) (kIf tc t u):=by
 intro pins s σ H D I h;refine wpAny_If (thn (hc pins s σ H _ I h) fun d s1 zz_=>?_);obtain⟨H1,I1,q1⟩:=zz_
 cases d with
 | true=>exact ha pins s1 σ H1 D I1 q1
 | false=>exact hb pins s1 σ H1 D I1 q1
end
structure qcE (N:List Str) (scope:Scope) (cells:List (Str×Addr)) (σ:St) (H H':Hp):Prop where
 s:Same H H'
 at_:∀ (i:Nat) (y:Str) (v:V),N[i]?=some y->σ[i]?=some (some v)->scope.names.lookup y=some .cell->∃ c,cells.lookup y=some c∧H' c=some (.ext (qbu c v))
 inj:∀ x y c,cells.lookup x=some c->cells.lookup y=some c->x=y
theorem qll {P:Program}{w:World}{K:Frag}{mg:Str->Option Value}{base:Heap}{k:Nat}{f:Addr}{name qual:Str}{params:Arguments}{body:List Stmt}{scope:Scope}{dV kV doc pm cdv ct oc:Value}{an od:Option Addr}
   {osl:Array (Option Value)}{N ps:List Str}{sp:Sp} (lk:K.lookup f=some ⟨oc,od,.func (fnOf name qual params body scope dV kV doc pm an cdv ct),osl⟩) (hcd:PySem.W.codeIn K cdv qual=true) (S:qo N ps scope)
   (len:∀ vs H Q E,sp vs H Q E->vs.length=ps.length)
   (hbody:∀ (A:Around) (outer:List Env) (s:Shared) (H:Hp) (vs:List V) (Q:VK) (E:XK),Room k (A.deeper (envOfC qual scope s.heap.objs.size f cdv))->sp vs H Q E ->
     ∃ t,qjp (zb CX0 P w K mg base N qual scope f cdv A outer s H E) body t∧t { nx:=fun _ _=>False,rt:=fun v σ' H'=>∀ H'',qcE N scope (cellsFrom (s.heap.objs.size+1) scope.names []) σ' H' H''->Q v H'' } (j6 N vs) H) :
   qD P w K mg base CX0 (k+1) f (fnOf name qual params body scope dV kV doc pm an cdv ct) ps sp:=by
 refine⟨len,fun A outer s H args us vs Q E hr e0 hb r hsp=>?_⟩;have hl:=len _ _ _ _ hsp;have KX:K.In s.heap:=e0.mod.kin.keeps fun b o e=>(e0.bs b o e).1;have lim:s.heap.NoLimit:=e0.mod.nolimit.keeps fun b o e=>(e0.bs b o e).1
 have hkind:∀ y∈ps.zip us,scope.names.lookup y.1=some .local∨(scope.names.lookup y.1=some .cell∧((cellsFrom (s.heap.objs.size+1) scope.names []).lookup y.1).isSome=true):=fun⟨n,v⟩ hy=>by
   rcases S.par n (List.of_mem_zip hy).1 with q|q
   · exact .inl q
   · exact .inr ⟨q,PySem.W.cellsFrom_some _ _ _ (.inl q)⟩
 refine codeAny_call_function hr.depth (KX _ _ lk) rfl S.co S.gen rfl (PySem.W.codeRec_of KX hcd) (hb _ _ _ _ ?_);refine wpAny_newFunctionEnv_cells S.kind hkind fun env he s1 x=>?_;subst he;refine⟨lim.keeps x.toInCall.keep,codeAny_func ?_⟩;obtain⟨t,ht,hq⟩:=hbody A outer s H vs Q E (hr.deeper _) hsp;have I:Inv (zb CX0 P w K mg base N qual scope f cdv A outer s H E) [] (j6 N vs) H s1:=qdt S hr.hd e0 hl r x;refine wpAny_mono (ht [] s1 (j6 N vs) H _ I hq) (fun fl s' hs=>?_) fun e s' hs=>hs
 cases fl with
 | next=>obtain⟨_,_,_,q⟩:=hs;exact q.elim
 | brk=>exact hs.elim
 | cont=>exact hs.elim
 | ret u =>
   obtain⟨v,σ',H',J,rv,q⟩:=hs;let Cl:Addr->V->Prop:=fun b z=>∃ (i:Nat) (y:Str),N[i]?=some y∧σ'[i]?=some (some z)∧scope.names.lookup y=some .cell∧(cellsFrom (s.heap.objs.size+1) scope.names []).lookup y=some b
   have one:∀ b z z',Cl b z->Cl b z'->z=z':=fun b z z' ⟨i,y,h1,h2,_,h4⟩ ⟨i',y',h1',h2',_,h4'⟩=>by
     have ey:y=y':=J.ok.inj y y' b h4 h4';subst ey;obtain⟨l1,g1⟩:=List.getElem?_eq_some_iff.mp h1;obtain⟨l2,g2⟩:=List.getElem?_eq_some_iff.mp h1';have ei:i=i':=(List.getElem_inj S.nd).mp (g1.trans g2.symm);subst ei;rw[h2]at h2';cases h2';rfl
   have old:∀ b z,Cl b z->H' b=none∧s.heap.objs.size≤b:=fun b z ⟨i,y,h1,h2,_,h4⟩=>⟨J.freeC y b h4,J.ok.cab y b rfl h4⟩
   open Classical in
   let H'':Hp:=fun b=>if h:∃ z,Cl b z then some (.ext (qbu b h.choose)) else H' b
   have in_:∀ b z,Cl b z->H'' b=some (.ext (qbu b z)):=fun b z h=>by
     have e:∃ z,Cl b z:=⟨z,h⟩
     show (if h:∃ z,Cl b z then some (.ext (qbu b h.choose)) else H' b)=_;rw[dif_pos e,one b _ z e.choose_spec h]
   have out:∀ b,(¬ ∃ z,Cl b z)->H'' b=H' b:=fun b n=>dif_neg n
   have sm:Same H' H'':=fun b o e=>by
     rw[out b (fun⟨z,h⟩=>by rw[(old b z h).1]at e;cases e)];exact e
   refine⟨v,H'',J.os,J.bare,⟨J.base.keep,J.base.slot,fun b o e n hx=>?_,J.base.there,fun b xs e=>sm _ _ (J.base.tups b xs e),fun b o u e=>sm _ _ (J.base.frzs b o u e),fun b ps e=>?_⟩,fun b o e=>?_,rv,q H'' ⟨sm,fun i y z h1 h2 h3=>?_,J.ok.inj⟩⟩
   · rw[out b (fun⟨z,h⟩=>absurd (Heap.lt_size e) (Nat.not_lt.mpr (old b z h).2))];exact J.base.free b o e n hx
   · obtain⟨more,z⟩:=J.base.tbls b ps e;exact⟨more,sm _ _ z⟩
   · by_cases z:∃ z,Cl b z
     · obtain⟨z,h⟩:=z;rw[in_ b z h]at e;cases e;obtain⟨i,y,h1,h2,h3,h4⟩:=h;obtain⟨m,_,hl⟩:=J.loc;obtain⟨u',ru,lk'⟩:=hl i y z h1 h2 (.inr (.inl h3));refine qiC ⟨u',ru,?_⟩;rcases lk' with ⟨kl,_⟩|⟨_,c0,hc0,ic⟩
       · have:scope.names.lookup y=some .local:=kl
         rw[h3]at this;cases this
       · have:(cellsFrom (s.heap.objs.size+1) scope.names []).lookup y=some c0:=hc0
         rw[h4]at this;cases this;exact ic
     · rw[out b z]at e;exact(J.hok b o e).stay (fun _ _ _ z=>z) (fun c r=>sm _ _ r) fun c xs r=>sm _ _ r
   · have hv:((cellsFrom (s.heap.objs.size+1) scope.names []).lookup y).isSome=true:=PySem.W.cellsFrom_some _ _ _ (.inl h3);obtain⟨c,hc⟩:=Option.isSome_iff_exists.mp hv;exact⟨c,hc,in_ c z ⟨i,y,h1,h2,h3,hc⟩⟩
theorem Fun.okK {P:Program}{w:World}{K:Frag}{mg:Str->Option Value}{base:Heap}{x qual:Str}{st:Stmt}{f c:Addr}{fd:FuncData}{N ps:List Str}{k:Nat}{sp:Sp} (F:Fun K x qual st f fd) (hc:fd.code=.ref c) (S:qo N ps (qg st)) (len:∀ vs H Q E,sp vs H Q E->vs.length=ps.length)
   (hbody:∀ (cdv:Value) (A:Around) (outer:List Env) (s:Shared) (H:Hp) (vs:List V) (Q:VK) (E:XK),cdv=.ref c->Room k (A.deeper (envOfC qual (qg st) s.heap.objs.size f cdv))->sp vs H Q E ->
     ∃ t,qjp (zb CX0 P w K mg base N qual (qg st) f cdv A outer s H E) (zT st) t∧t { nx:=fun _ _=>False,rt:=fun v σ' H'=>∀ H'',qcE N (qg st) (cellsFrom (s.heap.objs.size+1) (qg st).names []) σ' H' H''->Q v H'' } (j6 N vs) H):qD P w K mg base CX0 (k+1) f fd ps sp:=by
 obtain⟨oc,od,kV,doc,pm,an,cdv,ct,osl,rfl,lk,hcd⟩:=F.ex;exact qll lk hcd S len fun A outer s H vs Q E hr hsp=>hbody cdv A outer s H vs Q E hc hr hsp
def qmL (P:Program) (w:World) (K:Frag) (mg:Str->Option Value) (base:Heap) (k:Nat) (f:Addr) (sp:Sp):Prop :=
 ∀ (A:Around) (outer:List Env) (s:Shared) (H:Hp) (us:List Value) (vs:List V) (Q:VK),Room k A->Env0 P w K mg base A outer s H->Vals vs us->sp vs H Q E0->codeAny (model P w) A (.call (.ref f) ⟨us,[]⟩) (CR CX0 outer P w H s Q E0) s
section
variable {X:Cx}{x:Str}{p pos:Pos}{e:Expr}{es:List Expr}{t:TA}{tv:TE}{k:Nat}{Ok:Addr->Sp->Prop}
inductive qee (Ok:Addr->Sp->Prop) (t:TA) (σ:St) (Q:VK) (fv:V) (H1:Hp):Prop
 | mk (f:Addr) (sp:Sp) (o:Obj) (fd:FuncData) (h1:fv=.ref f) (h2:H1 f=some (.ext (qe6 f o))) (h3:o.data=.func fd) (h4:Ok f sp) (h5:t σ H1 fun vs H2=>H2 f=some (.ext (qe6 f o))∧sp vs H2 Q E0):qee Ok t σ Q fv H1
def qkF (Ok:Addr->Sp->Prop) (tv:TE) (t:TA):TE:=fun σ H Q=>tv σ H fun fv H1=>qee Ok t σ Q fv H1
theorem qh4 (hv:PE X (.Name x p) tv) (hr:Room k X.A) (hO:∀ f sp,Ok f sp->qmL X.prog X.w X.K X.mg X.base k f sp) (ha:PA X (e::es) t)
   (hes:backTo pos (starEach (e::es) X.env)=(false,eval e X.env)::backTo pos (starEach es X.env):=by rfl):PE X (.Call (.Name x p) (e::es) [] pos) (qkF Ok tv t):=by
 intro pins s σ H Q I h;refine wpAny_Call_Name_kw (thn (hv pins s σ H _ I h) fun v s1 zz_=>?_);obtain⟨fv,H1,I1,r1,q1⟩:=zz_;obtain⟨f,sp,o,fd,rfl,hf,hd,ok,q⟩:=q1;cases r1;refine PySem.Calls.callWith_function (o:=o) (fd:=fd) ?_;rw[hes];refine PySem.Calls.evalArgs_plain ?_;rw[← hes];refine thn (ha pos pins s1 σ H1 _ I1 q) fun us s2 ⟨vs,H2,I2,r2,hf2,q2⟩=>⟨⟨((show ObjOk X.prog X.w H2 s2.heap f (.ext (qe6 f o)) from I2.hok f _ hf2)).1,hd⟩,?_⟩
 refine wpAny_call (codeAny_mono ((hO f sp ok) X.A X.stack s2 H2 us vs Q hr I2.env0 r2 q2) fun r s' hq=>?_)
 cases r with
 | error e=>exact hq.elim
 | ok fl =>
   cases fl with
   | ret u=>exact I2.after hq
   | next=>exact hq.elim
   | brk=>exact hq.elim
   | cont=>exact hq.elim
theorem qlt {params:Arguments}{body:Expr}{scope sc0:Scope}{N:List Str}{σ:St}{H' H'':Hp}{f c:Addr}{o:Obj}{fv:List (Str×V)} (lo:qkl X params body scope c o) (ci:qcE N sc0 X.env.cells σ H' H'')
   (hf:H' f=some (.ext (qe6 f o))) (hc:H' c=some (.ext (qa9 c (X.env.qual++"<lambda>"))))
   (hfree:∀ y∈scope.names,y.2=.free->∃ c,X.env.cells.lookup y.1=some c)
   (hfv:∀ y v,fv.lookup y=some v->(y,NameKind.free)∈scope.names∧sc0.names.lookup y=some .cell∧∃ i:Nat,N[i]?=some y∧σ[i]?=some (some v))
   (hal:∀ y,(z9 X.env.cells scope.names []).lookup y≠none->(fv.lookup y).isSome=true):Clo H'' f (X.env.qual++"<lambda>") params body scope fv:=by
 obtain⟨pm,ctv,rfl⟩:=lo;have sub:∀ y d,(z9 X.env.cells scope.names []).lookup y=some d->X.env.cells.lookup y=some d:=fun y d h=>(zF (cells:=X.env.cells) (x:=y) scope.names [] hfree (fun _ z=>nomatch z)).1 d h;refine⟨_,c,pm,ctv,ci.s _ _ hf,ci.s _ _ hc,fun y d h=>?_,fun y v h=>?_,fun y z d h1 h2=>ci.inj y z d (sub _ _ h1) (sub _ _ h2)⟩
 · obtain⟨v,hv⟩:=Option.isSome_iff_exists.mp (hal y (by rw[h];simp));obtain⟨_,hk,i,h1,h2⟩:=hfv y v hv;obtain⟨c',hc',hH⟩:=ci.at_ i y v h1 h2 hk;rw[sub y d h]at hc';cases hc';exact⟨v,hv,hH⟩
 · obtain⟨m,_⟩:=hfv y v h;exact Option.isSome_iff_exists.mp ((zF (cells:=X.env.cells) (x:=y) scope.names [] hfree (fun _ z=>nomatch z)).2 (.inl m))
end
end L2
namespace L2
open PySem PySem.Spec PyProof.Rows PySem.W
open PySem.W (Frag)
theorem qdj:∀ (f n r:Nat),r≤1->minRun' f n r≤n+r
 | 0,n,r,_=>Nat.le_refl _
 | f+1,n,r,hr=>by
   rw[minRun'_succ];split
   · exact Nat.le_refl _
   · have ih:=qdj f (n / 2) (max r (n % 2)) (by omega);omega
section
variable {prog:Program}{w:World}{A:Around}{E:Value->Shared->Prop}{κ:SortKind}{it:Array Keyed}{s:Shared}
theorem qjG {r:Nat}{Q:Unit->SortSt->Shared->Prop}{G:Shared->Prop} (hG:∀ st s',arrOf st=(List.toArray (List.range (r+2))).map (kas_item it)->failedOf st=none->G s'->Q () st s')
   (up:(kas_asc (List.toArray (List.range (r+2))) (r+1) 1).kasWp (kas_cmp prog w A κ it) (fun k s'=>k=r+2∧G s') s):kasC (model prog w) A E sortRuns' Q (kas_st κ it (List.toArray (List.range (r+2)))) s:=by
 have z0:(List.toArray (List.range (r+2))).size=r+2:=by rw[List.size_toArray,List.length_range]
 have z1:(arrOf (kas_st κ it (List.toArray (List.range (r+2))))).size=r+2:=(Array.size_map ..).trans z0
 have cnt:(kas_count (r+2) (List.toArray (List.range (r+2)))).kasWp (kas_cmp prog w A κ it) (fun x s'=>x.1=r+2∧x.2=List.toArray (List.range (r+2))∧G s') s:=by
   unfold kas_count;rw[KasT.kasWp_bind];refine kas_wp_mono up fun k s' zz_=>?_;obtain⟨e,g⟩:=zz_;subst e;rw[if_pos (beq_self_eq_true _)];exact⟨rfl,rfl,g⟩
 rw[sortRuns'_eq];refine kasC_bind (kasC_get ?_);simp only[z1];refine kasC_bind (kasC_range ?_);show kasC _ _ _ (forIn (0::1::List.range' 2 r) _ _) _ _ s;refine kasC_cons ?_;dsimp only;rw[if_neg (by omega)];simp only[Nat.zero_add,Nat.sub_zero];refine kasC_bind (kas_count_ (by omega) (Nat.le_of_eq z0.symm) (fun k q s' _ _ _ hk=>?_) cnt);obtain⟨k1,k2,g⟩:=hk;simp only at k1 k2;subst k1 k2;dsimp only;rw[if_neg (Nat.not_lt.mpr (qdj (r+2) (r+2) 0 (Nat.zero_le _)))];refine kasC_bind (kasC_get ?_);rw[show (pendingOf (kas_st κ it (List.toArray (List.range (r+2))))).back?=none from rfl];dsimp only;refine kasC_bind (kasC_modify (kasC_pure ?_));show kasC _ _ _ (forIn (1::List.range' 2 r) _ _) _ _ s';refine kasC_cons ?_;dsimp only;rw[if_pos (Nat.le_refl _)];refine kasC_pure ?_;refine kasC_bind (kasC_range ?_);show kasC _ _ _ (forIn (0::1::List.range' 2 r) _ _) _ _ s';refine kasC_cons (kasC_bind (kasC_get ?_));rw[if_pos (show (pendingOf (setPending (kas_st κ it (List.toArray (List.range (r+2)))) ((pendingOf (kas_st κ it (List.toArray (List.range (r+2))))).push (0,r+2,0)))).size≤1 from Nat.le_refl 1)];exact kasC_pure (kasC_pure (hG _ _ rfl rfl g))
theorem qjk {vs:List Value}{G:Shared->Prop} (g:G s) (lt:∀ i,i+1 < vs.length->∀ C:Bool->Shared->Prop,C false s->wpAny (model prog w) A (keyLt' κ (vs.getD (i+1) Value.none) (vs.getD i Value.none)) C (fun _ _=>False) s) :
   ∀ (f k:Nat),1≤k->k+f=vs.length->(kas_asc (List.toArray (List.range vs.length)) f k).kasWp (kas_cmp prog w A κ (vs.toArray.zip vs.toArray)) (fun m s'=>m=vs.length∧G s') s
 | 0,k,_,h=>⟨by omega,g⟩
 | f+1,k,h1,h=>by
   have at_:∀ i,i < vs.length->(List.toArray (List.range vs.length)).getD i 0=i:=fun i hi=>by simp[Array.getD,hi]
   show kas_cmp prog w A κ (vs.toArray.zip vs.toArray) ((List.toArray (List.range vs.length)).getD k 0) ((List.toArray (List.range vs.length)).getD (k - 1) 0) _ s;rw[at_ k (by omega),at_ (k - 1) (by omega)];unfold kas_cmp;rw[kat_item rfl,kat_item rfl];have q:=lt (k - 1) (by omega);rw[show k - 1+1=k by omega]at q;refine q _ ?_;dsimp only;rw[if_neg (by decide)];exact qjk g lt f (k+1) (by omega) (by omega)
theorem qjB {a:Addr}{vs:List Value}{n:Nat}{P:PySem.Fin->Shared->Prop} (ho:s.heap.get? a=some (seqObj "list" vs.toArray n)) (h2:2≤vs.length) (hz:vs.length≤sizeLine)
   (ask:∀ h',(∀ b o,b≠a->s.heap.get? b=some o->h'.get? b=some o)->wpAny (model prog w) A (keyKind' vs.toArray) (fun κ s'=>s'={ s with heap:=h' }∧∀ i,i+1 < vs.length->∀ C:Bool->Shared->Prop,C false s'->wpAny (model prog w) A (keyLt' κ (vs.getD (i+1) Value.none) (vs.getD i Value.none)) C (fun _ _=>False) s') (fun _ _=>False) { s with heap:=h' })
   (h:∀ c h',(∀ b o,b≠a->s.heap.get? b=some o->h'.get? b=some o)->h'.get? a=some (seqObj "list" vs.toArray c)->P (.done (.ret .none)) { s with heap:=h' }) :
   wpAny (model prog w) A (Builtin.«list.sort» ⟨[.ref a],[]⟩) P E s:=by
 obtain⟨r,hr⟩:∃ r,vs.length=r+2:=⟨vs.length - 2,by omega⟩
 have big:¬ vs.toArray.size < 2:=by rw[List.size_toArray];omega
 have zz:vs.toArray.size≤sizeLine:=by rw[List.size_toArray];exact hz
 obtain⟨e1,ho1⟩:∃ e1,(s.heap.update a (Obj.mapSeq fun _=>(#[]:Array Value))).get? a=some (seqObj "list" #[] e1):=⟨_,get?_update_seq ho fun _=>#[]⟩
 rw[list_sort_plain];refine wpAny_bind (listItems_at ho rfl (wpAny_bind (listUpdate_at ho rfl ?_ zz (Nat.zero_le _))));refine wpAny_bind (seqEpoch_at ho1 rfl (wpAny_bind (wpAny_newTuple ?_ zz)));refine wpAny_bind (wpAny_newList (wpAny_holding ?_) (Nat.zero_le _))
 have k3:∀ b o,b≠a->s.heap.get? b=some o->(((s.heap.update a (Obj.mapSeq fun _=>(#[]:Array Value))).push (seqObj "tuple" vs.toArray 0)).push (seqObj "list" #[] 0)).get? b=some o:=fun b o hb q =>
   Heap.get?_push_of_some _ (Heap.get?_push_of_some _ (((Heap.SameBut.update s.heap a _).2 b hb).trans q))
 have ho2:(((s.heap.update a (Obj.mapSeq fun _=>(#[]:Array Value))).push (seqObj "tuple" vs.toArray 0)).push (seqObj "list" #[] 0)).get? a=some (seqObj "list" #[] e1):=Heap.get?_push_of_some _ (Heap.get?_push_of_some _ ho1);dsimp only;rw[if_neg big,if_neg big];refine wpAny_bind (wpAny_mono (ask _ k3) (fun κ s' zz_=>?_) fun _ _ x=>x.elim);obtain⟨es,lt⟩:=zz_;subst es
 have it0:(List.toArray (List.range (r+2))).map (kas_item (vs.toArray.zip vs.toArray))=vs.toArray.zip vs.toArray:=by
   have:=kas_range (vs.toArray.zip vs.toArray)
   rwa [show (vs.toArray.zip vs.toArray).size=r+2 by simp[hr]]at this
 have st0:SortSt.mk' κ (vs.toArray.zip vs.toArray) #[] 7 none=kas_st κ (vs.toArray.zip vs.toArray) (List.toArray (List.range (r+2))):=by
   unfold kas_st;rw[it0]
 have up:=qjk (G:=fun s'=>s'={ s with heap:=((s.heap.update a (Obj.mapSeq fun _=>(#[]:Array Value))).push (seqObj "tuple" vs.toArray 0)).push (seqObj "list" #[] 0) }) rfl lt (r+1) 1 (Nat.le_refl _) (by omega);rw[hr]at up;have run:=qjG (E:=E) (Q:=fun _ st s'=>arrOf st=vs.toArray.zip vs.toArray∧failedOf st=none∧s'={ s with heap:=((s.heap.update a (Obj.mapSeq fun _=>(#[]:Array Value))).push (seqObj "tuple" vs.toArray 0)).push (seqObj "list" #[] 0) }) (fun st s' x y z=>⟨x.trans it0,y,z⟩) up;rw[← st0]at run;unfold kasC at run;refine wpAny_bind (wpAny_mono run ?_ fun _ _ x=>x);rintro⟨⟨⟩,st⟩ s' ⟨ha,hf,rfl⟩
 have snd0:Array.map (fun x:Keyed=>x.snd) (arrOf st)=vs.toArray:=by
   rw[ha];apply Array.toList_inj.mp;simp only[Array.toList_map,Array.toList_zip];exact List.map_snd_zip (Nat.le_refl _)
 dsimp only;rw[snd0];refine wpAny_bind (seqEpoch_at ho2 rfl (wpAny_bind (listUpdate_at ho2 rfl ?_ (Nat.zero_le _) (Nat.le_succ_of_le zz))));rw[hf];simp only[bne_self_eq_false,Bool.false_eq_true,if_false];refine wpAny_pure (h _ _ (fun b o hb q=>?_) (get?_update_seq ho2 fun _=>vs.toArray));exact((Heap.SameBut.update _ a _).2 b hb).trans (k3 b o hb q)
theorem qfW {l:Addr}{vs:List Value}{Q:Value->Shared->Prop} (hl:s.heap.IsList l vs.toArray) (h2:2≤vs.length) (hz:vs.length≤sizeLine)
   (ask:∀ h',(∀ b o,s.heap.get? b=some o->h'.get? b=some o)->wpAny (model prog w) A.in1.in1 (keyKind' vs.toArray) (fun κ s'=>s'={ s with heap:=h' }∧∀ i,i+1 < vs.length->∀ C:Bool->Shared->Prop,C false s'->wpAny (model prog w) A.in1.in1 (keyLt' κ (vs.getD (i+1) Value.none) (vs.getD i Value.none)) C (fun _ _=>False) s') (fun _ _=>False) { s with heap:=h' })
   (h:∀ D c h',s.heap.get? D=none->(∀ b o,s.heap.get? b=some o->h'.get? b=some o)->h'.get? D=some (seqObj "list" vs.toArray c)->Q (.ref D) { s with heap:=h' }) :
   wpAny (model prog w) A (call (.builtin "sorted") [.ref l]) Q E s:=by
 refine Calls.call_function_entry kind_sorted plain_sorted entry_sorted (args_sorted1 _) ?_;unfold Builtin.«sorted»;refine wpAny_bind (m:=checkCount "sorted" 1 1 _) (wpAny_pure ?_);refine wpAny_bind (collect_list hl (wpAny_bind (wpAny_newList ?_ hz)) hz);generalize hg:(s.heap.push (seqObj "list" #[] 0)).update s.heap.objs.size (Obj.mapSeq (·++vs.toArray))=g;have z1:g.objs.size=s.heap.objs.size+1:=by rw[← hg,Heap.size_update,size_push']
 have at_:(g.push (seqObj "list" vs.toArray 0)).get? (s.heap.objs.size+1)=some (seqObj "list" vs.toArray 0):=by rw[← z1];exact Heap.get?_push_size _ rfl
 have kp:∀ b o,s.heap.get? b=some o->(g.push (seqObj "list" vs.toArray 0)).get? b=some o:=fun b o q=>by
   have lt:b < s.heap.objs.size:=Heap.lt_size q;rw[Heap.get?_push_ne _ _ _ (by rw[z1];exact Nat.ne_of_lt (Nat.lt_succ_of_lt lt)),← hg,Heap.get?_update_ne _ _ _ _ (Nat.ne_of_lt lt),Heap.get?_push_ne _ _ _ (Nat.ne_of_lt lt)];exact q
 rw[z1];refine wpAny_bind (wpAny_holding (wpAny_call_entry slot_list_sort ⟨_,at_,rfl⟩ entry_list_sort ?body (args_list_sort _)))
 case body =>
   refine qjB (s:={ s with heap:=g.push (seqObj "list" vs.toArray 0) }) at_ h2 hz (fun h' k=>ask h' fun b o q=>k b o (Nat.ne_of_lt (Nat.lt_succ_of_lt (Heap.lt_size q))) (kp b o q)) fun c h' k e=>?_;exact⟨_,rfl,wpAny_pure ⟨_,rfl,h (s.heap.objs.size+1) c h' (Heap.get?_none_of_le (Nat.le_succ _)) (fun b o q=>k b o (Nat.ne_of_lt (Nat.lt_succ_of_lt (Heap.lt_size q))) (kp b o q)) e⟩⟩
end
inductive qey (K:Frag) (xs:List V) (H:Hp) (Q:VK):Prop
 | mk (l:Addr) (zs:List V) (rs:List (List Int)) (k:Nat) (h1:xs=[.ref l]) (h2:SqL K H l zs) (h3:TupI H zs rs) (h4:(∀ r∈rs,r.length=k)) (h5:0 < k) (h6:rs.Pairwise (fun a b=>QS b a=false)) (h7:∀ p:Addr,H p=none->Q (.ref p) (upd H p (.lst zs))):qey K xs H Q
def qiP (K:Frag):List V->Hp->VK->Prop:=fun xs H Q=>qey K xs H Q
section
variable {X:Cx}
theorem qbZ:CallR X (.builtin "sorted") (qiP X.K):=by
 intro pins s σ H xs us Q I r h;obtain⟨l,zs,rs,k,rfl,hq,tp,hk,k0,up,q⟩:=h;obtain⟨u,rfl,ru⟩:=j5 r;cases (show u=Value.ref l from ru);obtain⟨its,rv,p,hz⟩:=I.list hq;have hlen:=rv.length
 have fin:∀ D c h',s.heap.get? D=none->(∀ b o,s.heap.get? b=some o->h'.get? b=some o)->h'.get? D=some (seqObj "list" its.toArray c)->EP X pins σ Q (.ref D) { s with heap:=h' }:=fun D c h' free kp e=>by
   have I':Inv X pins σ (upd H D (.lst zs)) { s with heap:=h' }:=I.laidL (t':=s.toks) (fun b u _ z=>kp b u z) (fun m ⟨o,es,ep,ho,r⟩=>⟨o,es,ep,kp _ _ ho,r⟩) free ⟨hz,its,c,rv,e⟩;exact⟨.ref D,_,I',rfl,q D (I.unlaid free)⟩
 by_cases h2:its.length < 2
 · exact qbJ p.isList h2 fun D c h' free kp e=>fin D c h' free kp e
 · refine qfW p.isList (by omega) (by rw[← hlen];exact hz) (fun h' kp=>?_) fun D c h' free kp e=>fin D c h' free kp e;have pa:=qdM I (h':=h') (fun b u _ z=>kp b u z) tp rv;obtain⟨fs,t1,t2,t3⟩:=qb7 pa fun r hr=>by rw[hk r hr];exact k0
   refine PySem.W.kat_kind (T:=.type "int") t1 (by omega) (fun v hv=>?_) rfl ⟨rfl,fun i hi C hC=>?_⟩
   · obtain⟨i,t,rfl⟩:=t3 v hv;exact PySem.W.Looks.of_pure rfl
   · obtain⟨x,ox,ux,nx,ex,rx,hx,cx,dx⟩:=Qf (d:=Value.none) (e:=List.replicate k 0) pa hi;obtain⟨y,oy,uy,ny,ey,ry,hy,cy,dy⟩:=Qf (d:=Value.none) (e:=List.replicate k 0) pa (show i < its.length by omega);rw[ex,ey];refine PySem.W.kat_lt hx dx hy dy ?_;have lx:=Qx hk (i+1);have ly:=Qx hk i;have e1':=rx.length;have e2':=ry.length;rw[List.length_map]at e1' e2';rw[show decide (ux.toArray.size < uy.toArray.size)=false from decide_eq_false (by rw[List.size_toArray,List.size_toArray];omega)];refine qgN rx ry (by omega) ?_;have lr:rs.length=its.length:=by rw[← tp.len];exact hlen
     have a1:i+1 < rs.length:=by omega
     have:=List.pairwise_iff_getElem.mp up i (i+1) (by omega) a1 (by omega)
     rw[List.getD_eq_getElem?_getD,List.getElem?_eq_getElem a1,List.getD_eq_getElem?_getD,List.getElem?_eq_getElem (show i < rs.length by omega)];simp only[Option.getD_some];rw[this];exact hC
end
end L2
namespace M04
open L2
def Mem (ws:List (Int×Int)) (n:Int):Prop:=∃ w∈ws,w.1≤n∧n≤w.2
def qR (ws:List (Int×Int)):Prop:=(∀ w∈ws,w.1≤w.2)∧ws.Pairwise fun a b=>a.2+1 < b.1
def qae (acc:List (Int×Int)) (w:Int×Int):List (Int×Int):=match acc.getLast? with
 | some l=>if w.1≤l.2+1 then acc.set (acc.length - 1) (l.1,if w.2 > l.2 then w.2 else l.2) else acc++[w]
 | none=>[w]
theorem qcv (xs ys:List (Int×Int)) (n:Int):Mem (xs++ys) n↔Mem xs n∨Mem ys n:=by
 constructor
 · rintro⟨w,hw,h⟩;rcases List.mem_append.mp hw with m|m
   · exact .inl ⟨w,m,h⟩
   · exact .inr ⟨w,m,h⟩
 · rintro (⟨w,hw,h⟩|⟨w,hw,h⟩)
   · exact⟨w,List.mem_append.mpr (.inl hw),h⟩
   · exact⟨w,List.mem_append.mpr (.inr hw),h⟩
theorem qaQ (w:Int×Int) (n:Int):Mem [w] n↔w.1≤n∧n≤w.2:=by
 constructor
 · rintro⟨x,hx,h⟩;have e:x=w:=by simpa using hx
   rw[← e];exact h
 · intro h;exact⟨w,by simp,h⟩
theorem mem_cons (w:Int×Int) (ws:List (Int×Int)) (n:Int):Mem (w::ws) n↔(w.1≤n∧n≤w.2)∨Mem ws n:=by
 rw[show w::ws=[w]++ws from rfl,qcv,qaQ]
theorem qik {acc:List (Int×Int)}{l:Int×Int} (h:acc.getLast?=some l):∃ init,acc=init++[l] :=
 ⟨acc.dropLast,by
   have ne:acc≠[]:=fun z=>by rw[z]at h;cases h
   have e:acc.getLast ne=l:=by rw[List.getLast?_eq_some_getLast ne]at h;exact Option.some.inj h
   rw[← e];exact(List.dropLast_concat_getLast ne).symm⟩
theorem qhP (init:List (Int×Int)) (l x:Int×Int):(init++[l]).set ((init++[l]).length - 1) x=init++[x]:=by
 rw[List.length_append,show init.length+[l].length - 1=init.length by simp,List.set_append_right _ _ (Nat.le_refl _),Nat.sub_self];rfl
theorem canon_snoc {init:List (Int×Int)}{l:Int×Int}:qR (init++[l])↔qR init∧l.1≤l.2∧∀ a∈init,a.2+1 < l.1:=by
 unfold qR;constructor
 · rintro⟨h1,h2⟩;obtain⟨p1,_,p3⟩:=List.pairwise_append.mp h2;exact⟨⟨fun w m=>h1 w (by simp[m]),p1⟩,h1 l (by simp),fun a m=>p3 a m l (by simp)⟩
 · rintro⟨⟨h1,h2⟩,h3,h4⟩;refine⟨fun w m=>?_,List.pairwise_append.mpr ⟨h2,List.pairwise_singleton _ _,fun a ma b mb=>?_⟩⟩
   · rcases List.mem_append.mp m with m|m
     · exact h1 w m
     · have:w=l:=by simpa using m
       rw[this];exact h3
   · have:b=l:=by simpa using mb
     rw[this];exact h4 a ma
theorem qjz {acc:List (Int×Int)}{w:Int×Int} (c:qR acc) (hw:w.1≤w.2) (hl:∀ l∈acc,l.1≤w.1) :
   qR (qae acc w)∧(∀ n,Mem (qae acc w) n↔Mem acc n∨(w.1≤n∧n≤w.2))∧∀ l∈qae acc w,l.1≤w.1:=by
 cases e:acc.getLast? with
 | none =>
   have e0:acc=[]:=List.getLast?_eq_none_iff.mp e;subst e0;show qR [w]∧(∀ n,Mem [w] n↔Mem [] n∨_)∧∀ l∈[w],l.1≤w.1;refine⟨⟨fun x m=>?_,List.pairwise_singleton _ _⟩,fun n=>?_,fun x m=>?_⟩
   · have:x=w:=by simpa using m
     rw[this];exact hw
   · rw[qaQ];exact⟨.inr,fun h=>h.elim (fun⟨_,z,_⟩=>nomatch z) id⟩
   · have:x=w:=by simpa using m
     rw[this];exact Int.le_refl _
 | some l =>
   obtain⟨init,rfl⟩:=qik e;obtain⟨c1,c2,c3⟩:=canon_snoc.mp c;have hl1:=hl l (by simp);unfold qae;rw[e];dsimp only;by_cases g:w.1≤l.2+1
   · rw[if_pos g,qhP];refine⟨canon_snoc.mpr ⟨c1,by show l.1≤(if w.2 > l.2 then w.2 else l.2);split<;>omega,c3⟩,fun n=>?_,fun x m=>?_⟩
     · rw[qcv,qcv,qaQ,qaQ,or_assoc];show _∨(l.1≤n∧n≤(if w.2 > l.2 then w.2 else l.2))↔_
       have:(l.1≤n∧n≤(if w.2 > l.2 then w.2 else l.2))↔((l.1≤n∧n≤l.2)∨(w.1≤n∧n≤w.2)):=by
         split<;>omega
       rw[this]
     · rcases List.mem_append.mp m with m|m
       · exact hl x (by simp[m])
       · have:x=(l.1,if w.2 > l.2 then w.2 else l.2):=by simpa using m
         rw[this];exact hl1
   · rw[if_neg g];refine⟨canon_snoc.mpr ⟨c,hw,fun a m=>?_⟩,fun n=>by rw[qcv _ [w],qaQ],fun x m=>?_⟩
     · rcases List.mem_append.mp m with m|m
       · have:=c3 a m;omega
       · have:a=l:=by simpa using m
         rw[this];omega
     · rcases List.mem_append.mp m with m|m
       · exact hl x m
       · have:x=w:=by simpa using m
         rw[this];exact Int.le_refl _
theorem qd0:∀ (S acc:List (Int×Int)),qR acc->(∀ w∈S,w.1≤w.2)->S.Pairwise (fun a b=>a.1≤b.1)->(∀ l∈acc,∀ w∈S,l.1≤w.1)->qR (S.foldl qae acc)∧∀ n,Mem (S.foldl qae acc) n↔Mem acc n∨Mem S n
 | [],acc,c,_,_,_=>⟨c,fun n=>⟨.inl,fun h=>h.elim id fun⟨_,z,_⟩=>nomatch z⟩⟩
 | w::S,acc,c,ok,hp,hl=>by
   obtain⟨p1,p2⟩:=List.pairwise_cons.mp hp;obtain⟨s1,s2,s3⟩:=qjz c (ok w (by simp)) fun l m=>hl l m w (by simp);obtain⟨f1,f2⟩:=qd0 S (qae acc w) s1 (fun x m=>ok x (by simp[m])) p2 fun l m x mx=>Int.le_trans (s3 l m) (p1 x mx);refine⟨f1,fun n=>?_⟩;rw[List.foldl_cons,f2,s2,mem_cons,or_assoc]
theorem ZQ {w:Int×Int}{ws:List (Int×Int)} (c:qR (w::ws)):qR ws∧w.1≤w.2∧∀ n,Mem ws n->w.2+1 < n:=by
 obtain⟨h1,h2⟩:=c;obtain⟨p1,p2⟩:=List.pairwise_cons.mp h2;exact⟨⟨fun x m=>h1 x (by simp[m]),p2⟩,h1 w (by simp),fun n ⟨x,m,a,b⟩=>by have:=p1 x m;omega⟩
theorem qdB:∀ {xs ys:List (Int×Int)},qR xs->qR ys->(∀ n,Mem xs n↔Mem ys n)->xs=ys
 | [],[],_,_,_=>rfl
 | [],y::ys,_,c,h=>by
   obtain⟨_,k,_⟩:=ZQ c;obtain⟨_,z,_⟩:=(h y.1).mpr ((mem_cons _ _ _).mpr (.inl ⟨Int.le_refl _,k⟩));cases z
 | x::xs,[],c,_,h=>by
   obtain⟨_,k,_⟩:=ZQ c;obtain⟨_,z,_⟩:=(h x.1).mp ((mem_cons _ _ _).mpr (.inl ⟨Int.le_refl _,k⟩));cases z
 | x::xs,y::ys,c,d,h=>by
   obtain⟨c1,c2,c3⟩:=ZQ c;obtain⟨d1,d2,d3⟩:=ZQ d;have h':∀ n,((x.1≤n∧n≤x.2)∨Mem xs n)↔((y.1≤n∧n≤y.2)∨Mem ys n):=fun n=>by rw[← mem_cons,← mem_cons];exact h n
   have a1:y.1≤x.1:=by
     rcases (h' x.1).mp (.inl ⟨Int.le_refl _,c2⟩) with k|k
     · exact k.1
     · have:=d3 _ k;omega
   have a2:x.1≤y.1:=by
     rcases (h' y.1).mpr (.inl ⟨Int.le_refl _,d2⟩) with k|k
     · exact k.1
     · have:=c3 _ k;omega
   have b1:y.2≤x.2:=by
     rcases Int.lt_or_le x.2 y.2 with lt|le
     · rcases (h' (x.2+1)).mpr (.inl ⟨by omega,by omega⟩) with k|k
       · omega
       · have:=c3 _ k;omega
     · exact le
   have b2:x.2≤y.2:=by
     rcases Int.lt_or_le y.2 x.2 with lt|le
     · rcases (h' (y.2+1)).mp (.inl ⟨by omega,by omega⟩) with k|k
       · omega
       · have:=d3 _ k;omega
     · exact le
   have e:x=y:=Prod.ext (by omega) (by omega);subst e;rw[qdB c1 d1 fun n=>?_];constructor
   · intro k
     have:=c3 n k
     rcases (h' n).mp (.inr k) with z|z
     · omega
     · exact z
   · intro k
     have:=d3 n k
     rcases (h' n).mpr (.inr k) with z|z
     · omega
     · exact z
end M04
namespace K32
open PySem L2 PySem.NumText PyProof.Rows KC M04
open PySem.W (Frag keepIn kitOne fnOf codeIn nsIn)
def top (i:Nat):Stmt:=PySem.Challenge.pw_foldlog_k32_joint_entries.main.body.getD i (.Pass ⟨0,0,0,0⟩)
abbrev qaA:Stmt:=top 16
theorem qcU:qo ["thing"] ["thing"] (qg qaA):=⟨rfl,rfl,rfl,by decide +kernel,rfl,by decide +kernel,by decide +kernel⟩
abbrev qbL:Stmt:=top 17
theorem qdO:qo ["thing","low","high"] ["thing","low","high"] (qg qbL):=⟨rfl,rfl,rfl,by decide +kernel,rfl,by decide +kernel,by decide +kernel⟩
abbrev qaB:Stmt:=top 18
theorem qcV:qo ["thing"] ["thing"] (qg qaB):=⟨rfl,rfl,rfl,by decide +kernel,rfl,by decide +kernel,by decide +kernel⟩
abbrev JB:Stmt:=top 19
theorem qcb:qo ["thing"] ["thing"] (qg JB):=⟨rfl,rfl,rfl,by decide +kernel,rfl,by decide +kernel,by decide +kernel⟩
abbrev qcY:Stmt:=top 20
theorem qfb:qo ["thing"] ["thing"] (qg qcY):=⟨rfl,rfl,rfl,by decide +kernel,rfl,by decide +kernel,by decide +kernel⟩
abbrev JA:Stmt:=top 22
theorem qca:qo ["thing"] ["thing"] (qg JA):=⟨rfl,rfl,rfl,by decide +kernel,rfl,by decide +kernel,by decide +kernel⟩
abbrev QQ:Stmt:=top 23
theorem sc_check_stretches:qo ["stretches","place","stretch"] ["stretches"] (qg QQ):=⟨rfl,rfl,rfl,by decide +kernel,rfl,by decide +kernel,by decide +kernel⟩
abbrev qbK:Stmt:=top 24
theorem sc_spans_of:qo ["stretches","told","low","high"] ["stretches"] (qg qbK):=⟨rfl,rfl,rfl,by decide +kernel,rfl,by decide +kernel,by decide +kernel⟩
abbrev qiN:Stmt:=top 25
theorem sc_both:qo ["one","other","told","at_one","at_other","low","high"] ["one","other"] (qg qiN):=⟨rfl,rfl,rfl,by decide +kernel,rfl,by decide +kernel,by decide +kernel⟩
abbrev qbM:Stmt:=top 26
theorem qdP:qo ["spans"] ["spans"] (qg qbM):=⟨rfl,rfl,rfl,by decide +kernel,rfl,by decide +kernel,by decide +kernel⟩
abbrev JE:Stmt:=top 30
theorem qcc:qo ["thing"] ["thing"] (qg JE):=⟨rfl,rfl,rfl,by decide +kernel,rfl,by decide +kernel,by decide +kernel⟩
abbrev Z3:Stmt:=top 31
theorem qat:qo ["thing"] ["thing"] (qg Z3):=⟨rfl,rfl,rfl,by decide +kernel,rfl,by decide +kernel,by decide +kernel⟩
abbrev ZC:Stmt:=top 32
theorem JT:qo ["thing"] ["thing"] (qg ZC):=⟨rfl,rfl,rfl,by decide +kernel,rfl,by decide +kernel,by decide +kernel⟩
abbrev jG:Stmt:=top 40
theorem sc_check_parts:qo ["parts","part"] ["parts"] (qg jG):=⟨rfl,rfl,rfl,by decide +kernel,rfl,by decide +kernel,by decide +kernel⟩
abbrev JD:Stmt:=top 41
theorem sc_check_part:qo ["part","many"] ["part"] (qg JD):=⟨rfl,rfl,rfl,by decide +kernel,rfl,by decide +kernel,by decide +kernel⟩
abbrev qen:Stmt:=top 43
theorem qfZ:qo ["thing","widest"] ["thing","widest"] (qg qen):=⟨rfl,rfl,rfl,by decide +kernel,rfl,by decide +kernel,by decide +kernel⟩
abbrev qaz:Stmt:=top 44
theorem qcT:qo ["rows","place"] ["rows","place"] (qg qaz):=⟨rfl,rfl,rfl,by decide +kernel,rfl,by decide +kernel,by decide +kernel⟩
abbrev JC:Stmt:=top 45
theorem sc_check_rows:qo ["rows","most","widest","place","row"] ["rows","most","widest"] (qg JC):=⟨rfl,rfl,rfl,by decide +kernel,rfl,by decide +kernel,by decide +kernel⟩
abbrev qf8:Stmt:=top 51
theorem qhR:qo ["_law_script","_law_k"] ["_law_script","_law_k"] (qg qf8):=⟨rfl,rfl,rfl,by decide +kernel,rfl,by decide +kernel,by decide +kernel⟩
abbrev qiO:Stmt:=top 52
theorem sc_Lmix:qo ["_law_cell_here","_law_k","_law_number"] ["_law_cell_here","_law_k"] (qg qiO):=⟨rfl,rfl,rfl,by decide +kernel,rfl,by decide +kernel,by decide +kernel⟩
abbrev qeu:Stmt:=top 53
theorem qf1:qo ["_law_cell_here"] ["_law_cell_here"] (qg qeu):=⟨rfl,rfl,rfl,by decide +kernel,rfl,by decide +kernel,by decide +kernel⟩
abbrev qf5:Stmt:=top 54
theorem sc_Lpull:qo ["_law_state","_law_many","_law_digit","_law_high","_law_low"] ["_law_state","_law_many"] (qg qf5):=⟨rfl,rfl,rfl,by decide +kernel,rfl,by decide +kernel,by decide +kernel⟩
abbrev qes:Stmt:=top 55
theorem sc_Lnames:qo ["_law_state","_law_many","_law_letters","_law_size","_law_at","_law_base","_law_first","_law_step","_law_names_here","_law_k","_law_behind","_law_sign"] ["_law_state","_law_many"] (qg qes):=⟨rfl,rfl,rfl,by decide +kernel,rfl,by decide +kernel,by decide +kernel⟩
abbrev qeq:Stmt:=top 56
theorem sc_Lshift:qo ["_law_state","_law_way"] ["_law_state"] (qg qeq):=⟨rfl,rfl,rfl,by decide +kernel,rfl,by decide +kernel,by decide +kernel⟩
abbrev qf4:Stmt:=top 57
theorem sc_Lrows:qo ["_law_state","_law_unit","_law_rows_here","_law_k"] ["_law_state"] (qg qf4):=⟨rfl,rfl,rfl,by decide +kernel,rfl,by decide +kernel,by decide +kernel⟩
abbrev qc0:Stmt:=top 58
theorem sc_Lpieces:qo ["_law_rows_here","_law_ends"] ["_law_rows_here"] (qg qc0):=⟨rfl,rfl,rfl,by decide +kernel,rfl,by decide +kernel,by decide +kernel⟩
abbrev qc1:Stmt:=top 59
theorem sc_Ljoined:qo ["_law_stretches","_law_found","_law_low","_law_high"] ["_law_stretches"] (qg qc1):=⟨rfl,rfl,rfl,by decide +kernel,rfl,by decide +kernel,by decide +kernel⟩
abbrev qep:Stmt:=top 60
theorem qf0:qo ["_law_rows_here","_law_low","_law_high"] ["_law_rows_here","_law_low","_law_high"] (qg qep):=⟨rfl,rfl,rfl,by decide +kernel,rfl,by decide +kernel,by decide +kernel⟩
abbrev qf3:Stmt:=top 62
theorem sc_Lsame:qo ["_law_found","_law_due","_law_part_here"] ["_law_found","_law_due"] (qg qf3):=⟨rfl,rfl,rfl,by decide +kernel,rfl,by decide +kernel,by decide +kernel⟩
abbrev qf6:Stmt:=top 63
theorem sc_Lnear:qo ["_law_state","_law_rows_here","_law_low","_law_high","_law_shift_here","_law_ends"] ["_law_state","_law_rows_here"] (qg qf6):=⟨rfl,rfl,rfl,by decide +kernel,rfl,by decide +kernel,by decide +kernel⟩
abbrev qf2:Stmt:=top 64
theorem sc_Lspec:qo ["_law_state","_law_name","_law_places_here","_law_tables","_law_word","_law_place","_law_rows_here","_law_low","_law_high"] ["_law_state","_law_name","_law_places_here","_law_tables"] (qg qf2):=⟨rfl,rfl,rfl,by decide +kernel,rfl,by decide +kernel,by decide +kernel⟩
abbrev qf7:Stmt:=top 65
theorem sc_Lmade:qo ["_law_spec_here","_law_word","_law_name","_law_place","_law_low","_law_high"] ["_law_spec_here"] (qg qf7):=⟨rfl,rfl,rfl,by decide +kernel,rfl,by decide +kernel,by decide +kernel⟩
abbrev qeo:Stmt:=top 66
theorem sc_Lspans:qo ["_law_spec_here","_law_tables","_law_word","_law_name","_law_place","_law_low","_law_high"] ["_law_spec_here","_law_tables"] (qg qeo):=⟨rfl,rfl,rfl,by decide +kernel,rfl,by decide +kernel,by decide +kernel⟩
abbrev qbN:Stmt:=top 67
theorem qdQ:qo ["_law_rows_here","_law_moment"] ["_law_rows_here","_law_moment"] (qg qbN):=⟨rfl,rfl,rfl,by decide +kernel,rfl,by decide +kernel,by decide +kernel⟩
abbrev qc3:Stmt:=top 68
theorem sc_Laround:qo ["_law_state","_law_name","_law_places_here","_law_tables","_law_moment","_law_word","_law_place","_law_near_here","_law_far","_law_reading_here"] ["_law_state","_law_name","_law_places_here","_law_tables","_law_moment"] (qg qc3):=⟨rfl,rfl,rfl,by decide +kernel,rfl,by decide +kernel,by decide +kernel⟩
abbrev qc2:Stmt:=top 69
theorem sc_Lcommon:qo ["_law_one","_law_other","_law_found","_law_low","_law_high","_law_begin","_law_end"] ["_law_one","_law_other"] (qg qc2):=⟨rfl,rfl,rfl,by decide +kernel,rfl,by decide +kernel,by decide +kernel⟩
abbrev JG:Stmt:=top 70
theorem sc_Lis_sifted:qo ["_law_spec_here","_law_sieve","_law_short"] ["_law_spec_here","_law_sieve"] (qg JG):=⟨rfl,rfl,rfl,by decide +kernel,rfl,by decide +kernel,by decide +kernel⟩
abbrev QC:Stmt:=top 71
theorem qhQ:qo ["_law_spec_here","_law_sieve"] ["_law_spec_here","_law_sieve"] (qg QC):=⟨rfl,rfl,rfl,by decide +kernel,rfl,by decide +kernel,by decide +kernel⟩
abbrev jL:Stmt:=top 72
theorem sc_Lpart_spans:qo ["_law_spec_here","_law_tables","_law_sieve","_law_found","_law_moments","_law_low","_law_high"] ["_law_spec_here","_law_tables","_law_sieve"] (qg jL):=⟨rfl,rfl,rfl,by decide +kernel,rfl,by decide +kernel,by decide +kernel⟩
abbrev qaE:Stmt:=top 73
theorem sc_Lno_place:qo ["_law_entry","_law_tables","_law_found","e"] ["_law_entry","_law_tables"] (qg qaE):=⟨rfl,rfl,rfl,by decide +kernel,rfl,by decide +kernel,by decide +kernel⟩
abbrev jM:Stmt:=top 74
theorem sc_Lpart_right:qo ["_law_part_here","_law_spec_here","_law_sieve","_law_word"] ["_law_part_here","_law_spec_here","_law_sieve"] (qg jM):=⟨rfl,rfl,rfl,by decide +kernel,rfl,by decide +kernel,by decide +kernel⟩
abbrev Z8:Stmt:=top 75
theorem sc_Lparts_right:qo ["_law_entry","_law_specs","_law_sieve","_law_turn","_law_found","_law_part_here","_law_spec_here"] ["_law_entry","_law_specs","_law_sieve"] (qg Z8):=⟨rfl,rfl,rfl,by decide +kernel,rfl,by decide +kernel,by decide +kernel⟩
abbrev qcZ:Stmt:=top 76
theorem sc_Lplaces:qo ["_law_specs","_law_places_here","_law_spec_here"] ["_law_specs"] (qg qcZ):=⟨rfl,rfl,rfl,by decide +kernel,rfl,by decide +kernel,by decide +kernel⟩
abbrev qet:Stmt:=top 77
theorem sc_Llacks:qo ["_law_entry","_law_tabled","_law_places_here","_law_k","_law_left","_law_place"] ["_law_entry","_law_tabled","_law_places_here"] (qg qet):=⟨rfl,rfl,rfl,by decide +kernel,rfl,by decide +kernel,by decide +kernel⟩
abbrev qer:Stmt:=top 78
theorem sc_Lright:qo ["_law_name","_law_specs","_law_tables","_law_sieve","_law_handed","_law_entry","_law_tabled","_law_due","_law_spec_here","_law_places_here","_law_turn","_law_found","_law_told"] ["_law_name","_law_specs","_law_tables","_law_sieve"] (qg qer):=⟨rfl,rfl,rfl,by decide +kernel,rfl,by decide +kernel,by decide +kernel⟩
abbrev qkL:Stmt:=top 79
theorem sc_law:qo ["_law_script","_law_k","_law_state","_law_names_here","_law_tables","_law_place","_law_moment","_law_about","_law_specs","_law_j","_law_every","_law_sieve"] ["_law_script"] (qg qkL):=⟨rfl,rfl,rfl,by decide +kernel,rfl,by decide +kernel,by decide +kernel⟩
abbrev JK:Stmt:=qQ (top 33) 0
theorem qch:qo ["self","name"] ["self","name"] (qg JK):=⟨rfl,rfl,rfl,by decide +kernel,rfl,by decide +kernel,by decide +kernel⟩
abbrev JJ:Stmt:=qQ (top 33) 1
theorem qcg:qo ["self"] ["self"] (qg JJ):=⟨rfl,rfl,rfl,by decide +kernel,rfl,by decide +kernel,by decide +kernel⟩
abbrev ja:Stmt:=qQ (top 33) 2
theorem qaw:qo ["self"] ["self"] (qg ja):=⟨rfl,rfl,rfl,by decide +kernel,rfl,by decide +kernel,by decide +kernel⟩
abbrev jP:Stmt:=qQ (top 33) 3
theorem qbf:qo ["self","tables"] ["self","tables"] (qg jP):=⟨rfl,rfl,rfl,by decide +kernel,rfl,by decide +kernel,by decide +kernel⟩
abbrev jI:Stmt:=qQ (top 34) 0
theorem qbb:qo ["self","name","low","high"] ["self","name","low","high"] (qg jI):=⟨rfl,rfl,rfl,by decide +kernel,rfl,by decide +kernel,by decide +kernel⟩
abbrev jH:Stmt:=qQ (top 34) 1
theorem qba:qo ["self"] ["self"] (qg jH):=⟨rfl,rfl,rfl,by decide +kernel,rfl,by decide +kernel,by decide +kernel⟩
abbrev Z4:Stmt:=qQ (top 34) 2
theorem qau:qo ["self","tables"] ["self","tables"] (qg Z4):=⟨rfl,rfl,rfl,by decide +kernel,rfl,by decide +kernel,by decide +kernel⟩
abbrev qc5:Stmt:=qQ (top 35) 0
theorem qfd:qo ["self","name","moment"] ["self","name","moment"] (qg qc5):=⟨rfl,rfl,rfl,by decide +kernel,rfl,by decide +kernel,by decide +kernel⟩
abbrev qc4:Stmt:=qQ (top 35) 1
theorem qfc:qo ["self"] ["self"] (qg qc4):=⟨rfl,rfl,rfl,by decide +kernel,rfl,by decide +kernel,by decide +kernel⟩
abbrev jc:Stmt:=qQ (top 36) 0
theorem qay:qo ["self","name","place","low","high"] ["self","name","place","low","high"] (qg jc):=⟨rfl,rfl,rfl,by decide +kernel,rfl,by decide +kernel,by decide +kernel⟩
abbrev jb:Stmt:=qQ (top 36) 1
theorem qax:qo ["self"] ["self"] (qg jb):=⟨rfl,rfl,rfl,by decide +kernel,rfl,by decide +kernel,by decide +kernel⟩
abbrev Zf:Stmt:=qQ (top 36) 2
theorem j9:qo ["self"] ["self"] (qg Zf):=⟨rfl,rfl,rfl,by decide +kernel,rfl,by decide +kernel,by decide +kernel⟩
abbrev ZF:Stmt:=qQ (top 36) 3
theorem JW:qo ["self","tables"] ["self","tables"] (qg ZF):=⟨rfl,rfl,rfl,by decide +kernel,rfl,by decide +kernel,by decide +kernel⟩
abbrev qaD:Stmt:=qQ (top 37) 0
theorem qcX:qo ["self","name","place","reading"] ["self","name","place","reading"] (qg qaD):=⟨rfl,rfl,rfl,by decide +kernel,rfl,by decide +kernel,by decide +kernel⟩
abbrev qaC:Stmt:=qQ (top 37) 1
theorem qcW:qo ["self"] ["self"] (qg qaC):=⟨rfl,rfl,rfl,by decide +kernel,rfl,by decide +kernel,by decide +kernel⟩
abbrev JI:Stmt:=qQ (top 38) 0
theorem qcf:qo ["self","name","parts"] ["self","name","parts"] (qg JI):=⟨rfl,rfl,rfl,by decide +kernel,rfl,by decide +kernel,by decide +kernel⟩
abbrev JH:Stmt:=qQ (top 38) 1
theorem qce:qo ["self"] ["self"] (qg JH):=⟨rfl,rfl,rfl,by decide +kernel,rfl,by decide +kernel,by decide +kernel⟩
abbrev jO:Stmt:=qQ (top 38) 2
theorem qbe:qo ["self"] ["self"] (qg jO):=⟨rfl,rfl,rfl,by decide +kernel,rfl,by decide +kernel,by decide +kernel⟩
abbrev Z9:Stmt:=qQ (top 38) 3
theorem sc_Joint_places:qo ["self","told","part"] ["self"] (qg Z9):=⟨rfl,rfl,rfl,by decide +kernel,rfl,by decide +kernel,by decide +kernel⟩
abbrev jN:Stmt:=qQ (top 38) 4
theorem sc_Joint_spans:qo ["self","tables","told","part"] ["self","tables"] (qg jN):=⟨rfl,rfl,rfl,by decide +kernel,rfl,by decide +kernel,by decide +kernel⟩
abbrev jK:Stmt:=qQ (top 39) 0
theorem qbd:qo ["self","name","part","keeps"] ["self","name","part","keeps"] (qg jK):=⟨rfl,rfl,rfl,by decide +kernel,rfl,by decide +kernel,by decide +kernel⟩
abbrev jJ:Stmt:=qQ (top 39) 1
theorem qbc:qo ["self"] ["self"] (qg jJ):=⟨rfl,rfl,rfl,by decide +kernel,rfl,by decide +kernel,by decide +kernel⟩
abbrev ZD:Stmt:=qQ (top 39) 2
theorem JU:qo ["self"] ["self"] (qg ZD):=⟨rfl,rfl,rfl,by decide +kernel,rfl,by decide +kernel,by decide +kernel⟩
abbrev Z6:Stmt:=qQ (top 39) 3
theorem sc_Sifted_spans:qo ["self","tables","keeps","told","low","high"] ["self","tables"] (qg Z6):=⟨rfl,rfl,rfl,by decide +kernel,rfl,by decide +kernel,by decide +kernel⟩
abbrev JF:Stmt:=qQ (top 49) 0
theorem qcd:qo ["self","rows"] ["self","rows"] (qg JF):=⟨rfl,rfl,rfl,by decide +kernel,rfl,by decide +kernel,by decide +kernel⟩
abbrev Z5:Stmt:=qQ (top 49) 2
theorem sc_Table_pieces:qo ["self","ends"] ["self"] (qg Z5):=⟨rfl,rfl,rfl,by decide +kernel,rfl,by decide +kernel,by decide +kernel⟩
abbrev zQ:Stmt:=qQ (top 49) 6
theorem QP:qo ["self","low","high"] ["self","low","high"] (qg zQ):=⟨rfl,rfl,rfl,by decide +kernel,rfl,by decide +kernel,by decide +kernel⟩
abbrev Z7:Stmt:=qQ (top 9) 0
theorem qav:qo ["self","found"] ["self","found"] (qg Z7):=⟨rfl,rfl,rfl,by decide +kernel,rfl,by decide +kernel,by decide +kernel⟩
abbrev ZE:Stmt:=qQ (top 2) 0
theorem JV:qo ["self","text"] ["self","text"] (qg ZE):=⟨rfl,rfl,rfl,by decide +kernel,rfl,by decide +kernel,by decide +kernel⟩
set_option genInjectivity false in
structure Ad where
 k_Lpart:Addr
 t_Lpart:Addr
 c_LogError:Addr
 c_NoSpans:Addr
 c_NoTable:Addr
 c_TooMany:Addr
 c_NoMoment:Addr
 c_NoReading:Addr
 c_NoName:Addr
 c_NoPlace:Addr
 c_NoEntry:Addr
 c_Entry:Addr
 c_Within:Addr
 c_At:Addr
 c_Between:Addr
 c_Read:Addr
 c_Joint:Addr
 c_Sifted:Addr
 c_Table:Addr
 f_j:Addr
 fd_j:FuncData
 f_f:Addr
 fd_f:FuncData
 f_n:Addr
 fd_n:FuncData
 f_k:Addr
 fd_k:FuncData
 f_J:Addr
 fd_J:FuncData
 f_K:Addr
 fd_K:FuncData
 f_L:Addr
 fd_L:FuncData
 f_g:Addr
 fd_g:FuncData
 f_M:Addr
 fd_M:FuncData
 f_N:Addr
 fd_N:FuncData
 f_o:Addr
 fd_o:FuncData
 f_w:Addr
 fd_w:FuncData
 f_x:Addr
 fd_x:FuncData
 f_O:Addr
 fd_O:FuncData
 f_P:Addr
 fd_P:FuncData
 f_Q:Addr
 fd_Q:FuncData
 f_R:Addr
 fd_R:FuncData
 f_S:Addr
 fd_S:FuncData
 f_T:Addr
 fd_T:FuncData
 f_y:Addr
 fd_y:FuncData
 f_U:Addr
 fd_U:FuncData
 f_a:Addr
 fd_a:FuncData
 f_V:Addr
 fd_V:FuncData
 f_z:Addr
 fd_z:FuncData
 f_W:Addr
 fd_W:FuncData
 f_p:Addr
 fd_p:FuncData
 f_h:Addr
 fd_h:FuncData
 f_X:Addr
 fd_X:FuncData
 f_Y:Addr
 fd_Y:FuncData
 f_Z:Addr
 fd_Z:FuncData
 f_0:Addr
 fd_0:FuncData
 f_A:Addr
 fd_A:FuncData
 f_1:Addr
 fd_1:FuncData
 f_2:Addr
 fd_2:FuncData
 f_3:Addr
 fd_3:FuncData
 f_4:Addr
 fd_4:FuncData
 f_i:Addr
 fd_i:FuncData
 f_I:Addr
 fd_I:FuncData
 f_5:Addr
 fd_5:FuncData
 f_B:Addr
 fd_B:FuncData
 f_6:Addr
 fd_6:FuncData
 f_7:Addr
 fd_7:FuncData
 f_8:Addr
 fd_8:FuncData
 f_9:Addr
 fd_9:FuncData
 f_aa:Addr
 fd_aa:FuncData
 f_ap:Addr
 fd_ap:FuncData
 f_c:Addr
 fd_c:FuncData
 f_C:Addr
 fd_C:FuncData
 f_b:Addr
 fd_b:FuncData
 f_ab:Addr
 fd_ab:FuncData
 f_r:Addr
 fd_r:FuncData
 f_D:Addr
 fd_D:FuncData
 f_d:Addr
 fd_d:FuncData
 f_v:Addr
 fd_v:FuncData
 f_E:Addr
 fd_E:FuncData
 f_s:Addr
 fd_s:FuncData
 f_F:Addr
 fd_F:FuncData
 f_e:Addr
 fd_e:FuncData
 f_m:Addr
 fd_m:FuncData
 f_ac:Addr
 fd_ac:FuncData
 f_G:Addr
 fd_G:FuncData
 f_ad:Addr
 fd_ad:FuncData
 f_ae:Addr
 fd_ae:FuncData
 f_af:Addr
 fd_af:FuncData
 f_ag:Addr
 fd_ag:FuncData
 f_u:Addr
 fd_u:FuncData
 f_ah:Addr
 fd_ah:FuncData
 f_H:Addr
 fd_H:FuncData
 f_ai:Addr
 fd_ai:FuncData
 f_aj:Addr
 fd_aj:FuncData
 f_ak:Addr
 fd_ak:FuncData
 f_al:Addr
 fd_al:FuncData
 f_am:Addr
 fd_am:FuncData
 f_an:Addr
 fd_an:FuncData
 f_ao:Addr
 fd_ao:FuncData
structure DfM (K:Frag) (C:Addr) (x q:Str) (st:Stmt) (ps:List Str) (f:Addr) (fd:FuncData):Prop where
 F:Fun K x q st f fd
 b:Binds K fd ps []
 mt:qhw K C x f
structure Txt (K:Frag) (mg:Str->Option Value) (a:Ad):Prop where
 d_j:Df K mg "is_number" qaA ["thing"] a.f_j a.fd_j
 d_f:Df K mg "is_whole" qbL ["thing","low","high"] a.f_f a.fd_f
 d_n:Df K mg "is_moment" qaB ["thing"] a.f_n a.fd_n
 d_k:Df K mg "is_reading" JB ["thing"] a.f_k a.fd_k
 d_J:Df K mg "is_name" qcY ["thing"] a.f_J a.fd_J
 d_K:Df K mg "is_stretch" JA ["thing"] a.f_K a.fd_K
 d_L:Df K mg "check_stretches" QQ ["stretches"] a.f_L a.fd_L
 d_g:Df K mg "spans_of" qbK ["stretches"] a.f_g a.fd_g
 d_M:Df K mg "both" qiN ["one","other"] a.f_M a.fd_M
 d_N:Df K mg "how_many" qbM ["spans"] a.f_N a.fd_N
 d_o:Df K mg "check_name" JE ["thing"] a.f_o a.fd_o
 d_w:Df K mg "check_moment" Z3 ["thing"] a.f_w a.fd_w
 d_x:Df K mg "check_reading" ZC ["thing"] a.f_x a.fd_x
 d_O:Df K mg "check_parts" jG ["parts"] a.f_O a.fd_O
 d_P:Df K mg "check_part" JD ["part"] a.f_P a.fd_P
 d_Q:Df K mg "is_row" qen ["thing","widest"] a.f_Q a.fd_Q
 d_R:Df K mg "may_stand" qaz ["rows","place"] a.f_R a.fd_R
 d_S:Df K mg "check_rows" JC ["rows","most","widest"] a.f_S a.fd_S
 d_T:Df K mg "_law_cell" qf8 ["_law_script","_law_k"] a.f_T a.fd_T
 d_y:Df K mg "_law_mix" qiO ["_law_cell_here","_law_k"] a.f_y a.fd_y
 d_U:Df K mg "_law_begun" qeu ["_law_cell_here"] a.f_U a.fd_U
 d_a:Df K mg "_law_pull" qf5 ["_law_state","_law_many"] a.f_a a.fd_a
 d_V:Df K mg "_law_names" qes ["_law_state","_law_many"] a.f_V a.fd_V
 d_z:Df K mg "_law_shift" qeq ["_law_state"] a.f_z a.fd_z
 d_W:Df K mg "_law_rows" qf4 ["_law_state"] a.f_W a.fd_W
 d_p:Df K mg "_law_pieces" qc0 ["_law_rows_here"] a.f_p a.fd_p
 d_h:Df K mg "_law_joined" qc1 ["_law_stretches"] a.f_h a.fd_h
 d_X:Df K mg "_law_shown" qep ["_law_rows_here","_law_low","_law_high"] a.f_X a.fd_X
 d_Y:Df K mg "_law_same" qf3 ["_law_found","_law_due"] a.f_Y a.fd_Y
 d_Z:Df K mg "_law_near" qf6 ["_law_state","_law_rows_here"] a.f_Z a.fd_Z
 d_0:Df K mg "_law_spec" qf2 ["_law_state","_law_name","_law_places_here","_law_tables"] a.f_0 a.fd_0
 d_A:Df K mg "_law_made" qf7 ["_law_spec_here"] a.f_A a.fd_A
 d_1:Df K mg "_law_spans" qeo ["_law_spec_here","_law_tables"] a.f_1 a.fd_1
 d_2:Df K mg "_law_reading" qbN ["_law_rows_here","_law_moment"] a.f_2 a.fd_2
 d_3:Df K mg "_law_around" qc3 ["_law_state","_law_name","_law_places_here","_law_tables","_law_moment"] a.f_3 a.fd_3
 d_4:Df K mg "_law_common" qc2 ["_law_one","_law_other"] a.f_4 a.fd_4
 d_i:Df K mg "_law_is_sifted" JG ["_law_spec_here","_law_sieve"] a.f_i a.fd_i
 d_I:Df K mg "_law_part" QC ["_law_spec_here","_law_sieve"] a.f_I a.fd_I
 d_5:Df K mg "_law_part_spans" jL ["_law_spec_here","_law_tables","_law_sieve"] a.f_5 a.fd_5
 d_B:Df K mg "_law_no_place" qaE ["_law_entry","_law_tables"] a.f_B a.fd_B
 d_6:Df K mg "_law_part_right" jM ["_law_part_here","_law_spec_here","_law_sieve"] a.f_6 a.fd_6
 d_7:Df K mg "_law_parts_right" Z8 ["_law_entry","_law_specs","_law_sieve"] a.f_7 a.fd_7
 d_8:Df K mg "_law_places" qcZ ["_law_specs"] a.f_8 a.fd_8
 d_9:Df K mg "_law_lacks" qet ["_law_entry","_law_tabled","_law_places_here"] a.f_9 a.fd_9
 d_aa:Df K mg "_law_right" qer ["_law_name","_law_specs","_law_tables","_law_sieve"] a.f_aa a.fd_aa
 d_ap:Df K mg "law" qkL ["_law_script"] a.f_ap a.fd_ap
 d_c:DfM K a.c_Entry "__init__" "Entry.__init__" JK ["self","name"] a.f_c a.fd_c
 d_C:DfM K a.c_Entry "word" "Entry.word" JJ ["self"] a.f_C a.fd_C
 d_b:DfM K a.c_Entry "places" "Entry.places" ja ["self"] a.f_b a.fd_b
 d_ab:DfM K a.c_Entry "spans" "Entry.spans" jP ["self","tables"] a.f_ab a.fd_ab
 d_r:DfM K a.c_Within "__init__" "Within.__init__" jI ["self","name","low","high"] a.f_r a.fd_r
 d_D:DfM K a.c_Within "word" "Within.word" jH ["self"] a.f_D a.fd_D
 d_d:DfM K a.c_Within "spans" "Within.spans" Z4 ["self","tables"] a.f_d a.fd_d
 d_v:DfM K a.c_At "__init__" "At.__init__" qc5 ["self","name","moment"] a.f_v a.fd_v
 d_E:DfM K a.c_At "word" "At.word" qc4 ["self"] a.f_E a.fd_E
 d_s:DfM K a.c_Between "__init__" "Between.__init__" jc ["self","name","place","low","high"] a.f_s a.fd_s
 d_F:DfM K a.c_Between "word" "Between.word" jb ["self"] a.f_F a.fd_F
 d_e:DfM K a.c_Between "places" "Between.places" Zf ["self"] a.f_e a.fd_e
 d_m:DfM K a.c_Between "spans" "Between.spans" ZF ["self","tables"] a.f_m a.fd_m
 d_ac:DfM K a.c_Read "__init__" "Read.__init__" qaD ["self","name","place","reading"] a.f_ac a.fd_ac
 d_G:DfM K a.c_Read "word" "Read.word" qaC ["self"] a.f_G a.fd_G
 d_ad:DfM K a.c_Joint "__init__" "Joint.__init__" JI ["self","name","parts"] a.f_ad a.fd_ad
 d_ae:DfM K a.c_Joint "word" "Joint.word" JH ["self"] a.f_ae a.fd_ae
 d_af:DfM K a.c_Joint "parts" "Joint.parts" jO ["self"] a.f_af a.fd_af
 d_ag:DfM K a.c_Joint "places" "Joint.places" Z9 ["self"] a.f_ag a.fd_ag
 d_u:DfM K a.c_Joint "spans" "Joint.spans" jN ["self","tables"] a.f_u a.fd_u
 d_ah:DfM K a.c_Sifted "__init__" "Sifted.__init__" jK ["self","name","part","keeps"] a.f_ah a.fd_ah
 d_H:DfM K a.c_Sifted "word" "Sifted.word" jJ ["self"] a.f_H a.fd_H
 d_ai:DfM K a.c_Sifted "places" "Sifted.places" ZD ["self"] a.f_ai a.fd_ai
 d_aj:DfM K a.c_Sifted "spans" "Sifted.spans" Z6 ["self","tables"] a.f_aj a.fd_aj
 d_ak:DfM K a.c_Table "__init__" "Table.__init__" JF ["self","rows"] a.f_ak a.fd_ak
 d_al:DfM K a.c_Table "pieces" "Table.pieces" Z5 ["self"] a.f_al a.fd_al
 d_am:DfM K a.c_Table "moments_between" "Table.moments_between" zQ ["self","low","high"] a.f_am a.fd_am
 d_an:DfM K a.c_NoPlace "__init__" "NoPlace.__init__" Z7 ["self","found"] a.f_an a.fd_an
 d_ao:DfM K a.c_LogError "__init__" "LogError.__init__" ZE ["self","text"] a.f_ao a.fd_ao
 g_Entry:mg "Entry"=some (.ref a.c_Entry)
 cl_Entry:Cls K a.c_Entry
 M_Entry:Mk K a.c_Entry a.f_c
 n_Entry_name:NoAttr K a.c_Entry "name"
 g_Within:mg "Within"=some (.ref a.c_Within)
 cl_Within:Cls K a.c_Within
 M_Within:Mk K a.c_Within a.f_r
 n_Within_low:NoAttr K a.c_Within "low"
 n_Within_high:NoAttr K a.c_Within "high"
 n_Within_name:NoAttr K a.c_Within "name"
 g_At:mg "At"=some (.ref a.c_At)
 cl_At:Cls K a.c_At
 M_At:Mk K a.c_At a.f_v
 n_At_low:NoAttr K a.c_At "low"
 n_At_high:NoAttr K a.c_At "high"
 n_At_name:NoAttr K a.c_At "name"
 g_Between:mg "Between"=some (.ref a.c_Between)
 cl_Between:Cls K a.c_Between
 M_Between:Mk K a.c_Between a.f_s
 n_Between_place:NoAttr K a.c_Between "place"
 n_Between_low:NoAttr K a.c_Between "low"
 n_Between_high:NoAttr K a.c_Between "high"
 n_Between_name:NoAttr K a.c_Between "name"
 g_Read:mg "Read"=some (.ref a.c_Read)
 cl_Read:Cls K a.c_Read
 M_Read:Mk K a.c_Read a.f_ac
 n_Read_place:NoAttr K a.c_Read "place"
 n_Read_low:NoAttr K a.c_Read "low"
 n_Read_high:NoAttr K a.c_Read "high"
 n_Read_name:NoAttr K a.c_Read "name"
 g_Joint:mg "Joint"=some (.ref a.c_Joint)
 cl_Joint:Cls K a.c_Joint
 M_Joint:Mk K a.c_Joint a.f_ad
 n_Joint_kept_parts:NoAttr K a.c_Joint "kept_parts"
 n_Joint_name:NoAttr K a.c_Joint "name"
 g_Sifted:mg "Sifted"=some (.ref a.c_Sifted)
 cl_Sifted:Cls K a.c_Sifted
 M_Sifted:Mk K a.c_Sifted a.f_ah
 n_Sifted_part:NoAttr K a.c_Sifted "part"
 n_Sifted_keeps:NoAttr K a.c_Sifted "keeps"
 n_Sifted_name:NoAttr K a.c_Sifted "name"
 g_Table:mg "Table"=some (.ref a.c_Table)
 cl_Table:Cls K a.c_Table
 M_Table:Mk K a.c_Table a.f_ak
 n_Table_kept:NoAttr K a.c_Table "kept"
 n_len:mg "len"=none
 n_max:mg "max"=none
 n_min:mg "min"=none
 n_isinstance:mg "isinstance"=none
 n_range:mg "range"=none
 n_enumerate:mg "enumerate"=none
 n_int:mg "int"=none
 n_bool:mg "bool"=none
 n_str:mg "str"=none
 n_list:mg "list"=none
 n_tuple:mg "tuple"=none
 n_dict:mg "dict"=none
 n_sorted:mg "sorted"=none
 n_sum:mg "sum"=none
 n_zip:mg "zip"=none
 n_all:mg "all"=none
 g_LAST:∃ t,mg "LAST"=some (.int 1000000000 t)
 g_WIDEST_READING:∃ t,mg "WIDEST_READING"=some (.int 10000000000 t)
 g_LONGEST_NAME:∃ t,mg "LONGEST_NAME"=some (.int 8 t)
 g_MOST_PARTS:∃ t,mg "MOST_PARTS"=some (.int 8 t)
 g_MOST_SIFTED:∃ t,mg "MOST_SIFTED"=some (.int 1000 t)
 g_MOST_ROWS:∃ t,mg "MOST_ROWS"=some (.int 21 t)
 g_WIDEST_SHIFT:∃ t,mg "WIDEST_SHIFT"=some (.int 2880 t)
 n_ValueError:mg "ValueError"=none
 g_LogError:mg "LogError"=some (.ref a.c_LogError)
 g_NoSpans:mg "NoSpans"=some (.ref a.c_NoSpans)
 g_NoTable:mg "NoTable"=some (.ref a.c_NoTable)
 g_TooMany:mg "TooMany"=some (.ref a.c_TooMany)
 g_NoMoment:mg "NoMoment"=some (.ref a.c_NoMoment)
 g_NoReading:mg "NoReading"=some (.ref a.c_NoReading)
 g_NoName:mg "NoName"=some (.ref a.c_NoName)
 g_NoPlace:mg "NoPlace"=some (.ref a.c_NoPlace)
 g_NoEntry:mg "NoEntry"=some (.ref a.c_NoEntry)
 xl_LogError:xIn K a.c_LogError=true
 ci_LogError:qhy K a.c_LogError a.f_ao
 X_NoPlace:XMk K a.c_NoPlace a.f_an
 up_NoPlace:PySem.W.mroIn K a.c_NoPlace (.ref a.c_LogError)=some true
 n_NoPlace_found:NoAttr K a.c_NoPlace "found"
 is_NoPlace_NoPlace:qks K a.c_NoPlace (.ref a.c_NoPlace)=some true
 i_Within_places:qhw K a.c_Within "places" a.f_b
 i_At_places:qhw K a.c_At "places" a.f_b
 i_At_spans:qhw K a.c_At "spans" a.f_d
 i_Read_places:qhw K a.c_Read "places" a.f_e
 i_Read_spans:qhw K a.c_Read "spans" a.f_m
 ci_Entry:qhy K a.c_Entry a.f_c
 ci_Within:qhy K a.c_Within a.f_r
 ci_Between:qhy K a.c_Between a.f_s
 mr_Entry:XMro K a.c_Entry [some a.c_Entry,none]
 io_Entry:InsF K a.c_Entry
 mr_Within:XMro K a.c_Within [some a.c_Within,some a.c_Entry,none]
 io_Within:InsF K a.c_Within
 mr_At:XMro K a.c_At [some a.c_At,some a.c_Within,some a.c_Entry,none]
 io_At:InsF K a.c_At
 mr_Between:XMro K a.c_Between [some a.c_Between,some a.c_Entry,none]
 io_Between:InsF K a.c_Between
 mr_Read:XMro K a.c_Read [some a.c_Read,some a.c_Between,some a.c_Entry,none]
 io_Read:InsF K a.c_Read
 mr_Joint:XMro K a.c_Joint [some a.c_Joint,some a.c_Entry,none]
 io_Joint:InsF K a.c_Joint
 mr_Sifted:XMro K a.c_Sifted [some a.c_Sifted,some a.c_Entry,none]
 io_Sifted:InsF K a.c_Sifted
 mr_Table:XMro K a.c_Table [some a.c_Table,none]
 io_Table:InsF K a.c_Table
 t_Entry:qhC K a.c_Entry
 t_Within:qhC K a.c_Within
 t_At:qhC K a.c_At
 t_Between:qhC K a.c_Between
 t_Read:qhC K a.c_Read
 t_Joint:qhC K a.c_Joint
 t_Sifted:qhC K a.c_Sifted
 t_Table:qhC K a.c_Table
 ndc:([a.c_Entry,a.c_Within,a.c_At,a.c_Between,a.c_Read,a.c_Joint,a.c_Sifted,a.c_Table]:List Addr).Nodup
 cd_Lpart:a.fd_I.code=.ref a.k_Lpart
 hd_Lpart:PySem.W.codeHdIn K a.k_Lpart a.t_Lpart=true
theorem zY {α β:Type}{f:α->β}{xs:List α}{i:Nat}{y:β} (h:(xs.map f)[i]?=some y):∃ x,xs[i]?=some x∧y=f x:=by
 rw[List.getElem?_map]at h
 cases e:xs[i]? with
 | none=>rw[e]at h;cases h
 | some x=>rw[e]at h;exact⟨x,rfl,(Option.some.inj h).symm⟩
def Asc (rows:List (Int×Int)):Prop:=rows.Pairwise fun a b=>a.1 < b.1
def g2 (p:Int×Int):List Int:=[p.1,p.2]
abbrev pr:Int×Int->List V:=fun p=>(g2 p).map V.int
structure Good (rows:List (Int×Int)):Prop where
 few:rows.length≤21
 fst:∃ n,rows.head?=some (0,n)
 asc:Asc rows
 ok:∀ r∈rows,0≤r.1∧r.1≤1000000000∧-2880≤r.2∧r.2≤2880
structure Pa (rows:List (Int×Int)) (mo:Int):Prop where
 fst:(rows=[]∧mo=0)∨∃ n,rows.head?=some (0,n)
 asc:Asc rows
 top:∀ r∈rows,r.1≤mo
 ok:∀ r∈rows,0≤r.1∧-2880≤r.2∧r.2≤2880
theorem Pa.nil:Pa [] 0:=⟨.inl ⟨rfl,rfl⟩,List.Pairwise.nil,(fun r m=>nomatch m),(fun r m=>nomatch m)⟩
theorem Pa.snoc {rows:List (Int×Int)}{mo m s:Int} (h:Pa rows mo) (h0:rows=[]->m=0) (h1:rows≠[]->mo < m) (m0:0≤m) (s0:-2880≤s) (s1:s≤2880):Pa (rows++[(m,s)]) m:=by
 have lt:∀ r∈rows,r.1 < m:=fun r mr=>by
   have:=h.top r mr
   have:=h1 (fun e=>by rw[e]at mr;cases mr)
   omega
 refine⟨.inr ?_,List.pairwise_append.mpr ⟨h.asc,List.pairwise_singleton _ _,fun r mr b mb=>?_⟩,fun r mr=>?_,fun r mr=>?_⟩
 · cases rows with
   | nil=>exact⟨s,by rw[h0 rfl];rfl⟩
   | cons r rs =>
     rcases h.fst with z|⟨n,hn⟩
     · cases z.1
     · exact⟨n,by simpa using hn⟩
 · have e:b=(m,s):=by simpa using mb
   rw[e];exact lt r mr
 · rcases List.mem_append.mp mr with mr|mr
   · exact Int.le_of_lt (lt r mr)
   · have e:r=(m,s):=by simpa using mr
     rw[e];exact Int.le_refl _
 · rcases List.mem_append.mp mr with mr|mr
   · exact h.ok r mr
   · have e:r=(m,s):=by simpa using mr
     rw[e];exact⟨m0,s0,s1⟩
theorem Pa.good {rows:List (Int×Int)}{mo:Int} (h:Pa rows mo) (hm:mo≤1000000000) (h0:0 < rows.length) (h1:rows.length≤21):Good rows:=by
 refine⟨h1,?_,h.asc,fun r m=>?_⟩
 · rcases h.fst with z|z
   · rw[z.1]at h0;simp at h0
   · exact z
 · have:=h.ok r m
   have:=h.top r m
   omega
theorem Pa.far {rows:List (Int×Int)}{mo:Int}{l:Int×Int} (h:Pa rows mo) (hm:mo≤1000000000) (h0:1 < rows.length) (h1:rows.length≤21) (el:rows.getLast?=some l):Good (rows.set (rows.length - 1) (1000000000,l.2)):=by
 obtain⟨ys,rfl⟩:=List.getLast?_eq_some_iff.mp el
 have ey:(ys++[l]).set ((ys++[l]).length - 1) (1000000000,l.2)=ys++[(1000000000,l.2)]:=by
   rw[List.length_append];show (ys++[l]).set (ys.length+1 - 1) _=_;rw[Nat.add_sub_cancel,List.set_append_right _ _ (Nat.le_refl _),Nat.sub_self];rfl
 rw[ey];have hl:ys.length+1≤21:=by rw[List.length_append]at h1;exact h1
 have pos:0 < ys.length:=by rw[List.length_append]at h0;simp at h0;omega
 have okl:=h.ok l (by simp)
 have lt:∀ r∈ys,r.1 < 1000000000:=fun r mr=>by
   have h2:=(List.pairwise_append.mp h.asc).2.2 r mr l (by simp);have h3:=h.top l (by simp);have h4:r.1 < l.1:=h2;omega
 refine⟨by rw[List.length_append];exact hl,?_,List.pairwise_append.mpr ⟨(List.pairwise_append.mp h.asc).1,List.pairwise_singleton _ _,fun r mr b mb=>?_⟩,fun r mr=>?_⟩
 · rcases h.fst with z|⟨n,hn⟩
   · simp at z
   · cases ys with
     | nil=>simp at pos
     | cons r rs=>exact⟨n,by simpa using hn⟩
 · have e:b=(1000000000,l.2):=by simpa using mb
   rw[e];exact lt r mr
 · rcases List.mem_append.mp mr with mr|mr
   · have:=h.ok r (List.mem_append_left _ mr)
     have:=lt r mr
     omega
   · have e:r=(1000000000,l.2):=by simpa using mr
     rw[e];exact⟨(by show (0:Int)≤1000000000;decide),(by show (1000000000:Int)≤1000000000;decide),okl.2.1,okl.2.2⟩
theorem atI_last {α:Type}{xs:List α}{x:α} (h:xs.getLast?=some x):atI xs (-1)=some x:=by
 have hne:0 < xs.length:=List.length_pos_iff.mpr (fun z=>by rw[z]at h;cases h);unfold atI ixN;rw[if_neg (by decide),if_pos (by omega)];show xs[((-1:Int)+(xs.length:Int)).toNat]?=_;rw[tn_ xs.length,← List.getLast?_eq_getElem?];exact h
theorem qcy {n:Nat} (h:0 < n):ixN n (-1)=some (n - 1):=by
 unfold ixN;rw[if_neg (by decide),if_pos (by omega)];rw[tn_ n]
theorem TupL.last {H:Hp}{zs:List V}{ps:List (Int×Int)}{p:Int×Int} (h:TupL pr H zs ps) (e:ps.getLast?=some p):∃ t,zs.getLast?=some (.ref t)∧H t=some (.tup (pr p)):=by
 rw[List.getLast?_eq_getElem?]at e;obtain⟨t,h1,h2⟩:=h.at_ e;exact⟨t,by rw[List.getLast?_eq_getElem?,h.1];exact h1,h2⟩
theorem TupL.set {H:Hp}{zs:List V}{ps:List (Int×Int)}{i:Nat}{t:Addr}{p:Int×Int} (h:TupL pr H zs ps) (e:H t=some (.tup (pr p))):TupL pr H (zs.set i (.ref t)) (ps.set i p):=⟨by rw[List.length_set,List.length_set,h.1],fun j z y e1 e2=>by
 rw[List.getElem?_set]at e1 e2;by_cases hj:i=j
 · rw[if_pos hj]at e1 e2;split at e1
   · split at e2
     · cases e1;cases e2;exact⟨t,rfl,e⟩
     · cases e2
   · cases e1
 · rw[if_neg hj]at e1 e2
   exact h.2 j z y e1 e2⟩
inductive qmM (H:Hp) (q:Addr) (rows:List (Int×Int)):Prop
 | mk (zs:_) (h1:H q=some (.lst zs)) (h2:TupL pr H zs rows):qmM H q rows
def Rs (H:Hp) (q:Addr) (rows:List (Int×Int)):Prop:=qmM H q rows
inductive qbG (K:Frag) (vs:List V) (H:Hp) (Q:VK):Prop
 | mk (a:Addr) (ns:List Int) (k:Int) (h1:vs=[.ref a,.int k]) (h2:SqL K H a (ns.map V.int)) (h3:0≤k) (h4:∀ c,Q (.int c) H):qbG K vs H Q
def qem (K:Frag):Sp:=fun vs H Q _=>qbG K vs H Q
inductive qcP (vs:List V) (H:Hp) (Q:VK):Prop
 | mk (c k:Int) (h1:vs=[.int c,.int k]) (h2:∀ n:Int,0≤n->n < 268435456->Q (.int n) H):qcP vs H Q
def qfV:Sp:=fun vs H Q _=>qcP vs H Q
inductive qar (vs:List V) (H:Hp) (Q:VK):Prop
 | mk (c:Int) (h1:vs=[.int c]) (h2:∀ (p:Addr) (A B:Int),H p=none->0≤A->Q (.ref p) (upd H p (.lst [.int A,.int B,.int 0]))):qar vs H Q
def qcR:Sp:=fun vs H Q _=>qar vs H Q
inductive qbA (vs:List V) (H:Hp) (Q:VK):Prop
 | mk (p:Addr) (many:Int) (h1:vs=[.ref p,.int many]) (h2:PenAt H p) (h3:0 < many) (h4:many < 340282366920938463463374607431768211456) (h5:∀ (d:Int) (H':Hp),0≤d->d < many->But p H H'->PenAt H' p->Q (.int d) H'):qbA vs H Q
def Qu:Sp:=fun vs H Q _=>qbA vs H Q
inductive qam (vs:List V) (H:Hp) (Q:VK):Prop
 | mk (p:Addr) (h1:vs=[.ref p]) (h2:PenAt H p) (h3:∀ (d:Int) (H':Hp),-2880≤d->d≤2880->But p H H'->PenAt H' p->Q (.int d) H'):qam vs H Q
def qcM:Sp:=fun vs H Q _=>qam vs H Q
inductive qbz (vs:List V) (H:Hp) (Q:VK):Prop
 | mk (p:Addr) (h1:vs=[.ref p]) (h2:PenAt H p) (h3:∀ (q:Addr) (rows:List (Int×Int)) (H':Hp),H q=none->But p H H'->PenAt H' p->Rs H' q rows->Good rows->Q (.ref q) H'):qbz vs H Q
def qei:Sp:=fun vs H Q _=>qbz vs H Q
theorem But.up {p:Addr}{H:Hp} (o:HO):But p H (upd H p o):=(But.refl p H).put o
section
variable {P:Program}{w:World}{K:Frag}{mg:Str->Option Value}{base:Heap}
theorem qjW {a:Ad} (T:Txt K mg a):qD P w K mg base CX0 1 a.f_y a.fd_y ["_law_cell_here","_law_k"] qfV:=by
 refine T.d_y.F.ok sc_Lmix (fun vs H Q E h=>?_) (fun cdv A outer s H vs Q E hr h=>?_)
 · obtain⟨c,k,rfl,kk⟩:=h;rfl
 · obtain⟨c,k,rfl,kk⟩:=h;have hU:=hr.units
   refine⟨_,(qe (qx (i:=2) sc_Lmix.nd rfl (Or.inl rfl) (qA ZI (qA QT (qA QT (pv 0) (qA ZH qd (pv 1))) qd) qd))
     (qe (qx (i:=2) sc_Lmix.nd rfl (Or.inl rfl) (qA ZI (qA ZH (qA ZI (qA ZH (pv 2) (pv 2)) qd) qd) qd))
     (qf (qt (qA qgp (qA ZI (qA ZH (pv 2) (qA QT (pv 2) qd)) qd) qd))))),?_⟩
   try dsimp only [zb,Cx.nox]
   refine⟨_,rfl,_,rfl,_,_,rfl,rfl,.inl ⟨by decide,by decide⟩,.inl ⟨_,_,rfl,rfl,.inl ⟨_,_,rfl,rfl,_,_,rfl,rfl,(by show (0:Int) < _;decide),?_⟩⟩⟩;(try dsimp only);generalize hn:(c+7919 * k+12345) % 2147483629=n;have n0:0≤n:=by omega
   have n1:n < 2147483629:=by omega
   refine⟨_,rfl,_,rfl,_,_,rfl,rfl,.inl ⟨by omega,by omega⟩,_,_,rfl,rfl,(by show (0:Int) < _;decide),_,_,rfl,rfl,.inr ⟨by decide,by decide⟩,_,_,rfl,rfl,(by show (0:Int) < _;decide),?_⟩;(try dsimp only);generalize hm:n * n % 2147483587 * 48271 % 2147483549=m;have m0:0≤m:=by rw[← hm];exact Int.emod_nonneg _ (by decide)
   have m1:m < 2147483549:=by rw[← hm];exact Int.emod_lt_of_pos _ (by decide)
   refine⟨_,rfl,_,rfl,.inl ⟨_,_,rfl,rfl,_,_,rfl,rfl,.inl ⟨by omega,by omega⟩,_,_,rfl,rfl,(by show (0:Int) < _;decide),_,_,rfl,rfl,⟨by decide,by decide⟩,?_⟩⟩;(try dsimp only);generalize hz:m * (m+31) % 2147483543=z;have z0:0≤z:=by rw[← hz];exact Int.emod_nonneg _ (by decide)
   have z1:z < 2147483543:=by rw[← hz];exact Int.emod_lt_of_pos _ (by decide)
   exact kk _ (by omega) (by omega)
theorem qgx {a:Ad} (T:Txt K mg a):qD P w K mg base CX0 1 a.f_U a.fd_U ["_law_cell_here"] qcR:=by
 refine T.d_U.F.ok qf1 (fun vs H Q E h=>?_) (fun cdv A outer s H vs Q E hr h=>?_)
 · obtain⟨c,rfl,kk⟩:=h;rfl
 · obtain⟨c,rfl,kk⟩:=h;refine⟨_,(qf (qt (qJ (qa (qm (zh rfl) (by rfl) T.n_max zi (qa qd (qa (qA zK (pv 0) (qA zH qd qd)) qb))) (qa (qA ZI (pv 0) qd) (qa qd qb)))))),?_⟩;(try dsimp only [zb,Cx.nox]);refine⟨_,rfl,_,_,rfl,rfl,⟨by decide,by decide,by decide⟩,_,_,rfl,rfl,_,_,rfl,?_⟩;refine⟨_,rfl,_,_,rfl,rfl,(by show (0:Int) < _;decide),qk (Nat.le_of_ble_eq_true rfl),fun p fp=>?_⟩;exact kk p _ _ fp (by split<;>omega)
theorem Q1 {a:Ad} (T:Txt K mg a):qD P w K mg base CX0 2 a.f_a a.fd_a ["_law_state","_law_many"] Qu:=by
 have G_y:=qjW (P:=P) (w:=w) (base:=base) T;refine T.d_a.F.ok sc_Lpull (fun vs H Q E h=>?_) (fun cdv A outer s H vs Q E hr h=>?_)
 · obtain⟨p,many,rfl,⟨c,x,y,c0,hp⟩,m0,m1,kk⟩:=h;rfl
 · obtain⟨p,many,rfl,⟨c,x,y,c0,hp⟩,m0,m1,kk⟩:=h;have h_y:Room (1) _:=hr.mono (by decide)
   refine⟨_,(qe (qO (qw qdb (qz (r:=rIx K) qp (pv 0) qd (fun _ _=>rfl)) qd (qC _))
       (qe (qx (i:=2) sc_Lpull.nd rfl (Or.inl rfl) (qA ZI (qz (r:=rIx K) qp (pv 0) qd (fun _ _=>rfl)) (pv 1)))
       (qe (JL (qA qh5 (qz (r:=rIx K) qp (pv 0) qd (fun _ _=>rfl)) (pv 1)) (qc9 (pv 0) qd jF))
       (qf (qt (pv 2)))))
       qy)
     (qe (JL (qA QT (qz (r:=rIx K) qp (pv 0) qd (fun _ _=>rfl)) qd) (qc9 (pv 0) qd jF))
     (qe (qx (i:=3) sc_Lpull.nd rfl (Or.inl rfl) (qh G_y h_y rfl T.d_y.m T.d_y.k T.d_y.b .nil qq (qa (qz (r:=rIx K) qp (pv 0) qd (fun _ _=>rfl)) (qa (qA ZH qd (qz (r:=rIx K) qp (pv 0) qd (fun _ _=>rfl))) qb))))
     (qe (qx (i:=4) sc_Lpull.nd rfl (Or.inl rfl) (qh G_y h_y rfl T.d_y.m T.d_y.k T.d_y.b .nil qq (qa (qz (r:=rIx K) qp (pv 0) qd (fun _ _=>rfl)) (qa (qA QT (qA ZH qd (qz (r:=rIx K) qp (pv 0) qd (fun _ _=>rfl))) qd) qb))))
     (qf (qt (qA ZI (qA QT (qA ZH (pv 3) qd) (pv 4)) (pv 1)))))))),?_⟩
   try dsimp only [zb,Cx.nox]
   refine⟨_,rfl,.inl ⟨p,_,_,_,rfl,rfl,SqL.of hp,rfl,_,_,rfl,rfl,_,rfl,?_⟩⟩;refine zP (fun hL=>?_) (fun hL=>?_)
   · refine⟨_,rfl,.inl ⟨p,_,_,_,rfl,rfl,SqL.of hp,rfl,_,rfl,_,_,rfl,rfl,m0,?_⟩⟩;refine⟨_,rfl,.inl ⟨p,_,_,_,rfl,rfl,SqL.of hp,rfl,_,rfl,_,_,rfl,rfl,⟨m0,m1⟩,_,rfl,p,_,_,0,rfl,rfl,hp,rfl,?_⟩⟩;refine⟨_,rfl,?_⟩;exact kk _ _ (Int.emod_nonneg _ (by omega)) (Int.emod_lt_of_pos _ m0) (But.up _) ⟨_,x,y,Int.ediv_nonneg c0 (by omega),qc⟩
   · refine⟨_,rfl,.inl ⟨p,_,_,_,rfl,rfl,SqL.of hp,rfl,.inl ⟨_,_,rfl,rfl,_,rfl,p,_,_,2,rfl,rfl,hp,rfl,?_⟩⟩⟩;have h1:(upd H p (.lst ([.int c,.int x,.int y].set 2 (.int (y+1))))) p=some (.lst [.int c,.int x,.int (y+1)]):=qc;have B:But p H (upd H p (.lst ([.int c,.int x,.int y].set 2 (.int (y+1))))):=But.up _;(try dsimp only);generalize upd H p (.lst ([.int c,.int x,.int y].set 2 (.int (y+1))))=G at h1 B ⊢;refine⟨_,rfl,.inl ⟨p,_,_,_,rfl,rfl,SqL.of h1,rfl,_,rfl,.inl ⟨p,_,_,_,rfl,rfl,SqL.of h1,rfl,_,_,rfl,rfl,.inl ⟨by decide,by decide⟩,_,_,rfl,fun n n0 n1=>?_⟩⟩⟩;refine⟨_,rfl,.inl ⟨p,_,_,_,rfl,rfl,SqL.of h1,rfl,_,rfl,.inl ⟨p,_,_,_,rfl,rfl,SqL.of h1,rfl,_,_,rfl,rfl,.inl ⟨by decide,by decide⟩,.inl ⟨_,_,rfl,rfl,_,_,rfl,fun k k0 k1=>?_⟩⟩⟩⟩;refine⟨_,rfl,_,_,rfl,rfl,.inr ⟨by decide,by decide⟩,_,rfl,.inl ⟨_,_,rfl,rfl,_,rfl,_,_,rfl,rfl,m0,?_⟩⟩;exact kk _ _ (Int.emod_nonneg _ (by omega)) (Int.emod_lt_of_pos _ m0) B ⟨c,x,y+1,c0,h1⟩
theorem qgt {a:Ad} (T:Txt K mg a):qD P w K mg base CX0 3 a.f_z a.fd_z ["_law_state"] qcM:=by
 have G_a:=Q1 (P:=P) (w:=w) (base:=base) T;refine T.d_z.F.ok sc_Lshift (fun vs H Q E h=>?_) (fun cdv A outer s H vs Q E hr h=>?_)
 · obtain⟨p,rfl,hp,kk⟩:=h;rfl
 · obtain⟨p,rfl,hp,kk⟩:=h;have hU:=hr.units;have h_a:Room (2) _:=hr.mono (by decide)
   refine⟨_,(qe (qx (i:=1) sc_Lshift.nd rfl (Or.inl rfl) (qh G_a h_a rfl T.d_a.m T.d_a.k T.d_a.b .nil qq (qa (pv 0) (qa qd qb))))
     (qe (qO (qw (uEq hU) (pv 1) qd (qC _))
       (qf (qt (qA ZH qd (qA zK (qh G_a h_a rfl T.d_a.m T.d_a.k T.d_a.b .nil qq (qa (pv 0) (qa qd qb))) qd))))
       qy)
     (qe (qO (qw (uEq hU) (pv 1) qd (qC _))
       (qf (qt (qA zK (qh G_a h_a rfl T.d_a.m T.d_a.k T.d_a.b .nil qq (qa (pv 0) (qa qd qb))) qd)))
       qy)
     (qf (qt (qA zK (qh G_a h_a rfl T.d_a.m T.d_a.k T.d_a.b .nil qq (qa (pv 0) (qa qd qb))) qd)))))),?_⟩
   try dsimp only [zb,Cx.nox]
   refine⟨_,rfl,p,_,rfl,hp,by decide,by decide,fun w G1 w0 w1 B_G1 p_G1=>?_⟩;refine⟨_,rfl,.inl ⟨rfl,_,rfl,?_⟩⟩;refine zP (fun g=>?_) (fun g=>?_)
   · refine⟨_,rfl,p,_,rfl,p_G1,by decide,by decide,fun d G2 d0 d1 B_G2 p_G2=>?_⟩;refine⟨_,_,rfl,rfl,_,_,rfl,rfl,.inl ⟨by decide,by decide⟩,?_⟩;exact kk _ _ (by omega) (by omega) (B_G1.trans B_G2) p_G2
   refine⟨_,rfl,.inl ⟨rfl,_,rfl,?_⟩⟩;refine zP (fun g=>?_) (fun g=>?_)
   · refine⟨_,rfl,p,_,rfl,p_G1,by decide,by decide,fun d G2 d0 d1 B_G2 p_G2=>?_⟩;refine⟨_,_,rfl,rfl,?_⟩;exact kk _ _ (by omega) (by omega) (B_G1.trans B_G2) p_G2
   · refine⟨_,rfl,p,_,rfl,p_G1,by decide,by decide,fun d G2 d0 d1 B_G2 p_G2=>?_⟩;refine⟨_,_,rfl,rfl,?_⟩;exact kk _ _ (by omega) (by omega) (B_G1.trans B_G2) p_G2
end
theorem TupL.pen {H H':Hp}{p:Addr}{zs:List V}{ps:List (Int×Int)} (h:TupL pr H zs ps) (hp:PenAt H p) (b:But p H H'):TupL pr H' zs ps:=⟨h.1,fun j z y e1 e2=>by
 obtain⟨t,e,ht⟩:=h.2 j z y e1 e2;obtain⟨c,x,y',_,hq⟩:=hp
 exact⟨t,e,b _ _ ht (Qm ht hq (by intro z;cases z))⟩⟩
section
variable {P:Program}{w:World}{K:Frag}{mg:Str->Option Value}{base:Heap}
theorem qh8 {a:Ad} (T:Txt K mg a):qD P w K mg base CX0 4 a.f_W a.fd_W ["_law_state"] qei:=by
 have G_a:=Q1 (P:=P) (w:=w) (base:=base) T;have G_z:=qgt (P:=P) (w:=w) (base:=base) T;refine T.d_W.F.ok sc_Lrows (fun vs H Q E h=>?_) (fun cdv A outer s H vs Q E hr h=>?_)
 · obtain⟨p,rfl,hp,kk⟩:=h;rfl
 · obtain⟨p,rfl,hp,kk⟩:=h;have hU:=hr.units;have h_a:Room (2) _:=hr.mono (by decide);have h_z:Room (3) _:=hr.mono (by decide)
   refine⟨_,(@qe _ _ _ _ _ (by exact(@qx _ _ 1 _ _ _ _ (by exact sc_Lrows.nd) (by rfl) (by exact(Or.inl rfl)) (by exact(@qz _ _ _ _ _ _ (rIx K) (by exact qp) (by exact(@qJ _ _ _ _ (by exact(@qa _ _ _ _ _ (by exact qd) (by exact(@qa _ _ _ _ _ (by exact qd) (by exact(@qa _ _ _ _ _ (by exact qd) (by exact(@qa _ _ _ _ _ (by exact qd) (by exact(@qa _ _ _ _ _ (by exact(qA zH qd qd)) (by exact(@qb _)) (by rfl))) (by rfl))) (by rfl))) (by rfl))) (by rfl))))) (by exact(qh G_a h_a rfl T.d_a.m T.d_a.k T.d_a.b .nil qq (qa (pv 0) (qa qd qb)))) (by exact fun _ _=>rfl))) (by rfl) (by exact .inl rfl)))
     (by exact(@qe _ _ _ _ _ (by exact(qx (i:=2) sc_Lrows.nd rfl (Or.inl rfl) (qJ (qa (qV (qa qd (qa (qh G_z h_z rfl T.d_z.m T.d_z.k T.d_z.b .nil qq (qa (pv 0) qb)) qb))) qb))))
     (by exact(@qe _ _ _ _ _ (by exact(@zx _ _ _ _ _ _ _ _ (by exact PassesOwn.never) (by rfl) (by exact(zZ rfl T.n_range (qa (qh G_a h_a rfl T.d_a.m T.d_a.k T.d_a.b .nil qq (qa (pv 0) (qa (qz (r:=rIx K) qp (qJ (qa qd (qa qd (qa qd (qa qd qb))))) (qh G_a h_a rfl T.d_a.m T.d_a.k T.d_a.b .nil qq (qa (pv 0) (qa qd qb))) (fun _ _=>rfl)) qb))) qb))) (by exact(qr (i:=3) (sc_Lrows.nd) rfl (Or.inl rfl)))
       (by exact(qf (qI (ZG PySem.F.plainAttrs_list PySem.F.slot_list_append PySem.F.type_list_append qY (pv 2) (qa (qV (qa (qA QT (qA QT (qz (r:=rIx K) qp (qz (r:=rIx K) qp (pv 2) (Zj zU qd) (fun _ _=>rfl)) qd (fun _ _=>rfl)) qd) (qh G_a h_a rfl T.d_a.m T.d_a.k T.d_a.b .nil qq (qa (pv 0) (qa (qA ZH qd (pv 1)) qb)))) (qa (qh G_z h_z rfl T.d_z.m T.d_z.k T.d_z.b .nil qq (qa (pv 0) qb)) qb))) qb))))) (by intro _;rfl)))
     (by exact(qe (qO (PW.pt (qaG (qw qdb (qm qW (by rfl) T.n_len qM (qa (pv 2) qb)) qd (qC _)) (Ja (qw (uEq hU) (qh G_a h_a rfl T.d_a.m T.d_a.k T.d_a.b .nil qq (qa (pv 0) (qa qd qb))) qd (qC _)))))
       (qf (JL (qV (qa (qA zH qd qd) (qa (qz (r:=rIx K) qp (qz (r:=rIx K) qp (pv 2) (Zj zU qd) (fun _ _=>rfl)) qd (fun _ _=>rfl)) qb))) (qc9 (pv 2) (Zj zU qd) jF)))
       qy)
     (qf (qt (pv 2)))))))))),?_⟩
   try dsimp only [zb,Cx.nox]
   have p0:PenAt H p:=hp;have t0:But p H H:=But.refl p H;refine⟨_,_,rfl,rfl,⟨by decide,by decide,by decide⟩,(qk (Nat.le_of_ble_eq_true rfl)),fun l1 f_l1=>?_⟩;have n_l1:l1≠p:=p0.ne f_l1;have e_l1:(upd H l1 (.lst [.int 1,.int 4,.int 60,.int 1440,.int (10 ^ (7:Int).toNat)])) l1=some (.lst [.int 1,.int 4,.int 60,.int 1440,.int (10 ^ (7:Int).toNat)]):=qc;have p1:PenAt (upd H l1 (.lst [.int 1,.int 4,.int 60,.int 1440,.int (10 ^ (7:Int).toNat)])) p:=p0.upd n_l1 _;have u1:Same H (upd H l1 (.lst [.int 1,.int 4,.int 60,.int 1440,.int (10 ^ (7:Int).toNat)])):=Same.new _ f_l1;have t1:=t0.same u1;(try dsimp only);generalize upd H l1 (.lst [.int 1,.int 4,.int 60,.int 1440,.int (10 ^ (7:Int).toNat)])=G1 at e_l1 p1 u1 t1 ⊢;refine⟨_,rfl,p,_,rfl,p1,by decide,by decide,fun da G2 da0 da1 u2 p2=>?_⟩;have t2:=t1.trans u2;obtain⟨v,hv,mv⟩:=Qq (xs:=([.int 1,.int 4,.int 60,.int 1440,.int (10 ^ (7:Int).toNat)]:List V)) da0 da1
   obtain⟨u,rfl,ub0,ub1⟩:∃ u:Int,v=.int u∧1≤u∧u≤10000000:=by
     simp only[List.mem_cons,List.not_mem_nil,or_false]at mv;rcases mv with rfl|rfl|rfl|rfl|rfl<;>exact⟨_,rfl,by decide,by decide⟩
   refine .inl ⟨l1,_,_,_,rfl,rfl,SqL.of (u2 _ _ e_l1 n_l1),hv,?_⟩;refine⟨_,rfl,p,rfl,p2,fun sh G3 sh0 sh1 u3 p3=>?_⟩;have t3:=t2.trans u3;refine⟨(qk (Nat.le_of_ble_eq_true rfl)),fun t f_t=>?_⟩;have n_t:t≠p:=p3.ne f_t;have e_t:(upd G3 t (.tup [.int 0,.int sh])) t=some (.tup [.int 0,.int sh]):=qc;have p4:PenAt (upd G3 t (.tup [.int 0,.int sh])) p:=p3.upd n_t _;have u4:Same G3 (upd G3 t (.tup [.int 0,.int sh])):=Same.new _ f_t;have t4:=t3.same u4;(try dsimp only);generalize upd G3 t (.tup [.int 0,.int sh])=G4 at e_t p4 u4 t4 ⊢;refine⟨(qk (Nat.le_of_ble_eq_true rfl)),fun q f_q=>?_⟩;have n_q:q≠p:=p4.ne f_q;have e_q:(upd G4 q (.lst [.ref t])) q=some (.lst [.ref t]):=qc;have p5:PenAt (upd G4 q (.lst [.ref t])) p:=p4.upd n_q _;have u5:Same G4 (upd G4 q (.lst [.ref t])):=Same.new _ f_q;have t5:=t4.same u5;(try dsimp only);generalize upd G4 q (.lst [.ref t])=G5 at e_q p5 u5 t5 ⊢;have fqH:H q=none:=(t4).none f_q n_q
   have T0:TupL pr G5 [.ref t] [(0,sh)]:=by
     refine⟨rfl,fun j z y e1 e2=>?_⟩
     cases j with
     | zero=>cases e1;cases e2;exact⟨t,rfl,(u5 _ _ e_t)⟩
     | succ j=>cases e1
   have P0:Pa [(0,sh)] 0:=Pa.nil.snoc (fun _=>rfl) (fun z=>absurd rfl z) (by decide) (by omega) (by omega);clear u1 u2 u3 u4 u5 p0 p1 p2 p3 p4 t0 t1 t2 t3 t4 e_l1 e_t hv;(try unfold qK);(try dsimp only);refine qL (t:=qed _ _ _) (fun σ' H'=>∃ (s3:Option V) (zs:List V) (rows:List (Int×Int)) (mo:Int),σ'=[some (.ref p),some (.int u),some (.ref q),s3]∧But p H H'∧PenAt H' p∧H' q=some (.lst zs)∧TupL pr H' zs rows∧0 < rows.length∧rows.length≤21∧Pa rows mo∧mo≤900000000) (fun N hN=>?_) ?_;have t5':=t5
   · have p0:PenAt G5 p:=p5;have t0:But p G5 G5:=But.refl p G5;refine⟨_,rfl,(qk (Nat.le_of_ble_eq_true rfl)),fun l3 f_l3=>?_⟩;have n_l3:l3≠p:=p0.ne f_l3;have e_l3:(upd G5 l3 (.lst [.int 4,.int 4,.int 4,.int 21])) l3=some (.lst [.int 4,.int 4,.int 4,.int 21]):=qc;have p1:PenAt (upd G5 l3 (.lst [.int 4,.int 4,.int 4,.int 21])) p:=p0.upd n_l3 _;have u1:Same G5 (upd G5 l3 (.lst [.int 4,.int 4,.int 4,.int 21])):=Same.new _ f_l3;have t1:=t0.same u1;(try dsimp only);generalize upd G5 l3 (.lst [.int 4,.int 4,.int 4,.int 21])=G1 at e_l3 p1 u1 t1 ⊢;refine⟨_,rfl,p,_,rfl,p1,by decide,by decide,fun db G2 db0 db1 u2 p2=>?_⟩;have t2:=t1.trans u2;obtain⟨v,hv,mv⟩:=Qq (xs:=([.int 4,.int 4,.int 4,.int 21]:List V)) db0 db1
     obtain⟨m,rfl,m0,m1⟩:∃ u:Int,v=.int u∧0 < u∧u≤21:=by
       simp only[List.mem_cons,List.not_mem_nil,or_false]at mv;rcases mv with rfl|rfl|rfl|rfl<;>exact⟨_,rfl,by decide,by decide⟩
     refine .inl ⟨l3,_,_,_,rfl,rfl,SqL.of (u2 _ _ e_l3 n_l3),hv,?_⟩;refine⟨p,_,rfl,p2,m0,by omega,fun dn G3 dn0 dn1 u3 p3=>?_⟩;have t3:=t2.trans u3;have B0:But p H G3:=t5'.trans t3;have hq0:=(u3 _ _ (u2 _ _ (u1 _ _ e_q) n_q) n_q)
     have T1:=(TupL.pen (TupL.pen (L2.TupL.same T0 u1) p1 u2) p2 u3)
     refine⟨_,rfl,by omega,by omega,Qo (lo:=0) (D:={ nx:=N,rt:=Q }) (fun i σ H2=>∃ (s3:Option V) (zs:List V) (rows:List (Int×Int)) (mo:Int),σ=[some (.ref p),some (.int u),some (.ref q),s3]∧But p H H2∧PenAt H2 p∧H2 q=some (.lst zs)∧TupL pr H2 zs rows∧rows.length=i+1∧Pa rows mo∧0≤mo∧mo≤30000000 * (i:Int)∧∃ s,rows.getLast?=some (mo,s)) ⟨_,_,_,0,rfl,B0,p3,hq0,T1,rfl,P0,Int.le_refl _,(by omega),sh,rfl⟩ ?_ ?_⟩
     · rintro i σ H2 hi ⟨s3,zs,rows,mo,rfl,B,pB,hq,tz,lr,pa,mo0,mo1,s,el⟩;obtain⟨t0,hz0,ht0⟩:=TupL.last tz el;have hi2:i < 21:=by omega
       refine⟨_,rfl,.inl ⟨rfl,_,SqL.of hq⟩,?_⟩;refine⟨_,rfl,_,rfl,.inl ⟨q,_,_,_,rfl,rfl,SqL.of hq,atI_last hz0,.inr (.inl ⟨t0,_,_,_,rfl,rfl,SqT.of ht0,rfl,.inl ⟨_,_,rfl,rfl,?_⟩⟩)⟩⟩;refine⟨_,rfl,_,rfl,_,_,rfl,rfl,.inl ⟨by decide,by decide⟩,p,_,rfl,pB,by omega,by omega,fun d H3 d0 d1 B3 p3=>?_⟩;refine .inl ⟨_,_,rfl,rfl,_,rfl,p,rfl,p3,fun s2 H4 s20 s21 B4 p4=>?_⟩;have hq4:=B4 _ _ (B3 _ _ hq (n_q)) (n_q);have tz4:=TupL.pen (TupL.pen tz pB B3) p3 B4;refine⟨qk (Nat.le_of_ble_eq_true rfl),fun tt ft=>?_⟩;have ntp:tt≠p:=p4.ne ft;have St:=Same.new (.tup [.int (mo+1+d),.int s2]) ft;have hq5:=St _ _ hq4;refine⟨q,_,_,rfl,rfl,hq5,qB (by rw[tz.1];omega),?_⟩;refine⟨_,zs++[.ref tt],rows++[(mo+1+d,s2)],mo+1+d,rfl,?_,?_,qc,((tz4.same St).snoc (p:=(mo+1+d,s2)) qc).put hq5,by rw[List.length_append,lr];rfl,pa.snoc (fun z=>by rw[z]at lr;simp at lr) (fun _=>by omega) (by omega) (by omega) (by omega),by omega,by push_cast;omega,s2,by simp⟩
       · intro b o z nb
         have:=(B.trans (B3.trans B4)) b o z nb
         rw[qj (qi z fqH),qj (qi this ft)];exact this
       · exact(p4.upd ntp _).upd n_q _
     · rintro σ H2 ⟨s3,zs,rows,mo,rfl,B,pB,hq,tz,lr,pa,mo0,mo1,s,el⟩;exact hN _ _ ⟨s3,zs,rows,mo,rfl,B,pB,hq,tz,by omega,by omega,pa,by omega⟩
   rintro _ H2 ⟨s3,zs,rows,mo,rfl,B,pB,hq,tz,r0,r1,pa,mo1⟩;have e9:(10:Int) ^ (9:Int).toNat=1000000000:=by decide
   refine qL (t:=qiJ _ _ _) (fun σ' H'=>∃ rows':List (Int×Int),σ'=[some (.ref p),some (.int u),some (.ref q),s3]∧But p H H'∧PenAt H' p∧Rs H' q rows'∧Good rows') (fun N hN=>?_) ?_
   · refine⟨_,rfl,_,_,rfl,.inl ⟨_,SqL.of hq,rfl⟩,_,_,rfl,rfl,_,rfl,zP (fun g1=>?_) (fun g1=>qbt (hN _ _ ⟨rows,rfl,B,pB,⟨zs,hq,tz⟩,pa.good (by omega) r0 r1⟩))⟩;have g3:1 < rows.length:=by have:=tz.1;omega
     refine⟨_,rfl,p,_,rfl,pB,by decide,by decide,fun d H3 d0 d1 B3 p3=>?_⟩;have hq3:=B3 _ _ hq n_q;have tz3:=TupL.pen tz pB B3;refine .inl ⟨rfl,_,rfl,zP (fun g2=>?_) (fun g2=>hN _ _ ⟨rows,rfl,B.trans B3,p3,⟨zs,hq3,tz3⟩,pa.good (by omega) r0 r1⟩)⟩
     cases el:rows.getLast? with
     | none =>
       rw[List.getLast?_eq_none_iff.mp el]at g3;simp at g3
     | some l =>
       obtain⟨t0,hz0,ht0⟩:=TupL.last tz3 el;refine⟨_,_,rfl,rfl,⟨by decide,by decide,by decide⟩,_,rfl,_,rfl,.inl ⟨q,_,_,_,rfl,rfl,SqL.of hq3,atI_last hz0,.inr (.inl ⟨t0,_,_,_,rfl,rfl,SqT.of ht0,rfl,qk (Nat.le_of_ble_eq_true rfl),fun tt ft=>?_⟩)⟩⟩;(try dsimp only);rw[e9];have St:=Same.new (.tup [.int 1000000000,.int l.2]) ft;have ntp:tt≠p:=p3.ne ft;refine⟨_,rfl,_,rfl,q,_,_,zs.length - 1,rfl,rfl,St _ _ hq3,qcy (by rw[tz.1];omega),?_⟩;refine hN _ _ ⟨_,rfl,?_,(p3.upd ntp _).upd n_q _,⟨_,qc,(TupL.set (tz3.same St) (i:=zs.length - 1) (p:=(1000000000,l.2)) qc).put (St _ _ hq3)⟩,?_⟩
       · intro b o z nb
         have:=(B.trans B3) b o z nb
         rw[qj (qi z fqH),qj (qi this ft)];exact this
       · rw[tz.1];exact pa.far (by omega) g3 r1 el
   rintro _ G6 ⟨rows',rfl,B6,p6,R6,good6⟩;exact⟨_,rfl,kk q rows' G6 fqH B6 p6 R6 good6⟩
end
def sgn (c:Nat):Bool:=(!decide ((⟨#[c]⟩:Str).cps.toList < ("a":Str).cps.toList)) && (!decide (("z":Str).cps.toList < (⟨#[c]⟩:Str).cps.toList))
def zc:V->Bool
 | .str x=>decide (1≤x.length) && decide (x.length≤8) && x.cps.toList.all sgn
 | _=>false
theorem qfI {l:List Nat}{i c:Nat} (h:l[i]?=some c):l.take (i+1)=l.take i++[c]:=by
 rw[List.take_add_one,h];rfl
theorem qjC {n:Nat} (h:n≤2000):n≤sizeLine:=Nat.le_trans h (by decide)
inductive ZS (vs:List V) (H:Hp) (Q:VK):Prop
 | mk (i:_) (h1:vs=[.int i]) (h2:Q (.bl true) H):ZS vs H Q
def Zn:Sp:=fun vs H Q _=>ZS vs H Q
inductive jv (vs:List V) (H:Hp) (Q:VK):Prop
 | mk (i lo hi:Int) (h1:vs=[.int i,.int lo,.int hi]) (h2:lo≤i) (h3:i≤hi) (h4:Q (.bl true) H):jv vs H Q
def QV:Sp:=fun vs H Q _=>jv vs H Q
inductive ZT (vs:List V) (H:Hp) (Q:VK):Prop
 | mk (i:Int) (h1:vs=[.int i]) (h2:0≤i) (h3:i≤1000000000) (h4:Q (.bl true) H):ZT vs H Q
def Zo:Sp:=fun vs H Q _=>ZT vs H Q
inductive Zm (vs:List V) (H:Hp) (Q:VK):Prop
 | mk (i:Int) (h1:vs=[.int i]) (h2:-10000000000≤i) (h3:i≤10000000000) (h4:Q (.bl true) H):Zm vs H Q
def QW:Sp:=fun vs H Q _=>Zm vs H Q
inductive Jp (vs:List V) (H:Hp) (Q:VK):Prop
 | mk (x:Str) (h1:vs=[.str x]) (h2:zc (.str x)=true) (h3:∀ H',Same H H'->Q (.bl true) H'):Jp vs H Q
def qbw:Sp:=fun vs H Q _=>Jp vs H Q
inductive Zr (vs:List V) (H:Hp) (Q:VK):Prop
 | mk (x:Str) (h1:vs=[.str x]) (h2:zc (.str x)=true) (h3:∀ H',Same H H'->Q .non H'):Zr vs H Q
def QX:Sp:=fun vs H Q _=>Zr vs H Q
inductive QG (vs:List V) (H:Hp) (Q:VK):Prop
 | mk (i:Int) (h1:vs=[.int i]) (h2:0≤i) (h3:i≤1000000000) (h4:Q .non H):QG vs H Q
def Zs:Sp:=fun vs H Q _=>QG vs H Q
inductive Qs (vs:List V) (H:Hp) (Q:VK):Prop
 | mk (i:Int) (h1:vs=[.int i]) (h2:-10000000000≤i) (h3:i≤10000000000) (h4:Q .non H):Qs vs H Q
def Q5:Sp:=fun vs H Q _=>Qs vs H Q
inductive ZA (K:Frag) (vs:List V) (H:Hp) (Q:VK):Prop
 | mk (x C dx:Addr) (nm:Str) (h1:vs=[.ref x,.str nm]) (h2:H x=some (.ins C dx [])) (h3:zc (.str nm)=true) (h4:Cls K C) (h5:NoAttr K C "name") (h6:∀ H',But x H H'->H' x=some (.ins C dx [("name",.str nm)])->Q .non H'):ZA K vs H Q
def zE (K:Frag):Sp:=fun vs H Q _=>ZA K vs H Q
inductive Q7 (K:Frag) (vs:List V) (H:Hp) (Q:VK):Prop
 | mk (x C dx:Addr) (nm:Str) (lo hi:Int) (h1:vs=[.ref x,.str nm,.int lo,.int hi]) (h2:H x=some (.ins C dx [])) (h3:zc (.str nm)=true) (h4:(0≤lo∧lo≤1000000000)) (h5:(0≤hi∧hi≤1000000000)) (h6:Cls K C) (h7:NoAttr K C "name") (h8:NoAttr K C "low") (h9:NoAttr K C "high") (h10:∀ H',But x H H'->H' x=some (.ins C dx [("name",.str nm),("low",.int lo),("high",.int hi)])->Q .non H'):Q7 K vs H Q
def Qz (K:Frag):Sp:=fun vs H Q _=>Q7 K vs H Q
inductive Jz (a:Ad) (vs:List V) (H:Hp) (Q:VK):Prop
 | mk (x dx:Addr) (nm:Str) (m:Int) (h1:vs=[.ref x,.str nm,.int m]) (h2:H x=some (.ins a.c_At dx [])) (h3:zc (.str nm)=true) (h4:(0≤m∧m≤1000000000)) (h5:∀ H',But x H H'->H' x=some (.ins a.c_At dx [("name",.str nm),("low",.int m),("high",.int m)])->Q .non H'):Jz a vs H Q
def j8 (a:Ad):Sp:=fun vs H Q _=>Jz a vs H Q
inductive QO (K:Frag) (vs:List V) (H:Hp) (Q:VK):Prop
 | mk (x C dx:Addr) (nm pl:Str) (lo hi:Int) (h1:vs=[.ref x,.str nm,.str pl,.int lo,.int hi]) (h2:H x=some (.ins C dx [])) (h3:zc (.str nm)=true) (h4:zc (.str pl)=true) (h5:(-10000000000≤lo∧lo≤10000000000)) (h6:(-10000000000≤hi∧hi≤10000000000)) (h7:Cls K C) (h8:NoAttr K C "name") (h9:NoAttr K C "place") (h10:NoAttr K C "low") (h11:NoAttr K C "high") (h12:∀ H',But x H H'->H' x=some (.ins C dx [("name",.str nm),("place",.str pl),("low",.int lo),("high",.int hi)])->Q .non H'):QO K vs H Q
def Qj (K:Frag):Sp:=fun vs H Q _=>QO K vs H Q
inductive ZY (a:Ad) (vs:List V) (H:Hp) (Q:VK):Prop
 | mk (x dx:Addr) (nm pl:Str) (m:Int) (h1:vs=[.ref x,.str nm,.str pl,.int m]) (h2:H x=some (.ins a.c_Read dx [])) (h3:zc (.str nm)=true) (h4:zc (.str pl)=true) (h5:(-10000000000≤m∧m≤10000000000)) (h6:∀ H',But x H H'->H' x=some (.ins a.c_Read dx [("name",.str nm),("place",.str pl),("low",.int m),("high",.int m)])->Q .non H'):ZY a vs H Q
def Jr (a:Ad):Sp:=fun vs H Q _=>ZY a vs H Q
def qas (w:Str):Sp:=fun vs H Q _=>∃ v:V,vs=[v]∧Q (.str w) H
abbrev jE:Sp:=qas "any"
abbrev ZV:Sp:=qas "within"
abbrev qbI:Sp:=qas "at"
abbrev ZB:Sp:=qas "between"
abbrev Jq:Sp:=qas "read"
inductive QN (vs:List V) (H:Hp) (Q:VK):Prop
 | mk (v:V) (h1:vs=[v]) (h2:∀ l,H l=none->Q (.ref l) (upd H l (.lst []))):QN vs H Q
def qN:Sp:=fun vs H Q _=>QN vs H Q
section
variable {P:Program}{w:World}{K:Frag}{mg:Str->Option Value}{base:Heap}
theorem JO {a:Ad} (T:Txt K mg a):qD P w K mg base CX0 1 a.f_j a.fd_j ["thing"] Zn:=by
 refine T.d_j.F.ok qcU (fun vs H Q E h=>?_) (fun cdv A outer s H vs Q E hr h=>?_)
 · obtain⟨i,rfl,kk⟩:=h;rfl
 · obtain⟨i,rfl,kk⟩:=h;refine⟨_,(qf (qt (jg (qm zN (by rfl) T.n_isinstance qv (qa (pv 0) (qa (Qc (v:=.ty "int") rfl T.n_int jY rfl) qb))) (je (qkZ (qm zN (by rfl) T.n_isinstance qv (qa (pv 0) (qa (Qc (v:=.ty "bool") rfl T.n_bool qb2 rfl) qb)))))))),?_⟩;(try dsimp only [zb,Cx.nox]);refine⟨_,rfl,_,_,_,rfl,(by decide),rfl,true,rfl,qfy ?_⟩;exact⟨_,rfl,_,_,_,rfl,(by decide),rfl,false,rfl,kk⟩
theorem jq {a:Ad} (T:Txt K mg a):qD P w K mg base CX0 2 a.f_f a.fd_f ["thing","low","high"] QV:=by
 have G_j:=JO (P:=P) (w:=w) (base:=base) T;refine T.d_f.F.ok qdO (fun vs H Q E h=>?_) (fun cdv A outer s H vs Q E hr h=>?_)
 · obtain⟨i,lo,hi,rfl,h1,h2,kk⟩:=h;rfl
 · obtain⟨i,lo,hi,rfl,h1,h2,kk⟩:=h;have h_j:Room (1) _:=hr.mono (by decide);refine⟨_,(qf (qt (jg (qh G_j h_j rfl T.d_j.m T.d_j.k T.d_j.b .nil qq (qa (pv 0) qb)) (je (qeF JX JX (pv 1) (pv 0) (pv 2)))))),?_⟩;(try dsimp only [zb,Cx.nox]);refine⟨_,rfl,i,rfl,true,rfl,qfy ?_⟩;refine⟨_,rfl,_,rfl,_,_,rfl,rfl,_,rfl,zP (fun _=>?_) (fun g=>absurd h1 g)⟩;refine⟨_,rfl,_,_,rfl,rfl,?_⟩;show Q (.bl (decide (i≤hi))) H;rw[decide_eq_true h2];exact kk
theorem JP {a:Ad} (T:Txt K mg a):qD P w K mg base CX0 3 a.f_n a.fd_n ["thing"] Zo:=by
 have G_f:=jq (P:=P) (w:=w) (base:=base) T;refine T.d_n.F.ok qcV (fun vs H Q E h=>?_) (fun cdv A outer s H vs Q E hr h=>?_)
 · obtain⟨i,rfl,h1,h2,kk⟩:=h;rfl
 · obtain⟨i,rfl,h1,h2,kk⟩:=h;have h_f:Room (2) _:=hr.mono (by decide);obtain⟨t_LAST,c_LAST⟩:=T.g_LAST;refine⟨_,(qf (qt (qh G_f h_f rfl T.d_f.m T.d_f.k T.d_f.b .nil qq (qa (pv 0) (qa qd (qa (zI (v:=.int 1000000000) rfl c_LAST ⟨_,rfl⟩) qb)))))),?_⟩;(try dsimp only [zb,Cx.nox]);exact⟨_,rfl,i,0,1000000000,rfl,h1,h2,kk⟩
theorem jR {a:Ad} (T:Txt K mg a):qD P w K mg base CX0 3 a.f_k a.fd_k ["thing"] QW:=by
 have G_f:=jq (P:=P) (w:=w) (base:=base) T;refine T.d_k.F.ok qcb (fun vs H Q E h=>?_) (fun cdv A outer s H vs Q E hr h=>?_)
 · obtain⟨i,rfl,h1,h2,kk⟩:=h;rfl
 · obtain⟨i,rfl,h1,h2,kk⟩:=h;have h_f:Room (2) _:=hr.mono (by decide);obtain⟨t_WIDEST_READING,c_WIDEST_READING⟩:=T.g_WIDEST_READING;refine⟨_,(qf (qt (qh G_f h_f rfl T.d_f.m T.d_f.k T.d_f.b .nil qq (qa (pv 0) (qa (Zj zU (zI (v:=.int 10000000000) rfl c_WIDEST_READING ⟨_,rfl⟩)) (qa (zI (v:=.int 10000000000) rfl c_WIDEST_READING ⟨_,rfl⟩) qb)))))),?_⟩;(try dsimp only [zb,Cx.nox]);exact⟨_,rfl,_,rfl,i,-10000000000,10000000000,rfl,h1,h2,kk⟩
theorem qfi {a:Ad} (T:Txt K mg a):qD P w K mg base CX0 1 a.f_J a.fd_J ["thing"] qbw:=by
 refine T.d_J.F.ok qfb (fun vs H Q E h=>?_) (fun cdv A outer s H vs Q E hr h=>?_)
 · obtain⟨x,rfl,ok,k⟩:=h;rfl
 · obtain⟨x,rfl,ok,k⟩:=h;obtain⟨t_LONGEST_NAME,c_LONGEST_NAME⟩:=T.g_LONGEST_NAME
   refine⟨_,(qe (qO (PW.pt (jn (zu (za (qm zN (by rfl) T.n_isinstance qv (qa (pv 0) (qa (Qc (v:=.ty "str") rfl T.n_str qhn rfl) qb))))) (Zg (zu (qhU JX JX qd (qm qW (by rfl) T.n_len qM (qa (pv 0) qb)) (zI (v:=.int 8) rfl c_LONGEST_NAME ⟨_,rfl⟩))))))
       (qf (qt Jd))
       qy)
     (qf (qt (qm (qhj rfl) (by rfl) T.n_all qhp (qa (zJ rfl (CompOk.def ["sign"] [none]) (qkW (pv 0)) (fun _ _ _ _ _=>(qr (i:=0) (show List.Nodup (["sign"]:List Str) by decide +kernel) rfl (Or.inl rfl))) (fun _ _ _ _ _=>Qb) (fun _ _ _ _ _=>(qeF qda qda qE (pv 0) qE))) qb))))),?_⟩
   try dsimp only [zb,Cx.nox]
   obtain⟨⟨l1,l8⟩,al⟩:(1≤x.length∧x.length≤8)∧x.cps.toList.all sgn=true:=by
     simp only[zc,Bool.and_eq_true,decide_eq_true_eq]at ok;exact ok
   have hx:x.length=x.cps.size:=rfl;refine⟨_,rfl,_,_,_,rfl,(by decide),rfl,true,rfl,qS rfl ?_⟩;refine⟨_,rfl,_,_,rfl,⟨qjC (by omega),rfl⟩,_,_,rfl,rfl,_,rfl,?_⟩;refine zP (fun h2=>?_) (fun h2=>absurd (by omega) h2);refine⟨_,_,rfl,rfl,_,rfl,?_⟩;refine qli (fun h3=>absurd (by omega) h3) (fun h3=>?_);refine⟨_,rfl,x,rfl,fun D fD=>?_⟩;refine qiA (x:=x) (D:=D) (fun i σ H2=>∃ (s0:Option V) (bs:List Bool),σ=[s0]∧Same H H2∧H2 D=some (.lst (bs.map V.bl))∧bs=(x.cps.toList.take i).map sgn) ⟨none,[],rfl,Same.new _ fD,qc,rfl⟩ ?_ ?_
   · rintro i c σ H2 hc ⟨s0,bs,rfl,s2,hD,hb⟩;obtain⟨hi,_⟩:=Array.getElem?_eq_some_iff.mp hc;have hcl:x.cps.toList[i]?=some c:=by simpa using hc
     have hbl:bs.length≤i:=by rw[hb,List.length_map,List.length_take];omega
     refine⟨_,rfl,_,_,rfl,rfl,_,rfl,?_⟩
     have fin:∀ v:Bool,v=sgn c->∃ ys,H2 D=some (.lst ys)∧ys.length < sizeLine∧∃ (s0:Option V) (bs:List Bool),[some (V.str ⟨#[c]⟩)]=[s0]∧Same H (upd H2 D (.lst (ys++[.bl v])))∧(upd H2 D (.lst (ys++[.bl v]))) D=some (.lst (bs.map V.bl))∧bs=(x.cps.toList.take (i+1)).map sgn:=fun v e =>
       ⟨_,hD,qB (by rw[List.length_map];omega),_,bs++[v],rfl,(fun b o z=>by rw[qj (qi z fD)];exact s2 b o z),by rw[qc,List.map_append];rfl,by rw[qfI hcl,List.map_append,← hb,e];rfl⟩
     refine qhA (fun h4=>?_) (fun h4=>?_)
     · refine⟨_,_,rfl,rfl,fin _ ?_⟩;unfold sgn;rw[h4,Bool.true_and]
     · refine fin _ ?_;unfold sgn;rw[h4,Bool.false_and]
   · rintro σ H2 ⟨s0,bs,rfl,s2,hD,hb⟩;refine⟨D,bs,rfl,SqL.of hD,?_⟩
     have e:bs.all id=true:=by
       rw[hb,List.all_map];refine List.all_eq_true.mpr fun c m=>?_;exact List.all_eq_true.mp al c (List.mem_of_mem_take m)
     first
       | (rw[e];exact k H2 s2)
       | (have:=k H2 s2;simpa[e] using this)
theorem jT {a:Ad} (T:Txt K mg a):qD P w K mg base CX0 2 a.f_o a.fd_o ["thing"] QX:=by
 have G_J:=qfi (P:=P) (w:=w) (base:=base) T;refine T.d_o.F.ok qcc (fun vs H Q E h=>?_) (fun cdv A outer s H vs Q E hr h=>?_)
 · obtain⟨x,rfl,ok,k⟩:=h;rfl
 · obtain⟨x,rfl,ok,k⟩:=h;have h_J:Room (1) _:=hr.mono (by decide)
   refine⟨_,(qf (qO (zu (za (qh G_J h_J rfl T.d_J.m T.d_J.k T.d_J.b .nil qq (qa (pv 0) qb))))
       (qf zm)
       qy)),?_⟩
   try dsimp only [zb,Cx.nox]
   exact⟨_,rfl,x,rfl,ok,fun H1 S1=>⟨true,rfl,qS rfl (k H1 S1)⟩⟩
theorem qaJ {a:Ad} (T:Txt K mg a):qD P w K mg base CX0 4 a.f_w a.fd_w ["thing"] Zs:=by
 have G_n:=JP (P:=P) (w:=w) (base:=base) T;refine T.d_w.F.ok qat (fun vs H Q E h=>?_) (fun cdv A outer s H vs Q E hr h=>?_)
 · obtain⟨i,rfl,h1,h2,k⟩:=h;rfl
 · obtain⟨i,rfl,h1,h2,k⟩:=h;have h_n:Room (3) _:=hr.mono (by decide)
   refine⟨_,(qf (qO (zu (za (qh G_n h_n rfl T.d_n.m T.d_n.k T.d_n.b .nil qq (qa (pv 0) qb))))
       (qf zm)
       qy)),?_⟩
   try dsimp only [zb,Cx.nox]
   exact⟨_,rfl,i,rfl,h1,h2,true,rfl,qS rfl k⟩
theorem JY {a:Ad} (T:Txt K mg a):qD P w K mg base CX0 4 a.f_x a.fd_x ["thing"] Q5:=by
 have G_k:=jR (P:=P) (w:=w) (base:=base) T;refine T.d_x.F.ok JT (fun vs H Q E h=>?_) (fun cdv A outer s H vs Q E hr h=>?_)
 · obtain⟨i,rfl,h1,h2,k⟩:=h;rfl
 · obtain⟨i,rfl,h1,h2,k⟩:=h;have h_k:Room (3) _:=hr.mono (by decide)
   refine⟨_,(qf (qO (zu (za (qh G_k h_k rfl T.d_k.m T.d_k.k T.d_k.b .nil qq (qa (pv 0) qb))))
       (qf zm)
       qy)),?_⟩
   try dsimp only [zb,Cx.nox]
   exact⟨_,rfl,i,rfl,h1,h2,true,rfl,qS rfl k⟩
theorem zS {a:Ad} (T:Txt K mg a):qD P w K mg base CX0 3 a.f_c a.fd_c ["self","name"] (zE K):=by
 have G_o:=jT (P:=P) (w:=w) (base:=base) T;refine T.d_c.F.ok qch (fun vs H Q E h=>?_) (fun cdv A outer s H vs Q E hr h=>?_)
 · obtain⟨x,C,dx,nm,rfl,hx,ok,cl,na,k⟩:=h;rfl
 · obtain⟨x,C,dx,nm,rfl,hx,ok,cl,na,k⟩:=h;have h_o:Room (2) _:=hr.mono (by decide)
   refine⟨_,(qe (qI (qh G_o h_o rfl T.d_o.m T.d_o.k T.d_o.b .nil qq (qa (pv 1) qb)))
     (qf (jd (pv 0) (pv 1) rfl))),?_⟩
   try dsimp only [zb,Cx.nox]
   refine⟨_,rfl,nm,rfl,ok,fun H1 S1=>?_⟩;exact⟨_,rfl,_,rfl,x,C,dx,_,rfl,S1 _ _ hx,cl,na,(by decide),k _ (fun b o z nb=>by rw[qj nb];exact S1 b o z) qc⟩
theorem jh {a:Ad} (T:Txt K mg a):qD P w K mg base CX0 5 a.f_r a.fd_r ["self","name","low","high"] (Qz K):=by
 have G_c:=zS (P:=P) (w:=w) (base:=base) T;have G_w:=qaJ (P:=P) (w:=w) (base:=base) T;refine T.d_r.F.ok qbb (fun vs H Q E h=>?_) (fun cdv A outer s H vs Q E hr h=>?_)
 · obtain⟨x,C,dx,nm,lo,hi,rfl,hx,ok,hlo,hhi,cl,n1,n2,n3,k⟩:=h;rfl
 · obtain⟨x,C,dx,nm,lo,hi,rfl,hx,ok,hlo,hhi,cl,n1,n2,n3,k⟩:=h;have h_c:Room (3+1) _:=hr.mono (by decide);have h_w:Room (4) _:=hr.mono (by decide)
   refine⟨_,(qe (qI (QZ T.ci_Entry G_c (h_c.mono (by decide)) T.d_c.b rfl T.g_Entry (qa (pv 0) (qa (pv 1) qb))))
     (qe (qI (qh G_w h_w rfl T.d_w.m T.d_w.k T.d_w.b .nil qq (qa (pv 2) qb)))
     (qe (qI (qh G_w h_w rfl T.d_w.m T.d_w.k T.d_w.b .nil qq (qa (pv 3) qb)))
     (qe (jd (pv 0) (pv 2) rfl)
     (qf (jd (pv 0) (pv 3) rfl)))))),?_⟩
   try dsimp only [zb,Cx.nox]
   refine⟨_,rfl,_,rfl,x,C,dx,nm,rfl,hx,ok,cl,n1,fun H1 B1 h1=>?_⟩;refine⟨_,rfl,lo,rfl,hlo.1,hlo.2,?_⟩;refine⟨_,rfl,hi,rfl,hhi.1,hhi.2,?_⟩;refine⟨_,rfl,_,rfl,x,C,dx,_,rfl,h1,cl,n2,(by simp),?_⟩;refine⟨_,rfl,_,rfl,x,C,dx,_,rfl,qc,cl,n3,(Nat.le_of_ble_eq_true rfl),?_⟩;exact k _ ((B1.put _).put _) (by rw[qc];rfl)
theorem qbS {a:Ad} (T:Txt K mg a):qD P w K mg base CX0 7 a.f_v a.fd_v ["self","name","moment"] (j8 a):=by
 have G_r:=jh (P:=P) (w:=w) (base:=base) T;refine T.d_v.F.ok qfd (fun vs H Q E h=>?_) (fun cdv A outer s H vs Q E hr h=>?_)
 · obtain⟨x,dx,nm,m,rfl,hx,ok,hm,k⟩:=h;rfl
 · obtain⟨x,dx,nm,m,rfl,hx,ok,hm,k⟩:=h;have h_r:Room (5+1) _:=hr.mono (by decide);refine⟨_,(qf (qI (QZ T.ci_Within G_r (h_r.mono (by decide)) T.d_r.b rfl T.g_Within (qa (pv 0) (qa (pv 1) (qa (pv 2) (qa (pv 2) qb))))))),?_⟩;(try dsimp only [zb,Cx.nox]);exact⟨_,rfl,_,rfl,_,rfl,_,rfl,x,a.c_At,dx,nm,m,m,rfl,hx,ok,hm,hm,T.cl_At,T.n_At_name,T.n_At_low,T.n_At_high,fun H1 B1 h1=>k H1 B1 h1⟩
theorem ZJ {a:Ad} (T:Txt K mg a):qD P w K mg base CX0 5 a.f_s a.fd_s ["self","name","place","low","high"] (Qj K):=by
 have G_c:=zS (P:=P) (w:=w) (base:=base) T;have G_o:=jT (P:=P) (w:=w) (base:=base) T;have G_x:=JY (P:=P) (w:=w) (base:=base) T;refine T.d_s.F.ok qay (fun vs H Q E h=>?_) (fun cdv A outer s H vs Q E hr h=>?_)
 · obtain⟨x,C,dx,nm,pl,lo,hi,rfl,hx,ok,okp,hlo,hhi,cl,n1,n2,n3,n4,k⟩:=h;rfl
 · obtain⟨x,C,dx,nm,pl,lo,hi,rfl,hx,ok,okp,hlo,hhi,cl,n1,n2,n3,n4,k⟩:=h;have h_c:Room (3+1) _:=hr.mono (by decide);have h_o:Room (2) _:=hr.mono (by decide);have h_x:Room (4) _:=hr.mono (by decide)
   refine⟨_,(qe (qI (QZ T.ci_Entry G_c (h_c.mono (by decide)) T.d_c.b rfl T.g_Entry (qa (pv 0) (qa (pv 1) qb))))
     (qe (qI (qh G_o h_o rfl T.d_o.m T.d_o.k T.d_o.b .nil qq (qa (pv 2) qb)))
     (qe (qI (qh G_x h_x rfl T.d_x.m T.d_x.k T.d_x.b .nil qq (qa (pv 3) qb)))
     (qe (qI (qh G_x h_x rfl T.d_x.m T.d_x.k T.d_x.b .nil qq (qa (pv 4) qb)))
     (qe (jd (pv 0) (pv 2) rfl)
     (qe (jd (pv 0) (pv 3) rfl)
     (qf (jd (pv 0) (pv 4) rfl)))))))),?_⟩
   try dsimp only [zb,Cx.nox]
   refine⟨_,rfl,_,rfl,x,C,dx,nm,rfl,hx,ok,cl,n1,fun H1 B1 h1=>?_⟩;refine⟨_,rfl,pl,rfl,okp,fun H2 S2=>?_⟩;refine⟨_,rfl,lo,rfl,hlo.1,hlo.2,?_⟩;refine⟨_,rfl,hi,rfl,hhi.1,hhi.2,?_⟩;refine⟨_,rfl,_,rfl,x,C,dx,_,rfl,S2 _ _ h1,cl,n2,(by simp),?_⟩;refine⟨_,rfl,_,rfl,x,C,dx,_,rfl,qc,cl,n3,(Nat.le_of_ble_eq_true rfl),?_⟩;refine⟨_,rfl,_,rfl,x,C,dx,_,rfl,qc,cl,n4,(Nat.le_of_ble_eq_true rfl),?_⟩;exact k _ ((((B1.same S2).put _).put _).put _) (by rw[qc];rfl)
theorem qdf {a:Ad} (T:Txt K mg a):qD P w K mg base CX0 7 a.f_ac a.fd_ac ["self","name","place","reading"] (Jr a):=by
 have G_s:=ZJ (P:=P) (w:=w) (base:=base) T;refine T.d_ac.F.ok qcX (fun vs H Q E h=>?_) (fun cdv A outer s H vs Q E hr h=>?_)
 · obtain⟨x,dx,nm,pl,m,rfl,hx,ok,okp,hm,k⟩:=h;rfl
 · obtain⟨x,dx,nm,pl,m,rfl,hx,ok,okp,hm,k⟩:=h;have h_s:Room (5+1) _:=hr.mono (by decide);refine⟨_,(qf (qI (QZ T.ci_Between G_s (h_s.mono (by decide)) T.d_s.b rfl T.g_Between (qa (pv 0) (qa (pv 1) (qa (pv 2) (qa (pv 3) (qa (pv 3) qb)))))))),?_⟩;(try dsimp only [zb,Cx.nox]);exact⟨_,rfl,_,rfl,_,rfl,_,rfl,_,rfl,x,a.c_Read,dx,nm,pl,m,m,rfl,hx,ok,okp,hm,hm,T.cl_Read,T.n_Read_name,T.n_Read_place,T.n_Read_low,T.n_Read_high,fun H1 B1 h1=>k H1 B1 h1⟩
theorem qcs {a:Ad} (T:Txt K mg a):qD P w K mg base CX0 1 a.f_C a.fd_C ["self"] jE:=by
 refine T.d_C.F.ok qcg (fun vs H Q E h=>?_) (fun cdv A outer s H vs Q E hr h=>?_)
 · obtain⟨v,rfl,k⟩:=h;rfl
 · obtain⟨v,rfl,k⟩:=h;refine⟨_,(qf (qt qE)),?_⟩;(try dsimp only [zb,Cx.nox]);exact k
theorem qbi {a:Ad} (T:Txt K mg a):qD P w K mg base CX0 1 a.f_D a.fd_D ["self"] ZV:=by
 refine T.d_D.F.ok qba (fun vs H Q E h=>?_) (fun cdv A outer s H vs Q E hr h=>?_)
 · obtain⟨v,rfl,k⟩:=h;rfl
 · obtain⟨v,rfl,k⟩:=h;refine⟨_,(qf (qt qE)),?_⟩;(try dsimp only [zb,Cx.nox]);exact k
theorem qfm {a:Ad} (T:Txt K mg a):qD P w K mg base CX0 1 a.f_E a.fd_E ["self"] qbI:=by
 refine T.d_E.F.ok qfc (fun vs H Q E h=>?_) (fun cdv A outer s H vs Q E hr h=>?_)
 · obtain⟨v,rfl,k⟩:=h;rfl
 · obtain⟨v,rfl,k⟩:=h;refine⟨_,(qf (qt qE)),?_⟩;(try dsimp only [zb,Cx.nox]);exact k
theorem qaP {a:Ad} (T:Txt K mg a):qD P w K mg base CX0 1 a.f_F a.fd_F ["self"] ZB:=by
 refine T.d_F.F.ok qax (fun vs H Q E h=>?_) (fun cdv A outer s H vs Q E hr h=>?_)
 · obtain⟨v,rfl,k⟩:=h;rfl
 · obtain⟨v,rfl,k⟩:=h;refine⟨_,(qf (qt qE)),?_⟩;(try dsimp only [zb,Cx.nox]);exact k
theorem qde {a:Ad} (T:Txt K mg a):qD P w K mg base CX0 1 a.f_G a.fd_G ["self"] Jq:=by
 refine T.d_G.F.ok qcW (fun vs H Q E h=>?_) (fun cdv A outer s H vs Q E hr h=>?_)
 · obtain⟨v,rfl,k⟩:=h;rfl
 · obtain⟨v,rfl,k⟩:=h;refine⟨_,(qf (qt qE)),?_⟩;(try dsimp only [zb,Cx.nox]);exact k
theorem Ql {a:Ad} (T:Txt K mg a):qD P w K mg base CX0 1 a.f_b a.fd_b ["self"] qN:=by
 refine T.d_b.F.ok qaw (fun vs H Q E h=>?_) (fun cdv A outer s H vs Q E hr h=>?_)
 · obtain⟨v,rfl,k⟩:=h;rfl
 · obtain⟨v,rfl,k⟩:=h;refine⟨_,(qf (qt (qJ qb))),?_⟩;(try dsimp only [zb,Cx.nox]);exact⟨Nat.zero_le _,fun l f=>k l f⟩
end
inductive Spc:Str->Str->Str->Int->Int->Prop
 | any {nm:Str}:zc (.str nm)=true->Spc "any" nm "" 0 1000000000
 | within {nm:Str}{lo hi:Int}:zc (.str nm)=true->(0≤lo∧lo≤1000000000)->(0≤hi∧hi≤1000000000)->Spc "within" nm "" lo hi
 | at_ {nm:Str}{m:Int}:zc (.str nm)=true->(0≤m∧m≤1000000000)->Spc "at" nm "" m m
 | between {nm pl:Str}{lo hi:Int}:zc (.str nm)=true->zc (.str pl)=true->(-10000000000≤lo∧lo≤10000000000)->(-10000000000≤hi∧hi≤10000000000)->Spc "between" nm pl lo hi
 | read {nm pl:Str}{m:Int}:zc (.str nm)=true->zc (.str pl)=true->(-10000000000≤m∧m≤10000000000)->Spc "read" nm pl m m
inductive En (a:Ad) (H:Hp) (x:Addr):Str->Str->Str->Int->Int->Prop
 | any {dx:Addr}{nm:Str}:H x=some (.ins a.c_Entry dx [("name",.str nm)])->En a H x "any" nm "" 0 1000000000
 | within {dx:Addr}{nm:Str}{lo hi:Int}:H x=some (.ins a.c_Within dx [("name",.str nm),("low",.int lo),("high",.int hi)])->En a H x "within" nm "" lo hi
 | at_ {dx:Addr}{nm:Str}{m:Int}:H x=some (.ins a.c_At dx [("name",.str nm),("low",.int m),("high",.int m)])->En a H x "at" nm "" m m
 | between {dx:Addr}{nm pl:Str}{lo hi:Int}:H x=some (.ins a.c_Between dx [("name",.str nm),("place",.str pl),("low",.int lo),("high",.int hi)])->En a H x "between" nm pl lo hi
 | read {dx:Addr}{nm pl:Str}{m:Int}:H x=some (.ins a.c_Read dx [("name",.str nm),("place",.str pl),("low",.int m),("high",.int m)])->En a H x "read" nm pl m m
theorem En.same {a:Ad}{H H':Hp} (s:Same H H') {x:Addr}{wd nm pl:Str}{lo hi:Int} (h:En a H x wd nm pl lo hi):En a H' x wd nm pl lo hi:=by
 cases h with
 | any e=>exact .any (s _ _ e)
 | within e=>exact .within (s _ _ e)
 | at_ e=>exact .at_ (s _ _ e)
 | between e=>exact .between (s _ _ e)
 | read e=>exact .read (s _ _ e)
def qhz (wd nm pl:Str) (lo hi:Int):List V:=[.str wd,.str nm,.str pl,.int lo,.int hi]
inductive qbE (a:Ad) (vs:List V) (H:Hp) (Q:VK):Prop
 | mk (s:Addr) (wd nm pl:Str) (lo hi:Int) (h1:vs=[.ref s]) (h2:H s=some (.tup (qhz wd nm pl lo hi))) (h3:Spc wd nm pl lo hi) (h4:∀ (x:Addr) (H':Hp),Same H H'->En a H' x wd nm pl lo hi->Q (.ref x) H'):qbE a vs H Q
def qel (a:Ad):Sp:=fun vs H Q _=>qbE a vs H Q
theorem zL {H H':Hp}{x dx C:Addr} (h1:H x=none) (h2:H dx=none) (b:But x (upd (upd H dx (.own x)) x (.ins C dx [])) H'):Same H H':=fun c o e=>by
 have n1:=qi e h1;have n2:=qi e h2;exact b c o (by rw[qj n1,qj n2];exact e) n1
section
variable {P:Program}{w:World}{K:Frag}{mg:Str->Option Value}{base:Heap}
theorem qib {a:Ad} (T:Txt K mg a):qD P w K mg base CX0 9 a.f_A a.fd_A ["_law_spec_here"] (qel a):=by
 have G_ac:=qdf (P:=P) (w:=w) (base:=base) T;have G_c:=zS (P:=P) (w:=w) (base:=base) T;have G_r:=jh (P:=P) (w:=w) (base:=base) T;have G_v:=qbS (P:=P) (w:=w) (base:=base) T;have G_s:=ZJ (P:=P) (w:=w) (base:=base) T;refine T.d_A.F.ok sc_Lmade (fun vs H Q E h=>?_) (fun cdv A outer s H vs Q E hr h=>?_)
 · obtain⟨s,wd,nm,pl,lo,hi,rfl,hs,sp,kk⟩:=h;rfl
 · obtain⟨s,wd,nm,pl,lo,hi,rfl,hs,sp,kk⟩:=h;have hU:=hr.units;have h_ac:Room (7+1) _:=hr.mono (by decide);have h_c:Room (3+1) _:=hr.mono (by decide);have h_r:Room (5+1) _:=hr.mono (by decide);have h_v:Room (7+1) _:=hr.mono (by decide);have h_s:Room (5+1) _:=hr.mono (by decide)
   refine⟨_,(qe (JL (pv 0) (zR rfl (qu (qr (i:=1) (sc_Lmade.nd) rfl (Or.inl rfl)) (qu (qr (i:=2) (sc_Lmade.nd) rfl (Or.inl rfl)) (qu (qr (i:=3) (sc_Lmade.nd) rfl (Or.inl rfl)) (qu (qr (i:=4) (sc_Lmade.nd) rfl (Or.inl rfl)) (qu (qr (i:=5) (sc_Lmade.nd) rfl (Or.inl rfl)) zn)))))))
     (qe (qO (qw (uEq hU) (pv 1) qE (qC _))
       (qf (qt (QY T.M_Entry G_c h_c rfl T.g_Entry T.d_c.b .nil qq (qa (pv 2) qb))))
       qy)
     (qe (qO (qw (uEq hU) (pv 1) qE (qC _))
       (qf (qt (QY T.M_Within G_r h_r rfl T.g_Within T.d_r.b .nil qq (qa (pv 2) (qa (pv 4) (qa (pv 5) qb))))))
       qy)
     (qe (qO (qw (uEq hU) (pv 1) qE (qC _))
       (qf (qt (QY T.M_At G_v h_v rfl T.g_At T.d_v.b .nil qq (qa (pv 2) (qa (pv 4) qb)))))
       qy)
     (qe (qO (qw (uEq hU) (pv 1) qE (qC _))
       (qf (qt (QY T.M_Between G_s h_s rfl T.g_Between T.d_s.b .nil qq (qa (pv 2) (qa (pv 3) (qa (pv 4) (qa (pv 5) qb)))))))
       qy)
     (qf (qt (QY T.M_Read G_ac h_ac rfl T.g_Read T.d_ac.b .nil qq (qa (pv 2) (qa (pv 3) (qa (pv 4) qb))))))))))),?_⟩
   try dsimp only [zb,Cx.nox]
   refine⟨_,rfl,s,_,rfl,SqT.of hs,rfl,_,_,rfl,_,_,rfl,_,_,rfl,_,_,rfl,_,_,rfl,rfl,?_⟩
   cases sp with
   | any ok =>
     refine⟨_,rfl,.inl ⟨rfl,_,rfl,zP (fun _=>?_) (fun g=>absurd rfl g)⟩⟩;exact⟨_,rfl,fun x dx f1 f2 ne=>⟨x,_,dx,nm,rfl,qc,ok,T.cl_Entry,T.n_Entry_name,fun H1 B1 h1=>⟨rfl,kk x H1 (zL f1 f2 B1) (.any h1)⟩⟩⟩
   | within ok hlo hhi =>
     refine⟨_,rfl,.inl ⟨rfl,_,rfl,zP (fun g=>absurd g (by decide)) (fun _=>?_)⟩⟩;refine⟨_,rfl,.inl ⟨rfl,_,rfl,zP (fun _=>?_) (fun g=>absurd rfl g)⟩⟩;exact⟨_,rfl,_,rfl,_,rfl,fun x dx f1 f2 ne=>⟨x,_,dx,nm,_,_,rfl,qc,ok,hlo,hhi,T.cl_Within,T.n_Within_name,T.n_Within_low,T.n_Within_high,fun H1 B1 h1=>⟨rfl,kk x H1 (zL f1 f2 B1) (.within h1)⟩⟩⟩
   | at_ ok hm =>
     refine⟨_,rfl,.inl ⟨rfl,_,rfl,zP (fun g=>absurd g (by decide)) (fun _=>?_)⟩⟩;refine⟨_,rfl,.inl ⟨rfl,_,rfl,zP (fun g=>absurd g (by decide)) (fun _=>?_)⟩⟩;refine⟨_,rfl,.inl ⟨rfl,_,rfl,zP (fun _=>?_) (fun g=>absurd rfl g)⟩⟩;exact⟨_,rfl,_,rfl,fun x dx f1 f2 ne=>⟨x,dx,nm,_,rfl,qc,ok,hm,fun H1 B1 h1=>⟨rfl,kk x H1 (zL f1 f2 B1) (.at_ h1)⟩⟩⟩
   | between ok okp hlo hhi =>
     refine⟨_,rfl,.inl ⟨rfl,_,rfl,zP (fun g=>absurd g (by decide)) (fun _=>?_)⟩⟩;refine⟨_,rfl,.inl ⟨rfl,_,rfl,zP (fun g=>absurd g (by decide)) (fun _=>?_)⟩⟩;refine⟨_,rfl,.inl ⟨rfl,_,rfl,zP (fun g=>absurd g (by decide)) (fun _=>?_)⟩⟩;refine⟨_,rfl,.inl ⟨rfl,_,rfl,zP (fun _=>?_) (fun g=>absurd rfl g)⟩⟩;exact⟨_,rfl,_,rfl,_,rfl,_,rfl,fun x dx f1 f2 ne=>⟨x,_,dx,nm,pl,_,_,rfl,qc,ok,okp,hlo,hhi,T.cl_Between,T.n_Between_name,T.n_Between_place,T.n_Between_low,T.n_Between_high,fun H1 B1 h1=>⟨rfl,kk x H1 (zL f1 f2 B1) (.between h1)⟩⟩⟩
   | read ok okp hm =>
     refine⟨_,rfl,.inl ⟨rfl,_,rfl,zP (fun g=>absurd g (by decide)) (fun _=>?_)⟩⟩;refine⟨_,rfl,.inl ⟨rfl,_,rfl,zP (fun g=>absurd g (by decide)) (fun _=>?_)⟩⟩;refine⟨_,rfl,.inl ⟨rfl,_,rfl,zP (fun g=>absurd g (by decide)) (fun _=>?_)⟩⟩;refine⟨_,rfl,.inl ⟨rfl,_,rfl,zP (fun g=>absurd g (by decide)) (fun _=>?_)⟩⟩;exact⟨_,rfl,_,rfl,_,rfl,fun x dx f1 f2 ne=>⟨x,dx,nm,pl,_,rfl,qc,ok,okp,hm,fun H1 B1 h1=>⟨rfl,kk x H1 (zL f1 f2 B1) (.read h1)⟩⟩⟩
end
theorem qiz {K:Frag}{a:Addr}{xs:List V}{g:TG}{tt:TT}{te:TE}{D:Addr}{Q:VK}{σ:L2.St}{H:Hp} (Pv:Nat->L2.St->Hp->Prop) (h0:Pv 0 σ H) (hl:∀ i σ H,i≤xs.length->Pv i σ H->SqT K H a xs)
   (hs:∀ i x σ H,xs[i]?=some x->Pv i σ H->g x σ H fun σ3 H3=>tt σ3 H3 fun ok H4=>if ok=true then te σ3 H4 fun y H5=>∃ ys,H5 D=some (.lst ys)∧ys.length < sizeLine∧Pv (i+1) σ3 (upd H5 D (.lst (ys++[y]))) else Pv (i+1) σ3 H4)
   (hd:∀ σ H,Pv xs.length σ H->Q (.ref D) H) :
   Q4 (Itt K a) g tt te D Q σ H:=by
 refine⟨fun i m σ H=>m=xs.length - i∧i≤xs.length∧Pv i σ H,⟨xs.length,by simp,Nat.zero_le _,h0⟩,?_⟩;rintro i m σ H ⟨rfl,hi,p⟩;have q:=hl i σ H hi p;by_cases hlt:i < xs.length
 · refine .inr ⟨⟨xs,xs[i],q,by simp[hlt]⟩,Pv (i+1),fun σ' H' p'=>⟨xs.length - (i+1),by omega,rfl,hlt,p'⟩,fun v H' y=>?_⟩;obtain⟨e,y⟩:=y;subst e;exact hs i v σ _ (y xs q) p
 · have e:i=xs.length:=by omega
   subst e;exact .inl ⟨⟨xs,q,Nat.le_refl _⟩,hd σ H p⟩
def SrtOk (ws:List (Int×Int)):Prop:=ws.length < 64∨(ws.length≤1000∧(ws.map g2).Pairwise (fun a b=>QS b a=false))
theorem SrtOk.le {ws:List (Int×Int)} (h:SrtOk ws):ws.length≤1000:=by rcases h with h|h<;>omega
theorem SrtOk.filter {ws:List (Int×Int)} (h:SrtOk ws) (p:Int×Int->Bool):SrtOk (ws.filter p):=by
 have l:=List.length_filter_le p ws;rcases h with h|⟨h,k⟩
 · exact .inl (by omega)
 · exact .inr ⟨by omega,List.Pairwise.sublist (List.Sublist.map _ List.filter_sublist) k⟩
theorem SrtOk.one (w:Int×Int):SrtOk [w]:=.inl (Nat.le_of_ble_eq_true rfl)
theorem JR:bootBuiltins "sorted"=some (.builtin "sorted"):=by decide +kernel
theorem Rs.same {H H':Hp}{q:Addr}{rows:List (Int×Int)} (h:Rs H q rows) (s:Same H H'):Rs H' q rows:=by
 obtain⟨zs,h1,h2⟩:=h;exact⟨zs,s _ _ h1,h2.same s⟩
abbrev okw (w:Int×Int):Bool:=decide (w.1≤w.2)
theorem qdL {H:Hp}{zs:List V}{ws:List (Int×Int)} (h:TupL pr H zs ws):TupI H zs (ws.map g2):=by
 refine⟨by rw[List.length_map];exact h.1,fun i z r e1 e2=>?_⟩;obtain⟨p,hp,rfl⟩:=zY e2;exact h.2 i z p e1 hp
theorem qgy {H:Hp}{zs:List V}{ws:List (Int×Int)} (h:TupI H zs (ws.map g2)):TupL pr H zs ws :=
 ⟨by have:=h.len;rwa [List.length_map]at this,fun i z p e1 e2=>h.at_ i z (g2 p) e1 (by rw[List.getElem?_map,e2];rfl)⟩
theorem qeE {rs:List (List Int)}{fs:List (Int×Int)} (h:rs.Perm (fs.map g2)):∃ ss:List (Int×Int),rs=ss.map g2∧ss.Perm fs:=by
 refine⟨rs.map fun r=>(r.getD 0 0,r.getD 1 0),?_,?_⟩
 · rw[List.map_map];refine(List.map_id rs).symm.trans (List.map_congr_left fun r hr=>?_);obtain⟨p,_,rfl⟩:=List.mem_map.mp (h.mem_iff.mp hr);rfl
 · have:=h.map fun r=>(r.getD 0 0,r.getD 1 0)
   rw[List.map_map]at this
   rwa [show (fs.map ((fun r:List Int=>(r.getD 0 0,r.getD 1 0)) ∘ g2))=fs from (List.map_congr_left fun p _=>rfl).trans (List.map_id fs)]at this
theorem qi3 {ss:List (Int×Int)} (h:(ss.map g2).Pairwise fun a b=>QS b a=false):ss.Pairwise fun a b=>a.1≤b.1:=by
 refine(List.pairwise_map.mp h).imp fun {a b} g=>?_;have g':QS [b.1,b.2] [a.1,a.2]=false:=g;unfold QS at g';by_cases e:b.1=a.1
 · omega
 · rw[if_neg e]at g'
   have:=of_decide_eq_false g'
   omega
theorem qi5 (ws:List (Int×Int)) (n:Int):Mem (ws.filter okw) n↔Mem ws n:=by
 constructor
 · rintro⟨w,hw,h⟩;exact⟨w,(List.mem_filter.mp hw).1,h⟩
 · rintro⟨w,hw,h⟩;exact⟨w,List.mem_filter.mpr ⟨hw,decide_eq_true (by omega)⟩,h⟩
theorem qeH {ss fs:List (Int×Int)} (h:ss.Perm fs) (n:Int):Mem ss n↔Mem fs n :=
 ⟨fun⟨w,hw,k⟩=>⟨w,h.mem_iff.mp hw,k⟩,fun⟨w,hw,k⟩=>⟨w,h.mem_iff.mpr hw,k⟩⟩
theorem qdv {acc:List (Int×Int)}{l w:Int×Int} (h:acc.getLast?=some l) (e:w.1≤l.2+1):qae acc w=acc.set (acc.length - 1) (l.1,if w.2 > l.2 then w.2 else l.2):=by
 unfold qae;rw[h];exact if_pos e
theorem qeP {acc:List (Int×Int)}{l w:Int×Int} (h:acc.getLast?=some l) (e:¬ w.1≤l.2+1):qae acc w=acc++[w]:=by
 unfold qae;rw[h];exact if_neg e
theorem qio (acc:List (Int×Int)) (w:Int×Int):(qae acc w).length≤acc.length+1:=by
 unfold qae;split
 · split
   · rw[List.length_set];omega
   · rw[List.length_append];exact Nat.le_refl _
 · simp
theorem qeQ {ws:List (Int×Int)}{i:Nat}{w:Int×Int} (h:ws[i]?=some w):(ws.take (i+1)).foldl qae []=qae ((ws.take i).foldl qae []) w:=by
 rw[List.take_add_one,h,List.foldl_append];rfl
theorem ZK (ws:List (Int×Int)):∀ i,((ws.take i).foldl qae []).length≤i
 | 0=>by simp
 | i+1=>by
   cases h:ws[i]? with
   | none =>
     have:=ZK ws i
     rw[List.take_add_one,h];simp only[Option.toList,List.append_nil];omega
   | some w =>
     have:=ZK ws i
     have:=qio ((ws.take i).foldl qae []) w
     rw[qeQ h];omega
theorem qkJ {K:Frag}{H:Hp}{q:Addr}{zs:List V}{ws:List (Int×Int)}{Q:VK} (hq:SqL K H q zs) (tp:TupL pr H zs ws) (so:SrtOk ws)
   (k:∀ (p:Addr) (zs':List V) (rs':List (List Int)),H p=none->rs'.Perm (ws.map g2)->TupI H zs' rs'->rs'.Pairwise (fun a b=>QS b a=false)->Q (.ref p) (upd H p (.lst zs'))):qiQ K [.ref q] H Q∨qiP K [.ref q] H Q:=by
 have h2:∀ r∈ws.map g2,r.length=2:=fun r hr=>by obtain⟨w,_,rfl⟩:=List.mem_map.mp hr;rfl
 rcases so with so|⟨_,up⟩
 · exact .inl ⟨q,zs,ws.map g2,2,rfl,hq,qdL tp,h2,(by decide),by rw[tp.1];exact so,k⟩
 · exact .inr ⟨q,zs,ws.map g2,2,rfl,hq,qdL tp,h2,(by decide),up,fun p fp=>k p zs _ fp (.refl _) (qdL tp) up⟩
inductive Zl (vs:List V) (H:Hp) (Q:VK):Prop
 | mk (t:Addr) (r:Int×Int) (h1:vs=[.ref t]) (h2:H t=some (.tup (pr r))) (h3:Q (.bl true) H):Zl vs H Q
def jw:Sp:=fun vs H Q _=>Zl vs H Q
inductive Qd (vs:List V) (H:Hp) (Q:VK):Prop
 | mk (q:Addr) (ws:List (Int×Int)) (h1:vs=[.ref q]) (h2:Rs H q ws) (h3:∀ H',Same H H'->Q .non H'):Qd vs H Q
def Qr:Sp:=fun vs H Q _=>Qd vs H Q
inductive ju (vs:List V) (H:Hp) (Q:VK):Prop
 | mk (q:Addr) (ws:List (Int×Int)) (h1:vs=[.ref q]) (h2:Rs H q ws) (h3:SrtOk ws) (h4:∀ (d:Addr) (r:List (Int×Int)) (H':Hp),H d=none->Same H H'->Rs H' d r->qR r->r.length≤ws.length->(∀ n,Mem r n↔Mem ws n)->Q (.ref d) H'):ju vs H Q
def QU:Sp:=fun vs H Q _=>ju vs H Q
section
variable {P:Program}{w:World}{K:Frag}{mg:Str->Option Value}{base:Heap}
theorem qcm {a:Ad} (T:Txt K mg a):qD P w K mg base CX0 2 a.f_K a.fd_K ["thing"] jw:=by
 have G_j:=JO (P:=P) (w:=w) (base:=base) T;refine T.d_K.F.ok qca (fun vs H Q E h=>?_) (fun cdv A outer s H vs Q E hr h=>?_)
 · obtain⟨t,r,rfl,ht,kk⟩:=h;rfl
 · obtain⟨t,r,rfl,ht,kk⟩:=h;have hU:=hr.units;have h_j:Room (1) _:=hr.mono (by decide);refine⟨_,(qf (qt (jg (qm zN (by rfl) T.n_isinstance qv (qa (pv 0) (qa (Qc (v:=.ty "tuple") rfl T.n_tuple jr rfl) qb))) (jg (zA (uEq hU) (qm qW (by rfl) T.n_len qM (qa (pv 0) qb)) qd (qC _)) (jg (qh G_j h_j rfl T.d_j.m T.d_j.k T.d_j.b .nil qq (qa (qz (r:=rIx K) qp (pv 0) qd (fun _ _=>rfl)) qb)) (je (qh G_j h_j rfl T.d_j.m T.d_j.k T.d_j.b .nil qq (qa (qz (r:=rIx K) qp (pv 0) qd (fun _ _=>rfl)) qb)))))))),?_⟩;(try dsimp only [zb,Cx.nox]);have ty:tyN H (.ref t)=some "tuple":=by simp only[tyN];rw[ht]
   refine⟨_,rfl,_,_,_,rfl,(by decide),ty,_,rfl,Ji rfl ?_⟩;refine⟨_,rfl,_,_,rfl,.inr ⟨_,SqT.of ht,rfl⟩,.inl ⟨rfl,_,rfl,Ji (decide_eq_true rfl) ?_⟩⟩;refine⟨_,rfl,.inr (.inl ⟨t,_,_,_,rfl,rfl,SqT.of ht,rfl,_,rfl,true,rfl,qfy ?_⟩)⟩;exact⟨_,rfl,.inr (.inl ⟨t,_,_,_,rfl,rfl,SqT.of ht,rfl,_,rfl,kk⟩)⟩
theorem jS {a:Ad} (T:Txt K mg a):qD P w K mg base CX0 3 a.f_L a.fd_L ["stretches"] Qr:=by
 have G_K:=qcm (P:=P) (w:=w) (base:=base) T;refine T.d_L.F.ok sc_check_stretches (fun vs H Q E h=>?_) (fun cdv A outer s H vs Q E hr h=>?_)
 · obtain⟨q,ws,rfl,hrs,kk⟩:=h;rfl
 · obtain⟨q,ws,rfl,hrs,kk⟩:=h;have h_K:Room (2) _:=hr.mono (by decide)
   refine⟨_,(qe (qO (zu (za (qm zN (by rfl) T.n_isinstance qv (qa (pv 0) (qa (Qc (v:=.ty "list") rfl T.n_list zj rfl) qb)))))
       (qf zm)
       qy)
     (qf (zx PassesOwn.never rfl (qgl rfl T.n_enumerate (qa (pv 0) qb)) (zR rfl (qu (qr (i:=1) (sc_check_stretches.nd) rfl (Or.inl rfl)) (qu (qr (i:=2) (sc_check_stretches.nd) rfl (Or.inl rfl)) zn)))
       (qf (qO (zu (za (qh G_K h_K rfl T.d_K.m T.d_K.k T.d_K.b .nil qq (qa (pv 2) qb))))
         (qf zm)
         qy))))),?_⟩
   try dsimp only [zb,Cx.nox]
   obtain⟨zs,hq,tp⟩:=id hrs;have ty:tyN H (.ref q)=some "list":=by simp only[tyN];rw[hq]
   refine⟨_,rfl,_,_,_,rfl,(by decide),ty,true,rfl,qS rfl ?_⟩;refine⟨_,rfl,q,rfl,⟨zs,SqL.of hq⟩,qeU (K:=K) (a:=q) (xs:=zs) (fun i σ H2=>∃ s1 s2:Option V,σ=[some (.ref q),s1,s2]∧Same H H2) ⟨none,none,rfl,Same.refl H⟩ (fun i σ H2 _ ⟨_,_,_,S⟩=>SqL.of (S _ _ hq)) ?_ ?_⟩
   · rintro i x σ H2 p hx ⟨s1,s2,rfl,S⟩ hn;have S2:Same H (upd H2 p (.tup [.int i,x])):=S.then _ hn
     obtain⟨r,t,hr',rfl,ht⟩:=tp.of hx;refine⟨p,_,rfl,SqT.of qc,rfl,_,_,rfl,_,_,rfl,rfl,?_⟩;exact⟨_,rfl,t,r,rfl,S2 _ _ ht,_,rfl,qS rfl ⟨_,_,rfl,S2⟩⟩
   · rintro σ H2 ⟨s1,s2,rfl,S⟩;exact kk H2 S
theorem jp {a:Ad} (T:Txt K mg a):qD P w K mg base CX0 4 a.f_g a.fd_g ["stretches"] QU:=by
 have G_L:=jS (P:=P) (w:=w) (base:=base) T;refine T.d_g.F.ok sc_spans_of (fun vs H Q E h=>?_) (fun cdv A outer s H vs Q E hr h=>?_)
 · obtain⟨q,ws,rfl,hrs,few,kk⟩:=h;rfl
 · obtain⟨q,ws,rfl,hrs,few,kk⟩:=h;have few1:=few.le;have h_L:Room (3) _:=hr.mono (by decide)
   refine⟨_,(qe (qI (qh G_L h_L rfl T.d_L.m T.d_L.k T.d_L.b .nil qq (qa (pv 0) qb)))
     (qe (qx (i:=1) sc_spans_of.nd rfl (Or.inl rfl) (qJ qb))
     (qe (zx PassesOwn.never rfl (qX (qm (call_sortT.or qbZ) (by rfl) T.n_sorted JR (qa (zJ rfl (CompOk.def ["stretch"] [none]) (qX (pv 0)) (fun _ _ _ _ _=>(qr (i:=0) (show List.Nodup (["stretch"]:List Str) by decide +kernel) rfl (Or.inl rfl))) (fun _ _ _ _ _=>(Jb (qw JX (qz (r:=rIx K) qp (pv 0) qd (fun _ _=>rfl)) (qz (r:=rIx K) qp (pv 0) qd (fun _ _=>rfl)) (qC _)))) (fun _ _ _ _ _=>(pv 0))) qb))) (zR rfl (qu (qr (i:=2) (sc_spans_of.nd) rfl (Or.inl rfl)) (qu (qr (i:=3) (sc_spans_of.nd) rfl (Or.inl rfl)) zn)))
       (qf (qO (PW.pt (qaG (qeC (pv 1) (fun _=>rfl)) (Ja (qw JX (pv 2) (qA QT (qz (r:=rIx K) qp (qz (r:=rIx K) qp (pv 1) (Zj zU qd) (fun _ _=>rfl)) qd (fun _ _=>rfl)) qd) (qC _)))))
         (qf (JL (qV (qa (qz (r:=rIx K) qp (qz (r:=rIx K) qp (pv 1) (Zj zU qd) (fun _ _=>rfl)) qd (fun _ _=>rfl)) (qa (qm (zh rfl) (by rfl) T.n_max zi (qa (qz (r:=rIx K) qp (qz (r:=rIx K) qp (pv 1) (Zj zU qd) (fun _ _=>rfl)) qd (fun _ _=>rfl)) (qa (pv 3) qb))) qb))) (qc9 (pv 1) (Zj zU qd) jF)))
         (qf (qI (ZG PySem.F.plainAttrs_list PySem.F.slot_list_append PySem.F.type_list_append qY (pv 1) (qa (qV (qa (pv 2) (qa (pv 3) qb))) qb)))))))
     (qf (qt (pv 1)))))),?_⟩
   try dsimp only [zb,Cx.nox]
   refine⟨_,rfl,q,ws,rfl,hrs,fun G0 S0=>?_⟩;refine⟨qk (Nat.le_of_ble_eq_true rfl),fun D fD=>?_⟩;have SD:=Same.new (.lst []) fD;have hD0:(upd G0 D (.lst [])) D=some (.lst []):=qc;obtain⟨zs,hq,tp⟩:=(hrs.same S0).same SD;(try unfold qK);(try dsimp only);generalize upd G0 D (.lst [])=G at SD hD0 hq tp ⊢;have hl:zs.length=ws.length:=tp.1;refine⟨_,rfl,q,rfl,⟨_,SqL.of hq⟩,fun C fC=>?_⟩;refine zM (K:=K) (a:=q) (xs:=zs) (D:=C) (fun i σ H2=>∃ (c0:Option V) (cs:List V),σ=[c0]∧Same G H2∧H2 C=some (.lst cs)∧TupL pr H2 cs ((ws.take i).filter okw)) ⟨none,[],rfl,Same.new _ fC,qc,.nil⟩ (fun i σ H2 _ ⟨_,_,_,S,_⟩=>SqL.of (S _ _ hq)) ?_ ?_
   · rintro i z σ H2 hz ⟨c0,cs,rfl,S,hC,tc⟩;obtain⟨r,t,hr',rfl,ht⟩:=tp.of hz;have ht2:=S _ _ ht;have et:ws.take (i+1)=ws.take i++[r]:=by rw[List.take_add_one,hr'];rfl
     have lc:cs.length≤1000:=by
       rw[tc.1];refine Nat.le_trans (List.length_filter_le _ _) ?_;rw[List.length_take];omega
     refine⟨_,rfl,.inr (.inl ⟨t,_,_,_,rfl,rfl,SqT.of ht2,rfl,_,rfl,.inr (.inl ⟨t,_,_,_,rfl,rfl,SqT.of ht2,rfl,_,_,rfl,rfl,_,rfl,zP (fun g=>?_) (fun g=>?_)⟩)⟩)⟩
     · refine⟨_,rfl,_,hC,qB (by omega),_,cs++[.ref t],rfl,S.put fC _,qc,?_⟩;rw[et,List.filter_append,show List.filter okw [r]=[r] by simp[okw,g]];exact(tc.snoc (p:=r) ht2).put hC
     · refine⟨_,cs,rfl,S,hC,?_⟩;rw[et,List.filter_append,show List.filter okw [r]=[] by simp[okw,g],List.append_nil];exact tc
   rintro σ H2 ⟨c0,cs,rfl,S,hC,tc⟩;rw[hl,List.take_length]at tc;have okf:∀ w∈ws.filter okw,w.1≤w.2:=fun w hw=>of_decide_eq_true (List.mem_filter.mp hw).2;have lf:(ws.filter okw).length≤ws.length:=List.length_filter_le _ _;have mok:=qi5 ws;have sof:=few.filter okw;generalize ws.filter okw=fs at tc okf lf mok sof;refine qkJ (SqL.of hC) tc sof fun p zs' rs' fp hp tI ho=>?_;obtain⟨ss,rfl,hss⟩:=qeE hp;have ord:=qi3 ho;have oks:∀ w∈ss,w.1≤w.2:=fun w m=>okf w (hss.mem_iff.mp m);have lss:ss.length≤ws.length:=by rw[hss.length_eq];exact lf
   have tz0:TupL pr H2 zs' ss:=qgy tI;have Sp:=Same.new (.lst zs') fp;have tz:=tz0.same Sp;have hp1:(upd H2 p (.lst zs')) p=some (.lst zs'):=qc;have hD1:=Sp _ _ (S _ _ hD0);have npD:p≠D:=fun e=>by rw[e,S _ _ hD0]at fp;cases fp
   have SG:=SD.trans (S.trans Sp);(try dsimp only);generalize upd H2 p (.lst zs')=G1 at tz hp1 hD1 SG ⊢;refine⟨p,rfl,⟨_,SqL.of hp1⟩,zy (D:={ nx:=qhL (qiI 1) { nx:=fun _ H'=>Q .non H',rt:=Q },rt:=Q }) (K:=K) (a:=p) (xs:=zs') (fun i σ H3=>∃ (s2 s3:Option V) (ys:List V),σ=[some (.ref q),some (.ref D),s2,s3]∧But D G1 H3∧H3 D=some (.lst ys)∧TupL pr H3 ys ((ss.take i).foldl qae [])) ⟨none,none,[],rfl,(fun c o e _=>e),hD1,.nil⟩ (fun i σ H3 _ ⟨_,_,_,_,B,_⟩=>SqL.of (B _ _ hp1 npD)) ?_ ?_⟩
   · rintro i z σ H3 hz ⟨s2,s3,ys,rfl,B,hD,ty⟩;obtain⟨wv,t,hw,rfl,ht⟩:=tz.of hz;have ntD:t≠D:=Qm ht hD1 (by intro z;cases z);have ht3:=B _ _ ht ntD;have okv:=oks wv (List.mem_of_getElem? hw)
     have ly:ys.length≤1000:=by
       have:=ZK ss i
       have lti:i < ss.length:=(List.getElem?_eq_some_iff.mp hw).1;rw[ty.1];omega
     refine⟨t,_,rfl,SqT.of ht3,rfl,_,_,rfl,_,_,rfl,rfl,?_⟩;rw[qeQ hw];generalize (ss.take i).foldl qae []=acc at ty ⊢
     cases ea:acc.getLast? with
     | none =>
       have e0:acc=[]:=List.getLast?_eq_none_iff.mp ea;subst e0;have ey:ys=[]:=List.eq_nil_of_length_eq_zero ty.1;subst ey;refine⟨_,rfl,false,.inl ⟨_,SqL.of hD,rfl⟩,qbt (qbt ?_)⟩;refine⟨_,rfl,.inl ⟨rfl,_,SqL.of hD⟩,_,rfl,_,rfl,qk (Nat.le_of_ble_eq_true rfl),fun tt ft=>?_⟩;have St:=Same.new (.tup [.int wv.1,.int wv.2]) ft;refine⟨D,_,_,rfl,rfl,St _ _ hD,qB (by omega),?_⟩;refine⟨_,_,[]++[.ref tt],rfl,(fun c o e n=>?_),qc,?_⟩
       · rw[qj n];exact St _ _ (B c o e n)
       · exact((TupL.nil (f:=pr)).snoc (p:=wv) qc).put (St _ _ hD)
     | some l =>
       obtain⟨tl,hzl,htl⟩:=TupL.last ty ea
       have ey:true=!ys.isEmpty:=by
         cases ys with
         | nil=>cases hzl
         | cons y ys=>rfl
       refine⟨_,rfl,true,.inl ⟨_,SqL.of hD,ey⟩,qfy ?_⟩;refine⟨_,rfl,_,rfl,_,rfl,.inl ⟨D,_,_,_,rfl,rfl,SqL.of hD,atI_last hzl,.inr (.inl ⟨tl,_,_,_,rfl,rfl,SqT.of htl,rfl,.inl ⟨_,_,rfl,rfl,_,_,rfl,rfl,_,rfl,zP (fun g=>?_) (fun g=>?_)⟩⟩)⟩⟩
       · have g':wv.1≤l.2+1:=g;refine⟨_,rfl,_,rfl,.inl ⟨D,_,_,_,rfl,rfl,SqL.of hD,atI_last hzl,.inr (.inl ⟨tl,_,_,_,rfl,rfl,SqT.of htl,rfl,_,rfl,_,rfl,.inl ⟨D,_,_,_,rfl,rfl,SqL.of hD,atI_last hzl,.inr (.inl ⟨tl,_,_,_,rfl,rfl,SqT.of htl,rfl,_,rfl,_,_,rfl,qk (Nat.le_of_ble_eq_true rfl),fun tt ft=>?_⟩)⟩⟩)⟩⟩;have St:=Same.new (.tup [.int l.1,.int (if wv.2 > l.2 then wv.2 else l.2)]) ft;refine⟨_,rfl,_,rfl,D,_,_,ys.length - 1,rfl,rfl,St _ _ hD,qcy (by cases ys with|nil=>cases hzl|cons y ys=>simp),?_⟩;refine⟨_,_,ys.set (ys.length - 1) (.ref tt),rfl,(fun c o e n=>?_),qc,?_⟩
         · rw[qj n];exact St _ _ (B c o e n)
         · rw[qdv ea g',← ty.1];exact(TupL.set (ty.same St) (i:=ys.length - 1) (p:=(l.1,if wv.2 > l.2 then wv.2 else l.2)) qc).put (St _ _ hD)
       · have g':¬ wv.1≤l.2+1:=g;refine⟨_,rfl,.inl ⟨rfl,_,SqL.of hD⟩,_,rfl,_,rfl,qk (Nat.le_of_ble_eq_true rfl),fun tt ft=>?_⟩;have St:=Same.new (.tup [.int wv.1,.int wv.2]) ft;refine⟨D,_,_,rfl,rfl,St _ _ hD,qB (by omega),?_⟩;refine⟨_,_,ys++[.ref tt],rfl,(fun c o e n=>?_),qc,?_⟩
         · rw[qj n];exact St _ _ (B c o e n)
         · rw[qeP ea g'];exact((ty.same St).snoc (p:=wv) qc).put (St _ _ hD)
   · rintro σ H3 ⟨s2,s3,ys,rfl,B,hD,ty⟩;have glen:=ZK ss ss.length;rw[tz.1]at ty;rw[List.take_length]at ty glen;obtain⟨f1,f2⟩:=qd0 ss [] ⟨fun _ z=>(nomatch z),List.Pairwise.nil⟩ oks ord fun _ z=>nomatch z;refine⟨_,rfl,kk D _ H3 (S0.none fD) (fun c o e=>?_) ⟨ys,hD,ty⟩ f1 (by omega) fun n=>?_⟩
     · have n:c≠D:=qi (S0 _ _ e) fD;exact B _ _ (SG _ _ (S0 _ _ e)) n
     · rw[f2,qeH hss,mok];exact⟨fun h=>h.elim (fun⟨_,z,_⟩=>nomatch z) id,.inr⟩
end
abbrev rD (r:Int×Int):PyData:=.tuple [.int r.1,.int r.2]
theorem qga {H:Hp}:∀ {rows:List (Int×Int)}{zs:List V},TupL pr H zs rows->DVs H zs (rows.map rD)∧PyData.canLayAll0 (rows.map rD)=true∧PyData.depthAll (rows.map rD)≤2
 | [],zs,h=>by
   have:zs=[]:=List.eq_nil_of_length_eq_zero h.1
   subst this;exact⟨.nil,rfl,by simp[PyData.depthAll]⟩
 | r::rows,zs,h=>by
   cases zs with
   | nil=>have:=h.1;simp at this
   | cons z zs =>
     obtain⟨t,rfl,ht⟩:=h.2 0 z r rfl rfl;obtain⟨h1,h2,h3⟩:=qga (rows:=rows) (zs:=zs) ⟨by have:=h.1;simpa using this,fun i z p e1 e2=>h.2 (i+1) z p (by simpa using e1) (by simpa using e2)⟩;refine⟨.cons (.tup (.inl ht) (.cons (.int _) (.cons (.int _) .nil))) h1,?_,?_⟩
     · rw[List.map_cons];simp only[PyData.canLayAll0,PyData.canLay0,h2];rfl
     · rw[List.map_cons];simp only[PyData.depthAll,PyData.depth];omega
theorem qjI {rows:List (Int×Int)} (h1:PyData.canLayAll0 (rows.map rD)=true) (h2:PyData.depthAll (rows.map rD)≤2):PyData.canLay0 (.list (rows.map rD))=true∧SeqAt.shaped (.list (rows.map rD))=true:=by
 have cl:PyData.canLay0 (.list (rows.map rD))=true:=by simp only[PyData.canLay0,h1]
 refine⟨cl,?_⟩;unfold SeqAt.shaped;rw[cl,Bool.true_and];refine decide_eq_true ?_;simp only[PyData.depth];omega
theorem qk9 {H:Hp}{a b:Addr}{ws:List (Int×Int)}{Q:VK} (h1:Rs H a ws) (h2:H b=some (.lst [])) (q:Q (.bl (!ws.isEmpty)) H):qlB (.ref a) (.ref b) H Q:=by
 obtain⟨zs,ha,ta⟩:=h1;obtain⟨d1,d2,d3⟩:=qga ta;obtain⟨cl,sh⟩:=qjI d2 d3;refine .inr ⟨_,_,.lst (.inl ha) d1,.lst (.inl h2) .nil,sh,rfl,?_⟩
 cases ws with
 | nil=>exact q
 | cons w ws=>exact q
abbrev jf (ss:List (Int×Int)) (i:Nat):List (Int×Int):=((ss.take i).filter okw).foldl qae []
theorem qlg {ss:List (Int×Int)}{i:Nat}{w:Int×Int} (h:ss[i]?=some w) (g:w.1≤w.2):jf ss (i+1)=qae (jf ss i) w:=by
 unfold jf;rw[List.take_add_one,h,List.filter_append,List.foldl_append];show List.foldl qae _ (List.filter okw [w])=_;rw[show List.filter okw [w]=[w] by simp[g]];rfl
theorem qmb {ss:List (Int×Int)}{i:Nat}{w:Int×Int} (h:ss[i]?=some w) (g:¬ w.1≤w.2):jf ss (i+1)=jf ss i:=by
 unfold jf;rw[List.take_add_one,h,List.filter_append,List.foldl_append];show List.foldl qae _ (List.filter okw [w])=_;rw[show List.filter okw [w]=[] by simp[g]];rfl
theorem qi8 (ss:List (Int×Int)) (i:Nat):(jf ss i).length≤ss.length:=by
 have:=ZK ((ss.take i).filter okw) ((ss.take i).filter okw).length
 rw[List.take_length]at this;refine Nat.le_trans this (Nat.le_trans (List.length_filter_le _ _) (List.length_take_le' _ _))
inductive Jw (vs:List V) (H:Hp) (Q:VK):Prop
 | mk (q:Addr) (ws:List (Int×Int)) (h1:vs=[.ref q]) (h2:Rs H q ws) (h3:SrtOk ws) (h4:∀ (d:Addr) (r:List (Int×Int)) (H':Hp),H d=none->Same H H'->Rs H' d r->qR r->r.length≤ws.length->(∀ n,Mem r n↔Mem ws n)->Q (.ref d) H'):Jw vs H Q
def ZL:Sp:=fun vs H Q _=>Jw vs H Q
section
variable {P:Program}{w:World}{K:Frag}{mg:Str->Option Value}{base:Heap}
theorem Je {a:Ad} (T:Txt K mg a):qD P w K mg base CX0 1 a.f_h a.fd_h ["_law_stretches"] ZL:=by
 refine T.d_h.F.ok sc_Ljoined (fun vs H Q E h=>?_) (fun cdv A outer s H vs Q E hr h=>?_)
 · obtain⟨q,ws,rfl,hrs,few,kk⟩:=h;rfl
 · obtain⟨q,ws,rfl,hrs,few,kk⟩:=h;have few1:=few.le;have hU:=hr.units
   refine⟨_,(qe (qx (i:=1) sc_Ljoined.nd rfl (Or.inl rfl) (qJ qb))
     (qe (zx PassesOwn.never rfl (qX (qm (call_sortT.or qbZ) (by rfl) T.n_sorted JR (qa (pv 0) qb))) (zR rfl (qu (qr (i:=2) (sc_Ljoined.nd) rfl (Or.inl rfl)) (qu (qr (i:=3) (sc_Ljoined.nd) rfl (Or.inl rfl)) zn)))
       (qf (qO (PW.pt (qaG (qw JX (pv 2) (pv 3) (qC _)) (qaG (qw (uNe hU) (pv 1) (qJ qb) (qC _)) (Ja (qw JX (pv 2) (qA QT (qz (r:=rIx K) qp (qz (r:=rIx K) qp (pv 1) (Zj zU qd) (fun _ _=>rfl)) qd (fun _ _=>rfl)) qd) (qC _))))))
         (qf (JL (qV (qa (qz (r:=rIx K) qp (qz (r:=rIx K) qp (pv 1) (Zj zU qd) (fun _ _=>rfl)) qd (fun _ _=>rfl)) (qa (qm (zh rfl) (by rfl) T.n_max zi (qa (qz (r:=rIx K) qp (qz (r:=rIx K) qp (pv 1) (Zj zU qd) (fun _ _=>rfl)) qd (fun _ _=>rfl)) (qa (pv 3) qb))) qb))) (qc9 (pv 1) (Zj zU qd) jF)))
         (qf (qO (qw JX (pv 2) (pv 3) (qC _))
           (qf (qI (ZG PySem.F.plainAttrs_list PySem.F.slot_list_append PySem.F.type_list_append qY (pv 1) (qa (qV (qa (pv 2) (qa (pv 3) qb))) qb))))
           qy)))))
     (qf (qt (pv 1))))),?_⟩
   try dsimp only [zb,Cx.nox]
   refine⟨qk (Nat.le_of_ble_eq_true rfl),fun D fD=>?_⟩;have SD:=Same.new (.lst []) fD;have hD0:(upd H D (.lst [])) D=some (.lst []):=qc;obtain⟨zs,hq,tp⟩:=hrs.same SD;(try unfold qK);(try dsimp only);generalize upd H D (.lst [])=G at SD hD0 hq tp ⊢;have hl:zs.length=ws.length:=tp.1;refine⟨_,rfl,qkJ (SqL.of hq) tp few fun p zs' rs' fp hp tI ho=>?_⟩;obtain⟨ss,rfl,hss⟩:=qeE hp;have ord:=qi3 ho;have lss:ss.length=ws.length:=hss.length_eq;have tz0:TupL pr G zs' ss:=qgy tI;have Sp:=Same.new (.lst zs') fp;have tz:=tz0.same Sp;have hp1:(upd G p (.lst zs')) p=some (.lst zs'):=qc;have hD1:=Sp _ _ hD0;have npD:p≠D:=fun e=>by rw[e,hD0]at fp;cases fp
   have SG:=SD.trans Sp;(try dsimp only);generalize upd G p (.lst zs')=G1 at tz hp1 hD1 SG ⊢;refine⟨p,rfl,⟨_,SqL.of hp1⟩,zy (D:={ nx:=qhL (qiI 1) { nx:=fun _ H'=>Q .non H',rt:=Q },rt:=Q }) (K:=K) (a:=p) (xs:=zs') (fun i σ H3=>∃ (s2 s3:Option V) (ys:List V),σ=[some (.ref q),some (.ref D),s2,s3]∧But D G1 H3∧H3 D=some (.lst ys)∧TupL pr H3 ys (jf ss i)) ⟨none,none,[],rfl,(fun c o e _=>e),hD1,.nil⟩ (fun i σ H3 _ ⟨_,_,_,_,B,_⟩=>SqL.of (B _ _ hp1 npD)) ?_ ?_⟩
   · rintro i z σ H3 hz ⟨s2,s3,ys,rfl,B,hD,ty⟩;obtain⟨wv,t,hw,rfl,ht⟩:=tz.of hz;have ntD:t≠D:=Qm ht hD1 (by intro z;cases z);have ht3:=B _ _ ht ntD
     have ly:ys.length≤1000:=by
       have:=qi8 ss i
       rw[ty.1];omega
     refine⟨t,_,rfl,SqT.of ht3,rfl,_,_,rfl,_,_,rfl,rfl,?_⟩;refine⟨_,rfl,_,rfl,_,_,rfl,rfl,_,rfl,zP (fun g=>?_) (fun g=>qbt ?_)⟩
     · have g0:wv.1≤wv.2:=g;rw[qlg hw g0];generalize jf ss i=acc at ty ⊢;refine⟨_,rfl,qk (Nat.le_of_ble_eq_true rfl),fun nl fnl=>?_⟩;have Sn:=Same.new (.lst []) fnl;have B1:But D G1 (upd H3 nl (.lst [])):=B.same Sn;have hD2:=Sn _ _ hD;have ty2:=ty.same Sn;have enl:(upd H3 nl (.lst [])) nl=some (.lst []):=qc;(try dsimp only);generalize upd H3 nl (.lst [])=H4 at B1 hD2 ty2 enl ⊢;refine qk9 (ws:=acc) ⟨ys,hD2,ty2⟩ enl ?_
       cases ea:acc.getLast? with
       | none =>
         have e0:acc=[]:=List.getLast?_eq_none_iff.mp ea;subst e0;have ey:ys=[]:=List.eq_nil_of_length_eq_zero ty.1;subst ey;refine⟨_,rfl,qbt (qbt ?_)⟩;refine⟨_,rfl,_,rfl,_,_,rfl,rfl,_,rfl,zP (fun _=>?_) (fun g2=>absurd g g2)⟩;refine⟨_,rfl,.inl ⟨rfl,_,SqL.of hD2⟩,_,rfl,_,rfl,qk (Nat.le_of_ble_eq_true rfl),fun tt ft=>?_⟩;have St:=Same.new (.tup [.int wv.1,.int wv.2]) ft;refine⟨D,_,_,rfl,rfl,St _ _ hD2,qB (by omega),?_⟩;refine⟨_,_,[]++[.ref tt],rfl,(fun c o e n=>?_),qc,?_⟩
         · rw[qj n];exact St _ _ (B1 c o e n)
         · exact((TupL.nil (f:=pr)).snoc (p:=wv) qc).put (St _ _ hD2)
       | some l =>
         obtain⟨tl,hzl,htl⟩:=TupL.last ty2 ea
         have ie:(!acc.isEmpty)=true:=by
           cases acc with
           | nil=>cases ea
           | cons y ys=>rfl
         rw[ie];refine⟨_,rfl,qfy ?_⟩;refine⟨_,rfl,_,rfl,_,rfl,.inl ⟨D,_,_,_,rfl,rfl,SqL.of hD2,atI_last hzl,.inr (.inl ⟨tl,_,_,_,rfl,rfl,SqT.of htl,rfl,.inl ⟨_,_,rfl,rfl,_,_,rfl,rfl,_,rfl,zP (fun g=>?_) (fun g=>?_)⟩⟩)⟩⟩
         · have g':wv.1≤l.2+1:=g;refine⟨_,rfl,_,rfl,.inl ⟨D,_,_,_,rfl,rfl,SqL.of hD2,atI_last hzl,.inr (.inl ⟨tl,_,_,_,rfl,rfl,SqT.of htl,rfl,_,rfl,_,rfl,.inl ⟨D,_,_,_,rfl,rfl,SqL.of hD2,atI_last hzl,.inr (.inl ⟨tl,_,_,_,rfl,rfl,SqT.of htl,rfl,_,rfl,_,_,rfl,qk (Nat.le_of_ble_eq_true rfl),fun tt ft=>?_⟩)⟩⟩)⟩⟩;have St:=Same.new (.tup [.int l.1,.int (if wv.2 > l.2 then wv.2 else l.2)]) ft;refine⟨_,rfl,_,rfl,D,_,_,ys.length - 1,rfl,rfl,St _ _ hD2,qcy (by cases ys with|nil=>cases hzl|cons y ys=>simp),?_⟩;refine⟨_,_,ys.set (ys.length - 1) (.ref tt),rfl,(fun c o e n=>?_),qc,?_⟩
           · rw[qj n];exact St _ _ (B1 c o e n)
           · rw[qdv ea g',← ty2.1];exact(TupL.set (ty2.same St) (i:=ys.length - 1) (p:=(l.1,if wv.2 > l.2 then wv.2 else l.2)) qc).put (St _ _ hD2)
         · have g':¬ wv.1≤l.2+1:=g;refine⟨_,rfl,_,rfl,_,_,rfl,rfl,_,rfl,zP (fun _=>?_) (fun g2=>absurd g0 g2)⟩;refine⟨_,rfl,.inl ⟨rfl,_,SqL.of hD2⟩,_,rfl,_,rfl,qk (Nat.le_of_ble_eq_true rfl),fun tt ft=>?_⟩;have St:=Same.new (.tup [.int wv.1,.int wv.2]) ft;refine⟨D,_,_,rfl,rfl,St _ _ hD2,qB (by omega),?_⟩;refine⟨_,_,ys++[.ref tt],rfl,(fun c o e n=>?_),qc,?_⟩
           · rw[qj n];exact St _ _ (B1 c o e n)
           · rw[qeP ea g'];exact((ty2.same St).snoc (p:=wv) qc).put (St _ _ hD2)
     · have g0:¬ wv.1≤wv.2:=g;rw[qmb hw g0];refine⟨_,rfl,_,rfl,_,_,rfl,rfl,_,rfl,zP (fun g2=>absurd g2 g) (fun _=>?_)⟩;exact⟨_,_,ys,rfl,B,hD,ty⟩
   · rintro σ H3 ⟨s2,s3,ys,rfl,B,hD,ty⟩;rw[tz.1]at ty;unfold jf at ty;rw[List.take_length]at ty;have oks:∀ w∈ss.filter okw,w.1≤w.2:=fun w hw=>of_decide_eq_true (List.mem_filter.mp hw).2;obtain⟨f1,f2⟩:=qd0 (ss.filter okw) [] ⟨fun _ z=>(nomatch z),List.Pairwise.nil⟩ oks (ord.filter _) fun _ z=>nomatch z;have glen:=qi8 ss ss.length;unfold jf at glen;rw[List.take_length]at glen;refine⟨_,rfl,kk D _ H3 fD (fun c o e=>?_) ⟨ys,hD,ty⟩ f1 (by omega) fun n=>?_⟩
     · have n:c≠D:=qi e fD;exact B _ _ (SG _ _ e) n
     · rw[f2,qi5,qeH hss];exact⟨fun h=>h.elim (fun⟨_,z,_⟩=>nomatch z) id,.inr⟩
end
abbrev pr3:Int×Int×Int->List V:=fun p=>[.int p.1,.int p.2.1,.int p.2.2]
def ends (rows:List (Int×Int)):List Int:=(rows.drop 1).map (fun r=>r.1 - 1)++[1000000000]
def nxt:List (Int×Int)->Int
 | []=>1000000000
 | r::_=>r.1 - 1
def pcs:List (Int×Int)->List (Int×Int×Int)
 | []=>[]
 | r::rs=>(r.1,nxt rs,r.2)::pcs rs
theorem Q0:∀ rows:List (Int×Int),(pcs rows).length=rows.length
 | []=>rfl
 | r::rs=>by show (pcs rs).length+1=rs.length+1;rw[Q0 rs]
theorem qeW {rows:List (Int×Int)} (h:0 < rows.length):(ends rows).length=rows.length:=by
 unfold ends;rw[List.length_append,List.length_map,List.length_drop];show rows.length - 1+1=rows.length;omega
theorem qdy (r r':Int×Int) (rs:List (Int×Int)):ends (r::r'::rs)=(r'.1 - 1)::ends (r'::rs):=rfl
theorem qgn:∀ (rows:List (Int×Int)) (i:Nat) (r:Int×Int) (e:Int),rows[i]?=some r->(ends rows)[i]?=some e->(pcs rows)[i]?=some (r.1,e,r.2)
 | [],i,r,e,h,_=>by simp at h
 | [r0],i,r,e,h,h'=>by
   cases i with
   | zero=>cases h;cases h';rfl
   | succ i=>simp at h
 | r0::r1::rs,i,r,e,h,h'=>by
   cases i with
   | zero =>
     cases h;rw[qdy]at h';cases h';rfl
   | succ i =>
     rw[qdy]at h';exact qgn (r1::rs) i r e h h'
theorem qmI (zs:List V) (h:0 < zs.length):qfz zs (some 1) none=zs.drop 1:=by
 unfold qfz;rw[show HT.sIx zs.length 0 (some 1)=min 1 zs.length from HT.sIx_nat _ _ 1,HT.sIx_none,Nat.min_eq_left h];rw[List.take_of_length_le (by rw[List.length_drop];exact Nat.le_refl _)]
theorem ZP {rows:List (Int×Int)} (h:Good rows):0 < rows.length:=by
 obtain⟨n,hn⟩:=h.fst
 cases rows with
 | nil=>cases hn
 | cons r rs=>exact Nat.succ_pos _
inductive Ju (vs:List V) (H:Hp) (Q:VK):Prop
 | mk (q:Addr) (rows:List (Int×Int)) (h1:vs=[.ref q]) (h2:Rs H q rows) (h3:Good rows) (h4:∀ (d:Addr) (zs:List V) (H':Hp),H d=none->Same H H'->H' d=some (.lst zs)->TupL pr3 H' zs (pcs rows)->Q (.ref d) H'):Ju vs H Q
def j7:Sp:=fun vs H Q _=>Ju vs H Q
section
variable {P:Program}{w:World}{K:Frag}{mg:Str->Option Value}{base:Heap}
theorem qbR {a:Ad} (T:Txt K mg a):qD P w K mg base CX0 1 a.f_p a.fd_p ["_law_rows_here"] j7:=by
 refine T.d_p.F.ok sc_Lpieces (fun vs H Q E h=>?_) (fun cdv A outer s H vs Q E hr h=>?_)
 · obtain⟨k,rows,rfl,⟨zs,hk,tp⟩,good,kk⟩:=h;rfl
 · obtain⟨k,rows,rfl,⟨zs,hk,tp⟩,good,kk⟩:=h;have hU:=hr.units
   refine⟨_,(qe (qx (i:=1) sc_Lpieces.nd rfl (Or.inl rfl) (qA QT (zJ rfl (CompOk.def ["_law_row"] [none]) (qX (ZN uSl (pv 0) (jo qd) qaH)) (fun _ _ _ _ _=>(qr (i:=0) (show List.Nodup (["_law_row"]:List Str) by decide +kernel) rfl (Or.inl rfl))) (fun _ _ _ _ _=>Qb) (fun _ _ _ _ _=>(qA zK (qz (r:=rIx K) qp (pv 0) qd (fun _ _=>rfl)) qd))) (qJ (qa (qA zH qd qd) qb))))
     (qf (qt (zJ rfl (CompOk.def ["_law_row","_law_end"] [none,none]) (qgk rfl T.n_zip (qa (pv 0) (qa (pv 1) qb))) (fun _ _ _ _ _=>(show PG _ _ (qjd K 2 _) from (zR rfl (qu (qr (i:=0) (show List.Nodup (["_law_row","_law_end"]:List Str) by decide +kernel) rfl (Or.inl rfl)) (qu (qr (i:=1) (show List.Nodup (["_law_row","_law_end"]:List Str) by decide +kernel) rfl (Or.inl rfl)) zn))))) (fun _ _ _ _ _=>Qb) (fun _ _ _ _ _=>(qV (qa (qz (r:=rIx K) qp (pv 0) qd (fun _ _=>rfl)) (qa (pv 1) (qa (qz (r:=rIx K) qp (pv 0) qd (fun _ _=>rfl)) qb))))))))),?_⟩
   try dsimp only [zb,Cx.nox]
   have hl:zs.length=rows.length:=tp.1;have pos:=ZP good;have few:=good.few;refine⟨_,rfl,_,rfl,.inl ⟨k,_,rfl,SqL.of hk,fun sl fsl=>?_⟩⟩;rw[qmI zs (by omega)];have B1:=Same.new (.lst (zs.drop 1)) fsl;refine⟨sl,rfl,⟨_,SqL.of qc⟩,fun D fD=>?_⟩;have B2:=B1.then (.lst []) fD
   refine zM (K:=K) (a:=sl) (xs:=zs.drop 1) (D:=D) (fun i σ H2=>∃ c0:Option V,σ=[c0]∧Same (upd H sl (.lst (zs.drop 1))) H2∧H2 D=some (.lst (((rows.drop 1).take i).map fun r=>V.int (r.1 - 1)))) ⟨none,rfl,Same.new _ fD,qc⟩ (fun i σ H2 _ ⟨_,_,S,_⟩=>SqL.of (S _ _ qc)) ?_ ?_
   · rintro i z σ H2 hz ⟨c0,rfl,S,hD⟩;have hz':zs[i+1]?=some z:=by rw[List.getElem?_drop]at hz;rw[Nat.add_comm];exact hz
     have hi:i+1 < rows.length:=by rw[← hl];exact(List.getElem?_eq_some_iff.mp hz').1
     obtain⟨r,hr'⟩:∃ r,rows[i+1]?=some r:=⟨_,List.getElem?_eq_getElem hi⟩
     obtain⟨u,rfl,hu'⟩:=tp.2 (i+1) z r hz' hr';have hu2:=S _ _ (B1 _ _ hu');have hrd:(rows.drop 1)[i]?=some r:=by rw[List.getElem?_drop,Nat.add_comm];exact hr'
     have et:(rows.drop 1).take (i+1)=(rows.drop 1).take i++[r]:=by rw[List.take_add_one,hrd];rfl
     refine⟨_,rfl,.inr (.inl ⟨u,_,_,_,rfl,rfl,SqT.of hu2,rfl,_,_,rfl,rfl,_,hD,qB ?_,_,rfl,S.put fD _,?_⟩)⟩
     · rw[List.length_map,List.length_take,List.length_drop];omega
     · rw[qc,et,List.map_append];rfl
   rintro σ H2 ⟨c0,rfl,S,hD⟩;rw[List.length_drop,hl,show rows.length - 1=(rows.drop 1).length by rw[List.length_drop],List.take_length]at hD;refine⟨_,_,rfl,rfl,⟨by decide,by decide,by decide⟩,qk (Nat.le_of_ble_eq_true rfl),fun l1 fl1=>?_⟩;rw[show (10:Int) ^ (9:Int).toNat=1000000000 by decide]at *;have C1:=Same.new (.lst [.int 1000000000]) fl1;refine .inr (.inl ⟨D,l1,_,_,rfl,rfl,C1 _ _ hD,qc,qB (by rw[List.length_map,List.length_drop];omega),fun e fe=>?_⟩)
   have he:(upd (upd H2 l1 (.lst [.int 1000000000])) e (.lst (((rows.drop 1).map fun r=>V.int (r.1 - 1))++[.int 1000000000]))) e=some (.lst ((ends rows).map V.int)):=by
     rw[qc];unfold ends;rw[List.map_append,List.map_map];rfl
   have C2:=Same.new (.lst (((rows.drop 1).map fun r=>V.int (r.1 - 1))++[.int 1000000000])) fe;have SS:=((B1.trans S).trans C1).trans C2;(try dsimp only);generalize upd (upd H2 l1 (.lst [.int 1000000000])) e (.lst (((rows.drop 1).map fun r=>V.int (r.1 - 1))++[.int 1000000000]))=G at he SS ⊢;have hkG:=SS _ _ hk;have tpG:=tp.same SS;refine⟨_,rfl,_,rfl,false,k,e,rfl,⟨_,SqL.of hkG⟩,⟨_,SqL.of he⟩,fun D2 fD2=>?_⟩;have el:zs.length=((ends rows).map V.int).length:=by rw[List.length_map,qeW pos,hl]
   refine qe0 (K:=K) (t:=false) (a:=k) (b:=e) (xs:=zs) (ys:=(ends rows).map V.int) (D:=D2) (fun i σ H3=>∃ (c0 c1:Option V) (ws:List V),σ=[c0,c1]∧Same G H3∧H3 D2=some (.lst ws)∧TupL pr3 H3 ws ((pcs rows).take i)) el ⟨none,none,[],rfl,Same.new _ fD2,qc,.nil⟩ (fun i σ H3 _ ⟨_,_,_,_,S3,_⟩=>⟨SqL.of (S3 _ _ hkG),SqL.of (S3 _ _ he)⟩) ?_ ?_
   · rintro i z y σ H3 p hz hy ⟨c0,c1,ws,rfl,S3,hD2,tw⟩ fp;obtain⟨ey,hey,rfl⟩:=zY hy;obtain⟨r,u,hr',rfl,hu'⟩:=tpG.of hz;have hpc:=qgn rows i r ey hr' hey;have P1:=Same.new (.tup [.ref u,.int ey]) fp;have S4:=S3.trans P1;have hu2:=S4 _ _ hu';have et:(pcs rows).take (i+1)=(pcs rows).take i++[(r.1,ey,r.2)]:=by rw[List.take_add_one,hpc];rfl
     refine⟨p,_,rfl,SqT.of qc,rfl,_,_,rfl,_,_,rfl,rfl,?_⟩;refine⟨_,rfl,.inr (.inl ⟨u,_,_,_,rfl,rfl,SqT.of hu2,rfl,_,rfl,_,rfl,.inr (.inl ⟨u,_,_,_,rfl,rfl,SqT.of hu2,rfl,qk (Nat.le_of_ble_eq_true rfl),fun tt ft=>?_⟩)⟩)⟩;have P2:=Same.new (.tup [.int r.1,.int ey,.int r.2]) ft;have hD3:=P2 _ _ (P1 _ _ hD2);have lw:ws.length≤21:=by rw[tw.1,List.length_take,Q0];omega
     refine⟨_,hD3,qB (by omega),_,_,ws++[.ref tt],rfl,(S4.trans P2).put fD2 _,qc,?_⟩;rw[et];exact(((tw.same P1).same P2).snoc (p:=(r.1,ey,r.2)) qc).put hD3
   · rintro σ H3 ⟨c0,c1,ws,rfl,S3,hD2,tw⟩;rw[hl,show rows.length=(pcs rows).length by rw[Q0],List.take_length]at tw;exact kk D2 ws H3 (SS.none fD2) (SS.trans S3) hD2 tw
end
def mp (lo hi:Int) (p:Int×Int×Int):Int×Int:=(if lo - p.2.2 > p.1 then lo - p.2.2 else p.1,if hi - p.2.2 < p.2.1 then hi - p.2.2 else p.2.1)
def shw (rows:List (Int×Int)) (lo hi:Int):List (Int×Int):=(pcs rows).map (mp lo hi)
inductive qal (vs:List V) (H:Hp) (Q:VK):Prop
 | mk (q:Addr) (rows:List (Int×Int)) (lo hi:Int) (h1:vs=[.ref q,.int lo,.int hi]) (h2:Rs H q rows) (h3:Good rows) (h4:∀ (d:Addr) (r:List (Int×Int)) (H':Hp),H d=none->Same H H'->Rs H' d r->qR r->r.length≤21->(∀ n,Mem r n↔Mem (shw rows lo hi) n)->Q (.ref d) H'):qal vs H Q
def qcL:Sp:=fun vs H Q _=>qal vs H Q
section
variable {P:Program}{w:World}{K:Frag}{mg:Str->Option Value}{base:Heap}
theorem qgs {a:Ad} (T:Txt K mg a):qD P w K mg base CX0 2 a.f_X a.fd_X ["_law_rows_here","_law_low","_law_high"] qcL:=by
 have G_h:=Je (P:=P) (w:=w) (base:=base) T;have G_p:=qbR (P:=P) (w:=w) (base:=base) T;refine T.d_X.F.ok qf0 (fun vs H Q E h=>?_) (fun cdv A outer s H vs Q E hr h=>?_)
 · obtain⟨q,rows,lo,hi,rfl,hrs,good,kk⟩:=h;rfl
 · obtain⟨q,rows,lo,hi,rfl,hrs,good,kk⟩:=h;have h_h:Room (1) _:=hr.mono (by decide);have h_p:Room (1) _:=hr.mono (by decide);refine⟨_,(qf (qt (qh G_h h_h rfl T.d_h.m T.d_h.k T.d_h.b .nil qq (qa (zJ rfl (CompOk.def ["_law_a","_law_b","_law_shift_here","_law_low","_law_high"] [none,none,none,some 1,some 2]) (qX (qh G_p h_p rfl T.d_p.m T.d_p.k T.d_p.b .nil qq (qa (pv 0) qb))) (fun _ _ _ _ _=>(show PG _ _ (qjd K 3 _) from (zR rfl (qu (qr (i:=0) (show List.Nodup (["_law_a","_law_b","_law_shift_here","_law_low","_law_high"]:List Str) by decide +kernel) rfl (Or.inl rfl)) (qu (qr (i:=1) (show List.Nodup (["_law_a","_law_b","_law_shift_here","_law_low","_law_high"]:List Str) by decide +kernel) rfl (Or.inl rfl)) (qu (qr (i:=2) (show List.Nodup (["_law_a","_law_b","_law_shift_here","_law_low","_law_high"]:List Str) by decide +kernel) rfl (Or.inl rfl)) zn)))))) (fun _ _ _ _ _=>Qb) (fun _ _ _ _ _=>(qV (qa (qm (zh rfl) (by rfl) T.n_max zi (qa (pv 0) (qa (qA zK (pv 3) (pv 2)) qb))) (qa (qm (zC rfl) (by rfl) T.n_min zD (qa (pv 1) (qa (qA zK (pv 4) (pv 2)) qb))) qb))))) qb)))),?_⟩;(try dsimp only [zb,Cx.nox]);have lp:=Q0 rows;have few:=good.few;refine⟨_,rfl,q,rows,rfl,hrs,good,fun d zs H1 fd S1 hd tz=>⟨d,rfl,⟨_,SqL.of hd⟩,fun C fC=>?_⟩⟩;refine zM (K:=K) (a:=d) (xs:=zs) (D:=C) (fun i σ H2=>∃ (c0 c1 c2:Option V) (cs:List V),σ=[c0,c1,c2,some (.int lo),some (.int hi)]∧Same H1 H2∧H2 C=some (.lst cs)∧TupL pr H2 cs (((pcs rows).take i).map (mp lo hi))) ⟨none,none,none,[],rfl,Same.new _ fC,qc,.nil⟩ (fun i σ H2 _ ⟨_,_,_,_,_,S,_⟩=>SqL.of (S _ _ hd)) ?_ ?_
   · rintro i z σ H2 hz ⟨c0,c1,c2,cs,rfl,S,hC,tc⟩;obtain⟨r,u,hr',rfl,hu'⟩:=tz.of hz;have hu2:=S _ _ hu';have et:(pcs rows).take (i+1)=(pcs rows).take i++[r]:=by rw[List.take_add_one,hr'];rfl
     have lc:cs.length≤21:=by rw[tc.1,List.length_map,List.length_take];omega
     refine⟨u,_,rfl,SqT.of hu2,rfl,_,_,rfl,_,_,rfl,_,_,rfl,rfl,?_⟩;refine⟨_,rfl,_,rfl,_,rfl,_,_,rfl,rfl,_,_,rfl,_,rfl,_,rfl,_,rfl,_,_,rfl,rfl,_,_,rfl,qk (Nat.le_of_ble_eq_true rfl),fun tt ft=>?_⟩;have St:=Same.new (.tup (pr (mp lo hi r))) ft;have hC2:=St _ _ hC;refine⟨_,hC2,qB (by omega),_,_,_,cs++[.ref tt],rfl,(S.trans St).put fC _,qc,?_⟩;rw[et,List.map_append];exact((tc.same St).snoc (p:=mp lo hi r) qc).put hC2
   rintro σ H2 ⟨c0,c1,c2,cs,rfl,S,hC,tc⟩;rw[tz.1,List.take_length]at tc;refine⟨C,(pcs rows).map (mp lo hi),rfl,⟨cs,hC,tc⟩,.inl (by rw[List.length_map];omega),fun e r H3 fe S3 R can lr mem=>?_⟩;rw[List.length_map]at lr;exact kk e r H3 ((S1.trans S).none fe) ((S1.trans S).trans S3) R can (by omega) mem
end
def qkn (k:Addr):List (Str×V):=qc7 "kept" (.ref k) []
theorem qdw (k:Addr):(qkn k).lookup ("kept":Str)=some (.ref k):=by
 unfold qkn;rw[Q3,if_pos rfl]
theorem qg4 (k:Addr) {m:Str} (h1:¬ m="kept"):(qkn k).lookup m=none:=by
 unfold qkn;rw[Q3,if_neg h1];rfl
inductive qmK (a:Ad) (H:Hp) (x:Addr) (rows:List (Int×Int)):Prop
 | mk (k dx:Addr) (zs:List V) (h1:H x=some (.ins a.c_Table dx (qkn k))) (h2:H k=some (.lst zs)) (h3:TupL pr H zs rows):qmK a H x rows
def Tb (a:Ad) (H:Hp) (x:Addr) (rows:List (Int×Int)):Prop:=qmK a H x rows
inductive QI (a:Ad) (vs:List V) (H:Hp) (Q:VK):Prop
 | mk (x:Addr) (rows:List (Int×Int)) (h1:vs=[.ref x]) (h2:Tb a H x rows) (h3:Good rows) (h4:∀ (d:Addr) (zs:List V) (H':Hp),H d=none->Same H H'->H' d=some (.lst zs)->TupL pr3 H' zs (pcs rows)->Q (.ref d) H'):QI a vs H Q
def Zt (a:Ad):Sp:=fun vs H Q _=>QI a vs H Q
inductive zG (a:Ad) (vs:List V) (H:Hp) (Q:VK):Prop
 | mk (x:Addr) (rows:List (Int×Int)) (lo hi:Int) (h1:vs=[.ref x,.int lo,.int hi]) (h2:Tb a H x rows) (h3:Good rows) (h4:(-10000000000≤lo∧lo≤10000000000)) (h5:(-10000000000≤hi∧hi≤10000000000)) (h6:∀ (d:Addr) (r:List (Int×Int)) (H':Hp),H d=none->Same H H'->Rs H' d r->qR r->r.length≤21->(∀ n,Mem r n↔Mem (shw rows lo hi) n)->Q (.ref d) H'):zG a vs H Q
def zO (a:Ad):Sp:=fun vs H Q _=>zG a vs H Q
section
variable {P:Program}{w:World}{K:Frag}{mg:Str->Option Value}{base:Heap}
theorem qaK {a:Ad} (T:Txt K mg a):qD P w K mg base CX0 1 a.f_al a.fd_al ["self"] (Zt a):=by
 refine T.d_al.F.ok sc_Table_pieces (fun vs H Q E h=>?_) (fun cdv A outer s H vs Q E hr h=>?_)
 · obtain⟨x,rows,rfl,⟨k,dx,zs,hx,hk,tp⟩,good,kk⟩:=h;rfl
 · obtain⟨x,rows,rfl,⟨k,dx,zs,hx,hk,tp⟩,good,kk⟩:=h;obtain⟨t_LAST,c_LAST⟩:=T.g_LAST
   refine⟨_,(qe (qx (i:=1) sc_Table_pieces.nd rfl (Or.inl rfl) (qA QT (zJ rfl (CompOk.def ["moment","shift"] [none,none]) (qX (ZN uSl (zl (pv 0) rfl) (jo qd) qaH)) (fun _ _ _ _ _=>(show PG _ _ (qjd K 2 _) from (zR rfl (qu (qr (i:=0) (show List.Nodup (["moment","shift"]:List Str) by decide +kernel) rfl (Or.inl rfl)) (qu (qr (i:=1) (show List.Nodup (["moment","shift"]:List Str) by decide +kernel) rfl (Or.inl rfl)) zn))))) (fun _ _ _ _ _=>Qb) (fun _ _ _ _ _=>(qA zK (pv 0) qd))) (qJ (qa (zI (v:=.int 1000000000) rfl c_LAST ⟨_,rfl⟩) qb))))
     (qf (qt (zJ rfl (CompOk.def ["row","end"] [none,none]) (qgk rfl T.n_zip (qa (zl (pv 0) rfl) (qa (pv 1) qb))) (fun _ _ _ _ _=>(show PG _ _ (qjd K 2 _) from (zR rfl (qu (qr (i:=0) (show List.Nodup (["row","end"]:List Str) by decide +kernel) rfl (Or.inl rfl)) (qu (qr (i:=1) (show List.Nodup (["row","end"]:List Str) by decide +kernel) rfl (Or.inl rfl)) zn))))) (fun _ _ _ _ _=>Qb) (fun _ _ _ _ _=>(qV (qa (qz (r:=rIx K) qp (pv 0) qd (fun _ _=>rfl)) (qa (pv 1) (qa (qz (r:=rIx K) qp (pv 0) qd (fun _ _=>rfl)) qb))))))))),?_⟩
   try dsimp only [zb,Cx.nox]
   have hl:zs.length=rows.length:=tp.1;have pos:=ZP good;have few:=good.few;refine⟨_,rfl,x,_,dx,_,_,rfl,hx,T.cl_Table,T.n_Table_kept,qdw _,_,rfl,.inl ⟨k,_,rfl,SqL.of hk,fun sl fsl=>?_⟩⟩;rw[qmI zs (by omega)];have B1:=Same.new (.lst (zs.drop 1)) fsl;refine⟨sl,rfl,⟨_,SqL.of qc⟩,fun D fD=>?_⟩;have B2:=B1.then (.lst []) fD
   refine zM (K:=K) (a:=sl) (xs:=zs.drop 1) (D:=D) (fun i σ H2=>∃ c0 c1:Option V,σ=[c0,c1]∧Same (upd H sl (.lst (zs.drop 1))) H2∧H2 D=some (.lst (((rows.drop 1).take i).map fun r=>V.int (r.1 - 1)))) ⟨none,none,rfl,Same.new _ fD,qc⟩ (fun i σ H2 _ ⟨_,_,_,S,_⟩=>SqL.of (S _ _ qc)) ?_ ?_
   · rintro i z σ H2 hz ⟨c0,c1,rfl,S,hD⟩;have hz':zs[i+1]?=some z:=by rw[List.getElem?_drop]at hz;rw[Nat.add_comm];exact hz
     have hi:i+1 < rows.length:=by rw[← hl];exact(List.getElem?_eq_some_iff.mp hz').1
     obtain⟨r,hr'⟩:∃ r,rows[i+1]?=some r:=⟨_,List.getElem?_eq_getElem hi⟩
     obtain⟨u,rfl,hu'⟩:=tp.2 (i+1) z r hz' hr';have hu2:=S _ _ (B1 _ _ hu');have hrd:(rows.drop 1)[i]?=some r:=by rw[List.getElem?_drop,Nat.add_comm];exact hr'
     have et:(rows.drop 1).take (i+1)=(rows.drop 1).take i++[r]:=by rw[List.take_add_one,hrd];rfl
     refine⟨u,_,rfl,SqT.of hu2,rfl,_,_,rfl,_,_,rfl,rfl,?_⟩;refine⟨_,rfl,_,_,rfl,rfl,_,hD,qB ?_,_,_,rfl,S.put fD _,?_⟩
     · rw[List.length_map,List.length_take,List.length_drop];omega
     · rw[qc,et,List.map_append];rfl
   rintro σ H2 ⟨c0,c1,rfl,S,hD⟩;rw[List.length_drop,hl,show rows.length - 1=(rows.drop 1).length by rw[List.length_drop],List.take_length]at hD;refine⟨qk (Nat.le_of_ble_eq_true rfl),fun l1 fl1=>?_⟩;have C1:=Same.new (.lst [.int 1000000000]) fl1;refine .inr (.inl ⟨D,l1,_,_,rfl,rfl,C1 _ _ hD,qc,qB (by rw[List.length_map,List.length_drop];omega),fun e fe=>?_⟩)
   have he:(upd (upd H2 l1 (.lst [.int 1000000000])) e (.lst (((rows.drop 1).map fun r=>V.int (r.1 - 1))++[.int 1000000000]))) e=some (.lst ((ends rows).map V.int)):=by
     rw[qc];unfold ends;rw[List.map_append,List.map_map];rfl
   have C2:=Same.new (.lst (((rows.drop 1).map fun r=>V.int (r.1 - 1))++[.int 1000000000])) fe;have SS:=((B1.trans S).trans C1).trans C2;(try dsimp only);generalize upd (upd H2 l1 (.lst [.int 1000000000])) e (.lst (((rows.drop 1).map fun r=>V.int (r.1 - 1))++[.int 1000000000]))=G at he SS ⊢;have hkG:=SS _ _ hk;have tpG:=tp.same SS;refine⟨_,rfl,x,_,dx,_,_,rfl,(SS _ _ hx),T.cl_Table,T.n_Table_kept,qdw _,_,rfl,false,k,e,rfl,⟨_,SqL.of hkG⟩,⟨_,SqL.of he⟩,fun D2 fD2=>?_⟩;have el:zs.length=((ends rows).map V.int).length:=by rw[List.length_map,qeW pos,hl]
   refine qe0 (K:=K) (t:=false) (a:=k) (b:=e) (xs:=zs) (ys:=(ends rows).map V.int) (D:=D2) (fun i σ H3=>∃ (c0 c1:Option V) (ws:List V),σ=[c0,c1]∧Same G H3∧H3 D2=some (.lst ws)∧TupL pr3 H3 ws ((pcs rows).take i)) el ⟨none,none,[],rfl,Same.new _ fD2,qc,.nil⟩ (fun i σ H3 _ ⟨_,_,_,_,S3,_⟩=>⟨SqL.of (S3 _ _ hkG),SqL.of (S3 _ _ he)⟩) ?_ ?_
   · rintro i z y σ H3 p hz hy ⟨c0,c1,ws,rfl,S3,hD2,tw⟩ fp;obtain⟨ey,hey,rfl⟩:=zY hy;obtain⟨r,u,hr',rfl,hu'⟩:=tpG.of hz;have hpc:=qgn rows i r ey hr' hey;have P1:=Same.new (.tup [.ref u,.int ey]) fp;have S4:=S3.trans P1;have hu2:=S4 _ _ hu';have et:(pcs rows).take (i+1)=(pcs rows).take i++[(r.1,ey,r.2)]:=by rw[List.take_add_one,hpc];rfl
     refine⟨p,_,rfl,SqT.of qc,rfl,_,_,rfl,_,_,rfl,rfl,?_⟩;refine⟨_,rfl,.inr (.inl ⟨u,_,_,_,rfl,rfl,SqT.of hu2,rfl,_,rfl,_,rfl,.inr (.inl ⟨u,_,_,_,rfl,rfl,SqT.of hu2,rfl,qk (Nat.le_of_ble_eq_true rfl),fun tt ft=>?_⟩)⟩)⟩;have P2:=Same.new (.tup [.int r.1,.int ey,.int r.2]) ft;have hD3:=P2 _ _ (P1 _ _ hD2);have lw:ws.length≤21:=by rw[tw.1,List.length_take,Q0];omega
     refine⟨_,hD3,qB (by omega),_,_,ws++[.ref tt],rfl,(S4.trans P2).put fD2 _,qc,?_⟩;rw[et];exact(((tw.same P1).same P2).snoc (p:=(r.1,ey,r.2)) qc).put hD3
   · rintro σ H3 ⟨c0,c1,ws,rfl,S3,hD2,tw⟩;rw[hl,show rows.length=(pcs rows).length by rw[Q0],List.take_length]at tw;exact kk D2 ws H3 (SS.none fD2) (SS.trans S3) hD2 tw
theorem QR {a:Ad} (T:Txt K mg a):qD P w K mg base CX0 5 a.f_am a.fd_am ["self","low","high"] (zO a):=by
 have G_g:=jp (P:=P) (w:=w) (base:=base) T;have G_k:=jR (P:=P) (w:=w) (base:=base) T;have G_al:=qaK (P:=P) (w:=w) (base:=base) T;refine T.d_am.F.ok QP (fun vs H Q E h=>?_) (fun cdv A outer s H vs Q E hr h=>?_)
 · obtain⟨x,rows,lo,hi,rfl,tb,good,hlo,hhi,kk⟩:=h;rfl
 · obtain⟨x,rows,lo,hi,rfl,tb,good,hlo,hhi,kk⟩:=h;have h_g:Room (4) _:=hr.mono (by decide);have h_k:Room (3) _:=hr.mono (by decide);have h_al:Room (1) _:=hr.mono (by decide)
   refine⟨_,(qe (qO (zu (za (qh G_k h_k rfl T.d_k.m T.d_k.k T.d_k.b .nil qq (qa (pv 1) qb))))
       (qf zm)
       qy)
     (qe (qO (zu (za (qh G_k h_k rfl T.d_k.m T.d_k.k T.d_k.b .nil qq (qa (pv 2) qb))))
       (qf zm)
       qy)
     (qf (qt (qh G_g h_g rfl T.d_g.m T.d_g.k T.d_g.b .nil qq (qa (zJ rfl (CompOk.def ["start","end","shift","low","high"] [none,none,none,some 1,some 2]) (qX (qG (pv 0) T.cl_Table T.d_al.mt G_al h_al T.d_al.b .nil qq)) (fun _ _ _ _ _=>(show PG _ _ (qjd K 3 _) from (zR rfl (qu (qr (i:=0) (show List.Nodup (["start","end","shift","low","high"]:List Str) by decide +kernel) rfl (Or.inl rfl)) (qu (qr (i:=1) (show List.Nodup (["start","end","shift","low","high"]:List Str) by decide +kernel) rfl (Or.inl rfl)) (qu (qr (i:=2) (show List.Nodup (["start","end","shift","low","high"]:List Str) by decide +kernel) rfl (Or.inl rfl)) zn)))))) (fun _ _ _ _ _=>Qb) (fun _ _ _ _ _=>(qV (qa (qm (zh rfl) (by rfl) T.n_max zi (qa (pv 0) (qa (qA zK (pv 3) (pv 2)) qb))) (qa (qm (zC rfl) (by rfl) T.n_min zD (qa (pv 1) (qa (qA zK (pv 4) (pv 2)) qb))) qb))))) qb)))))),?_⟩
   try dsimp only [zb,Cx.nox]
   have lp:=Q0 rows;have few:=good.few;obtain⟨k0,dx,zs0,hx,hk0,tp0⟩:=id tb;refine⟨_,rfl,lo,rfl,hlo.1,hlo.2,true,rfl,qS rfl ?_⟩;refine⟨_,rfl,hi,rfl,hhi.1,hhi.2,true,rfl,qS rfl ?_⟩;refine⟨_,rfl,x,dx,_,rfl,hx,qg4 _ (by decide),x,rows,rfl,tb,good,fun d zs H1 fd S1 hd tz=>⟨d,rfl,⟨_,SqL.of hd⟩,fun C fC=>?_⟩⟩;refine zM (K:=K) (a:=d) (xs:=zs) (D:=C) (fun i σ H2=>∃ (c0 c1 c2:Option V) (cs:List V),σ=[c0,c1,c2,some (.int lo),some (.int hi)]∧Same H1 H2∧H2 C=some (.lst cs)∧TupL pr H2 cs (((pcs rows).take i).map (mp lo hi))) ⟨none,none,none,[],rfl,Same.new _ fC,qc,.nil⟩ (fun i σ H2 _ ⟨_,_,_,_,_,S,_⟩=>SqL.of (S _ _ hd)) ?_ ?_
   · rintro i z σ H2 hz ⟨c0,c1,c2,cs,rfl,S,hC,tc⟩;obtain⟨r,u,hr',rfl,hu'⟩:=tz.of hz;have hu2:=S _ _ hu';have et:(pcs rows).take (i+1)=(pcs rows).take i++[r]:=by rw[List.take_add_one,hr'];rfl
     have lc:cs.length≤21:=by rw[tc.1,List.length_map,List.length_take];omega
     refine⟨u,_,rfl,SqT.of hu2,rfl,_,_,rfl,_,_,rfl,_,_,rfl,rfl,?_⟩;refine⟨_,rfl,_,rfl,_,rfl,_,_,rfl,rfl,_,_,rfl,_,rfl,_,rfl,_,rfl,_,_,rfl,rfl,_,_,rfl,qk (Nat.le_of_ble_eq_true rfl),fun tt ft=>?_⟩;have St:=Same.new (.tup (pr (mp lo hi r))) ft;have hC2:=St _ _ hC;refine⟨_,hC2,qB (by omega),_,_,_,cs++[.ref tt],rfl,(S.trans St).put fC _,qc,?_⟩;rw[et,List.map_append];exact((tc.same St).snoc (p:=mp lo hi r) qc).put hC2
   rintro σ H2 ⟨c0,c1,c2,cs,rfl,S,hC,tc⟩;rw[tz.1,List.take_length]at tc;refine⟨C,(pcs rows).map (mp lo hi),rfl,⟨cs,hC,tc⟩,.inl (by rw[List.length_map];omega),fun e r H3 fe S3 R can lr mem=>?_⟩;rw[List.length_map]at lr;exact kk e r H3 ((S1.trans S).none fe) ((S1.trans S).trans S3) R can (by omega) mem
end
abbrev fsW (nm:Str) (lo hi:Int):List (Str×V):=[("name",.str nm),("low",.int lo),("high",.int hi)]
abbrev fsB (nm pl:Str) (lo hi:Int):List (Str×V):=[("name",.str nm),("place",.str pl),("low",.int lo),("high",.int hi)]
inductive Ze (vs:List V) (H:Hp) (Q:VK):Prop
 | mk (v u:V) (h1:vs=[v,u]) (h2:∀ (d:Addr) (H':Hp),H d=none->Same H H'->Rs H' d [(0,1000000000)]->Q (.ref d) H'):Ze vs H Q
def QB:Sp:=fun vs H Q _=>Ze vs H Q
inductive QH (K:Frag) (vs:List V) (H:Hp) (Q:VK):Prop
 | mk (x C dx:Addr) (nm:Str) (lo hi:Int) (u:V) (h1:vs=[.ref x,u]) (h2:H x=some (.ins C dx (fsW nm lo hi))) (h3:Cls K C) (h4:NoAttr K C "low") (h5:NoAttr K C "high") (h6:∀ (d:Addr) (r:List (Int×Int)) (H':Hp),H d=none->Same H H'->Rs H' d r->qR r->r.length≤1->(∀ n,Mem r n↔Mem [(lo,hi)] n)->Q (.ref d) H'):QH K vs H Q
def qU (K:Frag):Sp:=fun vs H Q _=>QH K vs H Q
inductive Qi (K:Frag) (vs:List V) (H:Hp) (Q:VK):Prop
 | mk (x C dx:Addr) (nm pl:Str) (lo hi:Int) (h1:vs=[.ref x]) (h2:H x=some (.ins C dx (fsB nm pl lo hi))) (h3:Cls K C) (h4:NoAttr K C "place") (h5:∀ l,H l=none->Q (.ref l) (upd H l (.lst [.str pl]))):Qi K vs H Q
def qT (K:Frag):Sp:=fun vs H Q _=>Qi K vs H Q
theorem qdc {H:Hp}{t d:Addr}{w:Int×Int} (h1:H t=some (.tup (pr w))) (h2:H d=some (.lst [.ref t])):Rs H d [w]:=by
 refine⟨_,h2,rfl,fun j z y e1 e2=>?_⟩
 cases j with
 | zero=>cases e1;cases e2;exact⟨t,rfl,h1⟩
 | succ j=>cases e1
section
variable {P:Program}{w:World}{K:Frag}{mg:Str->Option Value}{base:Heap}
theorem qbo {a:Ad} (T:Txt K mg a):qD P w K mg base CX0 1 a.f_ab a.fd_ab ["self","tables"] QB:=by
 refine T.d_ab.F.ok qbf (fun vs H Q E h=>?_) (fun cdv A outer s H vs Q E hr h=>?_)
 · obtain⟨v,u,rfl,kk⟩:=h;rfl
 · obtain⟨v,u,rfl,kk⟩:=h;obtain⟨t_LAST,c_LAST⟩:=T.g_LAST;refine⟨_,(qf (qt (qJ (qa (qV (qa qd (qa (zI (v:=.int 1000000000) rfl c_LAST ⟨_,rfl⟩) qb))) qb)))),?_⟩;(try dsimp only [zb,Cx.nox]);refine⟨qk (Nat.le_of_ble_eq_true rfl),fun t ft=>⟨qk (Nat.le_of_ble_eq_true rfl),fun d fd=>?_⟩⟩;have S1:=Same.new (.tup [.int 0,.int 1000000000]) ft;have S2:=Same.new (.lst [.ref t]) fd;exact kk d _ (S1.none fd) (S1.trans S2) (qdc (w:=(0,1000000000)) (S2 _ _ qc) qc)
theorem Qk {a:Ad} (T:Txt K mg a):qD P w K mg base CX0 5 a.f_d a.fd_d ["self","tables"] (qU K):=by
 have G_g:=jp (P:=P) (w:=w) (base:=base) T;refine T.d_d.F.ok qau (fun vs H Q E h=>?_) (fun cdv A outer s H vs Q E hr h=>?_)
 · obtain⟨x,C,dx,nm,lo,hi,u,rfl,hx,cl,n1,n2,kk⟩:=h;rfl
 · obtain⟨x,C,dx,nm,lo,hi,u,rfl,hx,cl,n1,n2,kk⟩:=h;have h_g:Room (4) _:=hr.mono (by decide);refine⟨_,(qf (qt (qh G_g h_g rfl T.d_g.m T.d_g.k T.d_g.b .nil qq (qa (qJ (qa (qV (qa (zl (pv 0) rfl) (qa (zl (pv 0) rfl) qb))) qb)) qb)))),?_⟩;(try dsimp only [zb,Cx.nox]);refine⟨_,rfl,x,_,dx,_,_,rfl,hx,cl,n1,rfl,_,rfl,x,_,dx,_,_,rfl,hx,cl,n2,rfl,qk (Nat.le_of_ble_eq_true rfl),fun t ft=>⟨qk (Nat.le_of_ble_eq_true rfl),fun d fd=>?_⟩⟩;have S1:=Same.new (.tup [.int lo,.int hi]) ft;have S2:=Same.new (.lst [.ref t]) fd;refine⟨d,[(lo,hi)],rfl,qdc (w:=(lo,hi)) (S2 _ _ qc) qc,.one _,fun e r H3 fe S3 R can lr mem=>?_⟩;exact kk e r H3 ((S1.trans S2).none fe) ((S1.trans S2).trans S3) R can lr mem
theorem zW {a:Ad} (T:Txt K mg a):qD P w K mg base CX0 1 a.f_e a.fd_e ["self"] (qT K):=by
 refine T.d_e.F.ok j9 (fun vs H Q E h=>?_) (fun cdv A outer s H vs Q E hr h=>?_)
 · obtain⟨x,C,dx,nm,pl,lo,hi,rfl,hx,cl,n1,kk⟩:=h;rfl
 · obtain⟨x,C,dx,nm,pl,lo,hi,rfl,hx,cl,n1,kk⟩:=h;refine⟨_,(qf (qt (qJ (qa (zl (pv 0) rfl) qb)))),?_⟩;(try dsimp only [zb,Cx.nox]);exact⟨_,rfl,x,_,dx,_,_,rfl,hx,cl,n1,rfl,qk (Nat.le_of_ble_eq_true rfl),fun l fl=>kk l fl⟩
end
theorem Good.ne {rows:List (Int×Int)} (h:Good rows):0 < rows.length:=ZP h
inductive qai (vs:List V) (H:Hp) (Q:VK):Prop
 | mk (t:Addr) (r:Int×Int) (w:Int) (h1:vs=[.ref t,.int w]) (h2:H t=some (.tup (pr r))) (h3:0≤r.1) (h4:r.1≤1000000000) (h5:-w≤r.2) (h6:r.2≤w) (h7:Q (.bl true) H):qai vs H Q
def qcI:Sp:=fun vs H Q _=>qai vs H Q
inductive ZR (vs:List V) (H:Hp) (Q:VK):Prop
 | mk (q:Addr) (i:Nat) (rows:List (Int×Int)) (h1:vs=[.ref q,.int i]) (h2:Rs H q rows) (h3:Good rows) (h4:i < rows.length) (h5:Q (.bl true) H):ZR vs H Q
def Jo:Sp:=fun vs H Q _=>ZR vs H Q
inductive Zp (vs:List V) (H:Hp) (Q:VK):Prop
 | mk (q:Addr) (rows:List (Int×Int)) (h1:vs=[.ref q,.int 21,.int 2880]) (h2:Rs H q rows) (h3:Good rows) (h4:∀ H',Same H H'->Q .non H'):Zp vs H Q
def jy:Sp:=fun vs H Q _=>Zp vs H Q
inductive Zu (a:Ad) (vs:List V) (H:Hp) (Q:VK):Prop
 | mk (x dx q:Addr) (rows:List (Int×Int)) (h1:vs=[.ref x,.ref q]) (h2:H x=some (.ins a.c_Table dx [])) (h3:Rs H q rows) (h4:Good rows) (h5:∀ H',But x H H'->Tb a H' x rows->Q .non H'):Zu a vs H Q
def jA (a:Ad):Sp:=fun vs H Q _=>Zu a vs H Q
section
variable {P:Program}{w:World}{K:Frag}{mg:Str->Option Value}{base:Heap}
theorem qgq {a:Ad} (T:Txt K mg a):qD P w K mg base CX0 4 a.f_Q a.fd_Q ["thing","widest"] qcI:=by
 have G_n:=JP (P:=P) (w:=w) (base:=base) T;have G_f:=jq (P:=P) (w:=w) (base:=base) T;refine T.d_Q.F.ok qfZ (fun vs H Q E h=>?_) (fun cdv A outer s H vs Q E hr h=>?_)
 · obtain⟨t,r,w,rfl,ht,h1,h2,h3,h4,kk⟩:=h;rfl
 · obtain⟨t,r,w,rfl,ht,h1,h2,h3,h4,kk⟩:=h;have hU:=hr.units;have h_n:Room (3) _:=hr.mono (by decide);have h_f:Room (2) _:=hr.mono (by decide)
   refine⟨_,(qe (qO (PW.pt (jn (zu (za (qm zN (by rfl) T.n_isinstance qv (qa (pv 0) (qa (Qc (v:=.ty "tuple") rfl T.n_tuple jr rfl) qb))))) (Zg (qw (uNe hU) (qm qW (by rfl) T.n_len qM (qa (pv 0) qb)) qd (qC _)))))
       (qf (qt Jd))
       qy)
     (qf (qt (jg (qh G_n h_n rfl T.d_n.m T.d_n.k T.d_n.b .nil qq (qa (qz (r:=rIx K) qp (pv 0) qd (fun _ _=>rfl)) qb)) (je (qh G_f h_f rfl T.d_f.m T.d_f.k T.d_f.b .nil qq (qa (qz (r:=rIx K) qp (pv 0) qd (fun _ _=>rfl)) (qa (Zj zU (pv 1)) (qa (pv 1) qb))))))))),?_⟩
   try dsimp only [zb,Cx.nox]
   have ty:tyN H (.ref t)=some "tuple":=by simp only[tyN];rw[ht]
   refine⟨_,rfl,_,_,_,rfl,(by decide),ty,true,rfl,qS rfl ?_⟩;refine⟨_,rfl,_,_,rfl,.inr ⟨_,SqT.of ht,rfl⟩,.inl ⟨rfl,_,rfl,qli (fun g=>absurd rfl g) (fun _=>?_)⟩⟩;refine⟨_,rfl,.inr (.inl ⟨t,_,_,_,rfl,rfl,SqT.of ht,rfl,r.1,rfl,h1,h2,true,rfl,qfy ?_⟩)⟩;exact⟨_,rfl,.inr (.inl ⟨t,_,_,_,rfl,rfl,SqT.of ht,rfl,_,rfl,_,rfl,_,rfl,r.2,-w,w,rfl,h3,h4,kk⟩)⟩
theorem qdd {a:Ad} (T:Txt K mg a):qD P w K mg base CX0 1 a.f_R a.fd_R ["rows","place"] Jo:=by
 refine T.d_R.F.ok qcT (fun vs H Q E h=>?_) (fun cdv A outer s H vs Q E hr h=>?_)
 · obtain⟨q,i,rows,rfl,⟨zs,hq,tp⟩,good,hi,kk⟩:=h;rfl
 · obtain⟨q,i,rows,rfl,⟨zs,hq,tp⟩,good,hi,kk⟩:=h;have hU:=hr.units
   refine⟨_,(qe (qO (qw (uEq hU) (pv 1) qd (qC _))
       (qf (qt (zA (uEq hU) (qz (r:=rIx K) qp (qz (r:=rIx K) qp (pv 0) qd (fun _ _=>rfl)) qd (fun _ _=>rfl)) qd (qC _))))
       qy)
     (qf (qt (zA qdb (qz (r:=rIx K) qp (qz (r:=rIx K) qp (pv 0) (pv 1) (fun _ _=>rfl)) qd (fun _ _=>rfl)) (qz (r:=rIx K) qp (qz (r:=rIx K) qp (pv 0) (qA zK (pv 1) qd) (fun _ _=>rfl)) qd (fun _ _=>rfl)) (qC _))))),?_⟩
   try dsimp only [zb,Cx.nox]
   refine⟨_,rfl,.inl ⟨rfl,_,rfl,?_⟩⟩;obtain⟨r,hr'⟩:∃ r,rows[i]?=some r:=⟨_,List.getElem?_eq_getElem hi⟩
   obtain⟨t,hz,ht⟩:=tp.at_ hr';refine zP (fun g=>?_) (fun g=>?_)
   · have g0:i=0:=by injection g with g;omega
     subst g0;obtain⟨n,hn⟩:=good.fst
     have e:r=(0,n):=by
       rw[List.head?_eq_getElem?,hr']at hn;exact Option.some.inj hn
     subst e;refine⟨_,rfl,.inl ⟨q,_,_,_,rfl,rfl,SqL.of hq,zo hz,.inr (.inl ⟨t,_,_,_,rfl,rfl,SqT.of ht,rfl,.inl ⟨rfl,?_⟩⟩)⟩⟩;exact kk
   · have g1:0 < i:=by
       refine Nat.pos_of_ne_zero fun z=>g ?_;rw[z];rfl
     obtain⟨r0,hr0⟩:∃ r,rows[i - 1]?=some r:=⟨_,List.getElem?_eq_getElem (by omega)⟩
     obtain⟨t0,hz0,ht0⟩:=tp.at_ hr0
     have lt:r0.1 < r.1:=by
       obtain⟨l1,e1⟩:=List.getElem?_eq_some_iff.mp hr0;obtain⟨l2,e2⟩:=List.getElem?_eq_some_iff.mp hr'
       have:=List.pairwise_iff_getElem.mp good.asc (i - 1) i l1 l2 (by omega)
       rw[e1,e2]at this;exact this
     refine⟨_,rfl,_,rfl,.inl ⟨q,_,_,_,rfl,rfl,SqL.of hq,zo hz,.inr (.inl ⟨t,_,_,_,rfl,rfl,SqT.of ht,rfl,_,rfl,_,rfl,_,_,rfl,rfl,.inl ⟨q,_,_,_,rfl,rfl,SqL.of hq,(by show atI zs ((i:Int) - 1)=_;rw[show (i:Int) - 1=((i - 1:Nat):Int) by omega];exact zo hz0),.inr (.inl ⟨t0,_,_,_,rfl,rfl,SqT.of ht0,rfl,_,_,rfl,rfl,?_⟩)⟩⟩)⟩⟩;show Q (.bl (decide (r0.1 < r.1))) H;rw[decide_eq_true lt];exact kk
theorem qcn {a:Ad} (T:Txt K mg a):qD P w K mg base CX0 5 a.f_S a.fd_S ["rows","most","widest"] jy:=by
 have G_Q:=qgq (P:=P) (w:=w) (base:=base) T;have G_R:=qdd (P:=P) (w:=w) (base:=base) T;refine T.d_S.F.ok sc_check_rows (fun vs H Q E h=>?_) (fun cdv A outer s H vs Q E hr h=>?_)
 · obtain⟨q,rows,rfl,⟨zs,hq,tp⟩,good,kk⟩:=h;rfl
 · obtain⟨q,rows,rfl,⟨zs,hq,tp⟩,good,kk⟩:=h;have hU:=hr.units;have h_Q:Room (4) _:=hr.mono (by decide);have h_R:Room (1) _:=hr.mono (by decide)
   refine⟨_,(qe (qO (PW.pt (jn (zu (za (qm zN (by rfl) T.n_isinstance qv (qa (pv 0) (qa (Qc (v:=.ty "list") rfl T.n_list zj rfl) qb))))) (Zg (qw (uEq hU) (qm qW (by rfl) T.n_len qM (qa (pv 0) qb)) qd (qC _)))))
       (qf zm)
       qy)
     (qe (qO (qw qdb (qm qW (by rfl) T.n_len qM (qa (pv 0) qb)) (pv 1) (qC _))
       (qf zm)
       qy)
     (qf (zx PassesOwn.never rfl (qgl rfl T.n_enumerate (qa (pv 0) qb)) (zR rfl (qu (qr (i:=3) (sc_check_rows.nd) rfl (Or.inl rfl)) (qu (qr (i:=4) (sc_check_rows.nd) rfl (Or.inl rfl)) zn)))
       (qf (qO (PW.pt (jn (zu (za (qh G_Q h_Q rfl T.d_Q.m T.d_Q.k T.d_Q.b .nil qq (qa (pv 4) (qa (pv 2) qb))))) (Zg (zu (za (qh G_R h_R rfl T.d_R.m T.d_R.k T.d_R.b .nil qq (qa (pv 0) (qa (pv 3) qb))))))))
         (qf zm)
         qy)))))),?_⟩
   try dsimp only [zb,Cx.nox]
   have hl:zs.length=rows.length:=tp.1;have few:=good.few;have pos:=good.ne;have ty:tyN H (.ref q)=some "list":=by simp only[tyN];rw[hq]
   refine⟨_,rfl,_,_,_,rfl,(by decide),ty,true,rfl,qS rfl ?_⟩;refine⟨_,rfl,_,_,rfl,.inl ⟨_,SqL.of hq,rfl⟩,.inl ⟨rfl,_,rfl,zP (fun g=>?_) (fun _=>?_)⟩⟩
   · injection g with g;omega
   refine⟨_,rfl,_,_,rfl,.inl ⟨_,SqL.of hq,rfl⟩,_,rfl,_,_,rfl,rfl,_,rfl,zP (fun g=>?_) (fun _=>?_)⟩
   · omega
   refine⟨_,rfl,q,rfl,⟨zs,SqL.of hq⟩,qeU (K:=K) (a:=q) (xs:=zs) (fun i σ H2=>∃ s3 s4:Option V,σ=[some (.ref q),some (.int 21),some (.int 2880),s3,s4]∧Same H H2) ⟨none,none,rfl,Same.refl H⟩ (fun i σ H2 _ ⟨_,_,_,S⟩=>SqL.of (S _ _ hq)) ?_ ?_⟩
   · rintro i x σ H2 p hx ⟨s3,s4,rfl,S⟩ hn;have S2:Same H (upd H2 p (.tup [.int i,x])):=S.then _ hn
     have hi:i < rows.length:=by rw[← hl];exact(List.getElem?_eq_some_iff.mp hx).1
     obtain⟨r,hr'⟩:∃ r,rows[i]?=some r:=⟨_,List.getElem?_eq_getElem hi⟩
     obtain⟨t,rfl,ht⟩:=tp.2 i x r hx hr';have ok:=good.ok r (List.mem_of_getElem? hr');refine⟨p,_,rfl,SqT.of qc,rfl,_,_,rfl,_,_,rfl,rfl,?_⟩;refine⟨_,rfl,_,rfl,t,r,2880,rfl,S2 _ _ ht,ok.1,ok.2.1,ok.2.2.1,ok.2.2.2,true,rfl,qS rfl ?_⟩;exact⟨_,rfl,_,rfl,q,i,rows,rfl,⟨zs,S2 _ _ hq,tp.same S2⟩,good,hi,true,rfl,qS rfl ⟨_,_,rfl,S2⟩⟩
   · rintro σ H2 ⟨s3,s4,rfl,S⟩;exact kk H2 S
theorem qcp {a:Ad} (T:Txt K mg a):qD P w K mg base CX0 6 a.f_ak a.fd_ak ["self","rows"] (jA a):=by
 have G_S:=qcn (P:=P) (w:=w) (base:=base) T;refine T.d_ak.F.ok qcd (fun vs H Q E h=>?_) (fun cdv A outer s H vs Q E hr h=>?_)
 · obtain⟨x,dx,q,rows,rfl,hx,hrs,good,kk⟩:=h;rfl
 · obtain⟨x,dx,q,rows,rfl,hx,hrs,good,kk⟩:=h;have h_S:Room (5) _:=hr.mono (by decide);obtain⟨t_MOST_ROWS,c_MOST_ROWS⟩:=T.g_MOST_ROWS;obtain⟨t_WIDEST_SHIFT,c_WIDEST_SHIFT⟩:=T.g_WIDEST_SHIFT
   refine⟨_,(qe (qI (qh G_S h_S rfl T.d_S.m T.d_S.k T.d_S.b .nil qq (qa (pv 1) (qa (zI (v:=.int 21) rfl c_MOST_ROWS ⟨_,rfl⟩) (qa (zI (v:=.int 2880) rfl c_WIDEST_SHIFT ⟨_,rfl⟩) qb)))))
     (qf (jd (pv 0) (zB (r:=qlC K) Qy (by rfl) T.n_list zj (qa (pv 1) qb)) rfl))),?_⟩
   try dsimp only [zb,Cx.nox]
   refine⟨_,rfl,q,rows,rfl,hrs,good,fun G1 S1=>?_⟩;obtain⟨zs,hq,tp⟩:=hrs.same S1;have hx1:=S1 _ _ hx;refine⟨_,rfl,q,zs,rfl,.inl (SqL.of hq),fun k fk=>?_⟩;have nkx:x≠k:=qi hx1 fk;refine⟨_,rfl,x,_,dx,[],rfl,(qj nkx).trans hx1,T.cl_Table,T.n_Table_kept,(by show 0 < 1000;decide),?_⟩;have fkH:H k=none:=S1.none fk;refine kk _ (fun c o e n=>?_) ⟨k,dx,zs,qc,(qj nkx.symm).trans qc,⟨tp.1,fun i z p e1 e2=>?_⟩⟩
   · rw[qj n,qj (qi e fkH)];exact S1 _ _ e
   · obtain⟨t,et,ht⟩:=tp.2 i z p e1 e2;refine⟨t,et,?_⟩;rw[qj (Qm ht hx1 (by intro z;cases z)),qj (qi ht fk)];exact ht
end
abbrev abc:Str:="abcdefghijklmnopqrstuvwxyz"
abbrev ch (c:Nat):Str:=⟨#[c]⟩
abbrev chs (cs:List Nat):List Str:=cs.map ch
def Ltr (c:Nat):Prop:=97≤c∧c < 123
theorem qjm {i:Int} (h0:0≤i) (h1:i < 26):atI abc.cps.toList i=some (97+i.toNat):=by
 have:∀ n:Fin 26,atI abc.cps.toList ((n.1:Nat):Int)=some (97+n.1):=by decide +kernel
 have:=this ⟨i.toNat,by omega⟩
 rwa [Int.toNat_of_nonneg h0]at this
theorem qjD {c:Nat} (h:Ltr c):sgn c=true:=by
 have:∀ n:Fin 26,sgn (97+n.1)=true:=by decide +kernel
 have:=this ⟨c - 97,by have:=h.1;have:=h.2;omega⟩
 rwa [show 97+(c - 97)=c by have:=h.1;omega]at this
theorem qgT:∀ cs:List Nat,(Txt.join "" (chs cs)).cps.toList=cs
 | []=>rfl
 | [c]=>rfl
 | c::d::r=>by
   have ih:=qgT (d::r);have g:∀ ys:List Str,Txt.join "" ys=Str.join "" ys:=fun ys=>StrLaws.glued_eq_join _ _;rw[g]at ih ⊢;show (ch c++("":Str)++Str.join "" (chs (d::r))).cps.toList=_;have e:∀ x y:Str,(x++y).cps.toList=x.cps.toList++y.cps.toList:=fun x y=>Array.toList_append;rw[e,e,ih];rfl
theorem qd8 (x y:Str):(x++y).cps.toList=x.cps.toList++y.cps.toList:=Array.toList_append
theorem qdW (x:Str):x.length=x.cps.toList.length:=Array.length_toList.symm
theorem qdq (cs:List Nat):(Txt.join "" (chs cs)).length=cs.length:=by rw[qdW,qgT]
theorem qhf (cs:List Nat):((chs cs).map (·.length)).sum+(chs cs).length * ("":Str).length=cs.length:=by
 have e:((chs cs).map (·.length)).sum=cs.length:=by
   induction cs with
   | nil=>rfl
   | cons c r ih =>
     show (ch c).length+((chs r).map (·.length)).sum=_;rw[ih];show 1+_=_;rw[List.length_cons];omega
 rw[e];rfl
theorem qig {x:Str}{cs:List Nat} (e:x.cps.toList=cs) (h1:1≤cs.length) (h8:cs.length≤8) (hl:∀ c∈cs,Ltr c):zc (.str x)=true:=by
 have:x.length=cs.length:=by rw[qdW,e]
 simp only[zc,Bool.and_eq_true,decide_eq_true_eq];rw[this,e];exact⟨⟨h1,h8⟩,List.all_eq_true.mpr fun c m=>qjD (hl c m)⟩
abbrev odds:List Int:=[1,3,5,7,9,11,15,17,19,21,23,25]
theorem qid {s f:Int}{j k:Nat} (h:s∈odds) (hj:j < 26) (hk:k < 26) (e:(f+s * (j:Int)) % 26=(f+s * (k:Int)) % 26):j=k:=by
 simp only[List.mem_cons,List.not_mem_nil,or_false]at h;rcases h with rfl|rfl|rfl|rfl|rfl|rfl|rfl|rfl|rfl|rfl|rfl|rfl<;>omega
structure Nms (ns:List Str):Prop where
 nm:∀ x∈ns,zc (.str x)=true
 nd:ns.Nodup
def NmsI (pre:List Nat) (f s:Int) (xs:List Str):Prop:=∀ (j:Nat) (x:Str),xs[j]?=some x->zc (.str x)=true∧∃ suf,x.cps.toList=pre++(97+((f+s * (j:Int)) % 26).toNat)::suf
theorem NmsI.nil {pre:List Nat}{f s:Int}:NmsI pre f s []:=fun j x e=>by cases e
theorem NmsI.snoc {pre:List Nat}{f s:Int}{xs:List Str}{x:Str} (h:NmsI pre f s xs) (h1:zc (.str x)=true) {suf:List Nat} (h2:x.cps.toList=pre++(97+((f+s * (xs.length:Int)) % 26).toNat)::suf):NmsI pre f s (xs++[x]):=fun j y e=>by
 by_cases hj:j < xs.length
 · rw[List.getElem?_append_left hj]at e;exact h j y e
 · rw[List.getElem?_append_right (by omega)]at e
   have hj2:j=xs.length:=by
     have:=(List.getElem?_eq_some_iff.mp e).1
     simp at this;omega
   subst hj2;rw[Nat.sub_self]at e;cases e;exact⟨h1,suf,h2⟩
theorem NmsI.end_ {pre:List Nat}{f s:Int}{xs:List Str} (h:NmsI pre f s xs) (hs:s∈odds) (hl:xs.length≤26):Nms xs:=by
 refine⟨fun x m=>?_,?_⟩
 · obtain⟨j,hj⟩:=List.getElem?_of_mem m;exact(h j x hj).1
 · rw[List.Nodup,List.pairwise_iff_getElem];intro i j hi hj hij e;obtain⟨_,s1,e1⟩:=h i _ (List.getElem?_eq_getElem hi);obtain⟨_,s2,e2⟩:=h j _ (List.getElem?_eq_getElem hj);rw[e,e2]at e1;have e3:=List.append_cancel_left e1;injection e3 with e4 _
   have:=qid (f:=f) (j:=i) (k:=j) hs (by omega) (by omega) (by omega)
   omega
theorem qki (cs:List Nat) (lo hi:Option Int):∃ ds:List Nat,qfz ((chs cs).map V.str) lo hi=(chs ds).map V.str∧ds=(cs.drop (HT.sIx cs.length 0 lo)).take (HT.sIx cs.length cs.length hi - HT.sIx cs.length 0 lo):=by
 refine⟨_,?_,rfl⟩;unfold qfz;simp only[chs,List.length_map,List.map_take,List.map_drop]
inductive qap (vs:List V) (H:Hp) (Q:VK):Prop
 | mk (p:Addr) (many:Int) (h1:vs=[.ref p,.int many]) (h2:PenAt H p) (h3:0≤many) (h4:many≤26) (h5:∀ (q:Addr) (ns:List Str) (H':Hp),H q=none->But p H H'->PenAt H' p->H' q=some (.lst (ns.map V.str))->(ns.length:Int)=many->Nms ns->Q (.ref q) H'):qap vs H Q
def qcO:Sp:=fun vs H Q _=>qap vs H Q
section
variable {P:Program}{w:World}{K:Frag}{mg:Str->Option Value}{base:Heap}
theorem qgv {a:Ad} (T:Txt K mg a):qD P w K mg base CX0 3 a.f_V a.fd_V ["_law_state","_law_many"] qcO:=by
 have G_a:=Q1 (P:=P) (w:=w) (base:=base) T;refine T.d_V.F.ok sc_Lnames (fun vs H Q E h=>?_) (fun cdv A outer s H vs Q E hr h=>?_)
 · obtain⟨p,many,rfl,hp,many0,many1,kk⟩:=h;rfl
 · obtain⟨p,many,rfl,hp,many0,many1,kk⟩:=h;have h_a:Room (2) _:=hr.mono (by decide)
   refine⟨_,(@qe _ _ _ _ _ (by exact(qx (i:=2) sc_Lnames.nd rfl (Or.inr rfl) qE))
     (by exact(@qe _ _ _ _ _ (by exact(qx (i:=3) sc_Lnames.nd rfl (Or.inl rfl) (qA QT qd (qh G_a h_a rfl T.d_a.m T.d_a.k T.d_a.b .nil qq (qa (pv 0) (qa qd qb))))))
     (by exact(@qe _ _ _ _ _ (by exact(qx (i:=4) sc_Lnames.nd rfl (Or.inl rfl) (qh G_a h_a rfl T.d_a.m T.d_a.k T.d_a.b .nil qq (qa (pv 0) (qa (pv 3) qb)))))
     (by exact(@qe _ _ _ _ _ (by exact(qgh (i:=5) sc_Lnames.nd rfl (Or.inl rfl) rfl (CompOk.def ["_law_k","_law_letters","_law_state"] [none,some 2,some 0]) (zZ rfl T.n_range (qa (pv 3) qb)) (fun _ _ _ _ _=>(qr (i:=0) (show List.Nodup (["_law_k","_law_letters","_law_state"]:List Str) by decide +kernel) rfl (Or.inl rfl))) (fun _ _ _ _ _=>Qb) (fun _ _ _ _ _=>(qz (r:=rIx K) qp (pv 1) (qh G_a h_a rfl T.d_a.m T.d_a.k T.d_a.b .nil qq (qa (pv 2) (qa qd qb))) (fun _ _=>rfl)))))
     (by exact(@qe _ _ _ _ _ (by exact(qx (i:=6) sc_Lnames.nd rfl (Or.inl rfl) (qh G_a h_a rfl T.d_a.m T.d_a.k T.d_a.b .nil qq (qa (pv 0) (qa qd qb)))))
     (by exact(@qe _ _ _ _ _ (by exact(@qx _ _ 7 _ _ _ _ (by exact sc_Lnames.nd) (by rfl) (by exact(Or.inl rfl)) (by exact(@qz _ _ _ _ _ _ (rIx K) (by exact qp) (by exact(@qJ _ _ _ _ (by exact(@qa _ _ _ _ _ (by exact qd) (by exact(@qa _ _ _ _ _ (by exact qd) (by exact(@qa _ _ _ _ _ (by exact qd) (by exact(@qa _ _ _ _ _ (by exact qd) (by exact(@qa _ _ _ _ _ (by exact qd) (by exact(@qa _ _ _ _ _ (by exact qd) (by exact(@qa _ _ _ _ _ (by exact qd) (by exact(@qa _ _ _ _ _ (by exact qd) (by exact(@qa _ _ _ _ _ (by exact qd) (by exact(@qa _ _ _ _ _ (by exact qd) (by exact(@qa _ _ _ _ _ (by exact qd) (by exact(@qa _ _ _ _ _ (by exact qd) (by exact(@qb _)) (by rfl))) (by rfl))) (by rfl))) (by rfl))) (by rfl))) (by rfl))) (by rfl))) (by rfl))) (by rfl))) (by rfl))) (by rfl))) (by rfl))))) (by exact(qh G_a h_a rfl T.d_a.m T.d_a.k T.d_a.b .nil qq (qa (pv 0) (qa qd qb)))) (by exact fun _ _=>rfl))) (by rfl) (by exact .inl rfl)))
     (by exact(qe (qx (i:=8) sc_Lnames.nd rfl (Or.inl rfl) (qJ qb))
     (qe (zx PassesOwn.never rfl (zZ rfl T.n_range (qa (pv 1) qb)) (qr (i:=9) (sc_Lnames.nd) rfl (Or.inl rfl))
       (qe (qx (i:=10) sc_Lnames.nd rfl (Or.inl rfl) (ZN uSl (pv 5) (jo (qA QT (pv 4) qd)) (jo (qA QT (qA QT (pv 4) qd) (qh G_a h_a rfl T.d_a.m T.d_a.k T.d_a.b .nil qq (qa (pv 0) (qa (qA zK (pv 3) (pv 4)) qb)))))))
       (qe (qx (i:=11) sc_Lnames.nd rfl (Or.inl rfl) (qz (r:=rIx K) qp (pv 2) (qA ZI (qA QT (pv 6) (qA ZH (pv 7) (pv 9))) qd) (fun _ _=>rfl)))
       (qf (qI (ZG PySem.F.plainAttrs_list PySem.F.slot_list_append PySem.F.type_list_append qY (pv 8) (qa (qA QT (qA QT (ZG PySem.F.plainAttrs_str PySem.F.slot_str_join PySem.F.type_str_join qgG qE (qa (ZN uSl (pv 5) qaH (jo (pv 4))) qb)) (pv 11)) (ZG PySem.F.plainAttrs_str PySem.F.slot_str_join PySem.F.type_str_join qgG qE (qa (pv 10) qb))) qb)))))))
     (qf (qt (pv 8))))))))))))))))),?_⟩
   try dsimp only [zb,Cx.nox]
   have p0:PenAt H p:=hp;have t0:But p H H:=But.refl p H;refine⟨_,rfl,p,_,rfl,p0,by decide,by decide,fun dz G1 dz0 dz1 u1 p1=>?_⟩;have t1:=t0.trans u1;refine .inl ⟨_,_,rfl,rfl,?_⟩;(try unfold qK);(try dsimp only);obtain⟨z,hz⟩:∃ z:Int,z=1+dz:=⟨_,rfl⟩
   rw[← hz];refine⟨_,rfl,_,rfl,p,_,rfl,p1,by omega,by omega,fun at_ G2 at_0 at_1 u2 p2=>?_⟩;have t2:=t1.trans u2;refine⟨_,rfl,_,rfl,by omega,by omega,fun D fD=>?_⟩;have nD:D≠p:=p2.ne fD;refine Jl (lo:=0) (n:=z.toNat) (D:=D) (fun i σ H2=>∃ (s0:Option V) (cs:List Nat),σ=[s0,some (.str abc),some (.ref p)]∧But p G2 H2∧PenAt H2 p∧H2 D=some (.lst ((chs cs).map V.str))∧cs.length=i∧∀ c∈cs,Ltr c)
     ⟨none,[],rfl,fun b o z n=>by rw[qj (qi z fD)];exact z,p2.upd nD _,qc,rfl,fun y hy=>nomatch hy⟩ ?_ ?_
   · rintro i σ H2 hi ⟨s0,cs,rfl,t2,p2,hD,hl,hc⟩;refine⟨_,rfl,_,rfl,p,_,rfl,p2,by decide,by decide,fun d H3 d0 d1 B3 p3=>?_⟩;refine .inr (.inr ⟨_,_,_,rfl,rfl,qk (by decide +kernel),qjm d0 d1,?_⟩);refine⟨_,B3 _ _ hD nD,qB (by rw[List.length_map,List.length_map];omega),?_⟩;refine⟨_,cs++[97+d.toNat],rfl,?_,p3.upd nD _,?_,?_,?_⟩
     · intro b o z n;rw[qj (qi z fD)];exact B3 b o (t2 b o z n) n
     · rw[qc];simp only[chs,List.map_append];rfl
     · rw[List.length_append,hl];rfl
     · intro c hm;rcases List.mem_append.mp hm with z|z
       · exact hc c z
       · rw[show c=97+d.toNat by simpa using z];exact⟨by omega,by omega⟩
   rintro σ H2 ⟨s0,cs,rfl,tC,pC,hD,hl,hc⟩;have fD0:H D=none:=t2.none fD nD;have T2:But p H H2:=t2.trans tC;clear tC;have p0:PenAt H2 p:=pC;have t0:But p H2 H2:=But.refl p H2;refine⟨_,rfl,p,_,rfl,p0,by decide,by decide,fun fi G1 fi0 fi1 u1 p1=>?_⟩;have t1:=t0.trans u1;refine⟨(qk (Nat.le_of_ble_eq_true rfl)),fun ol f_ol=>?_⟩;have n_ol:ol≠p:=p1.ne f_ol;have e_ol:(upd G1 ol (.lst [.int 1,.int 3,.int 5,.int 7,.int 9,.int 11,.int 15,.int 17,.int 19,.int 21,.int 23,.int 25])) ol=some (.lst [.int 1,.int 3,.int 5,.int 7,.int 9,.int 11,.int 15,.int 17,.int 19,.int 21,.int 23,.int 25]):=qc;have p2:PenAt (upd G1 ol (.lst [.int 1,.int 3,.int 5,.int 7,.int 9,.int 11,.int 15,.int 17,.int 19,.int 21,.int 23,.int 25])) p:=p1.upd n_ol _;have u2:Same G1 (upd G1 ol (.lst [.int 1,.int 3,.int 5,.int 7,.int 9,.int 11,.int 15,.int 17,.int 19,.int 21,.int 23,.int 25])):=Same.new _ f_ol;have t2:=t1.same u2;(try dsimp only);generalize upd G1 ol (.lst [.int 1,.int 3,.int 5,.int 7,.int 9,.int 11,.int 15,.int 17,.int 19,.int 21,.int 23,.int 25])=G2 at e_ol p2 u2 t2 ⊢;refine⟨_,rfl,p,_,rfl,p2,by decide,by decide,fun ds G3 ds0 ds1 u3 p3=>?_⟩;have t3:=t2.trans u3;obtain⟨v,hv,mv⟩:=Qq (xs:=odds.map V.int) ds0 ds1;obtain⟨st,ho,rfl⟩:=List.mem_map.mp mv;refine .inl ⟨ol,_,_,_,rfl,rfl,SqL.of (u3 _ _ e_ol n_ol),hv,?_⟩
   have st0:1≤st∧st≤25:=by
     simp only[List.mem_cons,List.not_mem_nil,or_false]at ho;rcases ho with rfl|rfl|rfl|rfl|rfl|rfl|rfl|rfl|rfl|rfl|rfl|rfl<;>decide
   refine⟨(qk (Nat.le_of_ble_eq_true rfl)),fun q f_q=>?_⟩;have n_q:q≠p:=p3.ne f_q;have e_q:(upd G3 q (.lst [])) q=some (.lst []):=qc;have p4:PenAt (upd G3 q (.lst [])) p:=p3.upd n_q _;have u4:Same G3 (upd G3 q (.lst [])):=Same.new _ f_q;have t4:=t3.same u4;(try dsimp only);generalize upd G3 q (.lst [])=G4 at e_q p4 u4 t4 ⊢;have fq0:H q=none:=T2.none ((t3).none f_q n_q) n_q;have hD0:=(u4 _ _ (u3 _ _ (u2 _ _ (u1 _ _ hD nD)) nD))
   have B0:But p H G4:=T2.trans t4
   have nDq:D≠q:=Qm hD0 e_q (by
     intro z;injection z with z;have z:=congrArg List.length z;rw[List.length_map,List.length_map,hl]at z
     simp at z;omega)
   obtain⟨pre,hpre⟩:∃ pre,pre=cs.take at_.toNat:=⟨_,rfl⟩
   have lpre:pre.length=at_.toNat:=by rw[hpre,List.length_take];omega
   have cpre:∀ c∈pre,Ltr c:=fun c m=>hc c (List.mem_of_mem_take (hpre▸m));(try unfold qK);(try dsimp only);refine⟨_,rfl,_,rfl,by omega,by omega,Qo (lo:=0) (D:={ nx:=qhL (qiI 8) { nx:=fun _ H'=>Q .non H',rt:=Q },rt:=Q }) (fun i σ H3=>∃ (s9 s10 s11:Option V) (xs:List Str),σ=[some (.ref p),some (.int many),some (.str abc),some (.int z),some (.int at_),some (.ref D),some (.int fi),some (.int st),some (.ref q),s9,s10,s11]∧But p H H3∧PenAt H3 p∧H3 D=some (.lst ((chs cs).map V.str))∧H3 q=some (.lst (xs.map V.str))∧xs.length=i∧NmsI pre fi st xs) ⟨_,_,_,[],rfl,B0,p4,hD0,e_q,rfl,.nil⟩ ?_ ?_⟩
   · rintro i σ H3 hi ⟨s9,s10,s11,xs,rfl,B,pB,hD3,hq3,lx,nm⟩;refine⟨_,rfl,_,rfl,.inl ⟨_,_,rfl,rfl,_,rfl,_,rfl,.inl ⟨_,_,rfl,rfl,_,rfl,_,rfl,_,rfl,_,_,rfl,rfl,p,_,rfl,pB,by omega,by omega,fun d H4 d0 d1 B4 p4=>?_⟩⟩⟩;refine .inl ⟨_,_,rfl,rfl,_,rfl,.inl ⟨D,_,rfl,SqL.of (B4 _ _ hD3 nD),fun b fb=>?_⟩⟩;have nb:b≠p:=p4.ne fb;obtain⟨ds,ed,hds⟩:=qki cs (some (at_+1)) (some (at_+1+d));rw[ed]
     have lds:ds.length≤7 - at_.toNat:=by
       rw[hds,List.length_take,List.length_drop];rw[show at_+1=((at_.toNat+1:Nat):Int) by omega,HT.sIx_nat];omega
     have cds:∀ c∈ds,Ltr c:=fun c m=>hc c (List.mem_of_mem_drop (List.mem_of_mem_take (hds▸m)));have Sb:=Same.new (.lst ((chs ds).map V.str)) fb;have hb5:(upd H4 b (.lst ((chs ds).map V.str))) b=some (.lst ((chs ds).map V.str)):=qc;have p5:=p4.upd nb (.lst ((chs ds).map V.str));have B5:But p H3 (upd H4 b (.lst ((chs ds).map V.str))):=B4.same Sb;(try unfold qK);(try dsimp only);generalize upd H4 b (.lst ((chs ds).map V.str))=G5 at Sb hb5 p5 B5 ⊢;have m0:0≤(fi+st * (0+(i:Int))) % 26:=Int.emod_nonneg _ (by decide);have m1:(fi+st * (0+(i:Int))) % 26 < 26:=Int.emod_lt_of_pos _ (by decide);refine⟨_,rfl,_,rfl,_,rfl,_,rfl,_,_,rfl,rfl,.inl ⟨by omega,by omega⟩,.inl ⟨_,_,rfl,rfl,_,_,rfl,rfl,(by show (0:Int) < _;decide),.inr (.inr ⟨_,_,_,rfl,rfl,qk (by decide +kernel),qjm m0 m1,?_⟩)⟩⟩;have hD5:=B5 _ _ hD3 nD;have hq5:=B5 _ _ hq3 n_q;refine⟨_,rfl,.inl ⟨rfl,_,SqL.of hq5⟩,rfl,_,rfl,_,rfl,_,rfl,.inl ⟨D,_,rfl,SqL.of hD5,fun c fc=>?_⟩⟩;have nc:c≠p:=p5.ne fc;rw[qeY _ at_.toNat _ (by omega),show ((chs cs).map V.str).take at_.toNat=(chs pre).map V.str by rw[hpre];simp only[chs,List.map_take]];have Sc:=Same.new (.lst ((chs pre).map V.str)) fc;have hc6:(upd G5 c (.lst ((chs pre).map V.str))) c=some (.lst ((chs pre).map V.str)):=qc;have p6:=p5.upd nc (.lst ((chs pre).map V.str));have hb6:=Sc _ _ hb5;have hq6:=Sc _ _ hq5;have hD6:=Sc _ _ hD5;have B6:But p H3 (upd G5 c (.lst ((chs pre).map V.str))):=B5.same Sc;(try unfold qK);(try dsimp only);generalize upd G5 c (.lst ((chs pre).map V.str))=G6 at hc6 p6 hb6 hq6 hD6 B6 ⊢;refine⟨_,c,_,rfl,rfl,SqL.of hc6,(by rw[qhf,lpre];omega),_,rfl,.inr (.inr ⟨_,_,rfl,rfl,?_,?_⟩)⟩
     · rw[qdq,lpre];exact qk (by show at_.toNat+1≤1000;omega)
     refine⟨rfl,_,rfl,_,b,_,rfl,rfl,SqL.of hb6,(by rw[qhf];omega),.inr (.inr ⟨_,_,rfl,rfl,?_,?_⟩)⟩
     · rw[qdW,qd8,qgT,qdq];exact qk (by rw[List.length_append,lpre];show _+1+_≤1000;omega)
     refine⟨q,_,_,rfl,rfl,hq6,qB (by rw[List.length_map];omega),?_⟩
     have ex:(Txt.join "" (chs pre)++ch (97+((fi+st * (0+(i:Int))) % 26).toNat)++Txt.join "" (chs ds)).cps.toList=pre++(97+((fi+st * (xs.length:Int)) % 26).toNat)::ds:=by
       rw[qd8,qd8,qgT,qgT,lx,Int.zero_add,List.append_assoc];rfl
     refine⟨_,_,_,xs++[_],rfl,?_,p6.upd n_q _,(by rw[qj nDq];exact hD6),(by rw[qc,List.map_append];rfl),(by rw[List.length_append,lx];rfl),nm.snoc (qig ex ?_ ?_ ?_) ex⟩
     · intro b o z nb;rw[qj (qi z fq0)];exact B6 b o (B b o z nb) nb
     · rw[List.length_append,List.length_cons];omega
     · rw[List.length_append,List.length_cons,lpre];omega
     · intro c hm;rcases List.mem_append.mp hm with z|z
       · exact cpre c z
       · rcases List.mem_cons.mp z with z|z
         · rw[z,lx];rw[Int.zero_add]at m0 m1;exact⟨by omega,by omega⟩
         · exact cds c z
   · rintro σ H3 ⟨s9,s10,s11,xs,rfl,B,pB,hD3,hq3,lx,nm⟩;exact⟨_,rfl,kk q xs H3 fq0 B pB hq3 (by rw[lx];omega) (nm.end_ ho (by omega))⟩
end
theorem PenAt.sm {H H':Hp}{p:Addr} (h:PenAt H p) (s:Same H H'):PenAt H' p:=by
 obtain⟨c,x,y,c0,e⟩:=h;exact⟨c,x,y,c0,s _ _ e⟩
theorem qgm:∀ {rows:List (Int×Int)},(∀ r∈rows,0≤r.1∧r.1≤1000000000∧-2880≤r.2∧r.2≤2880)->∀ p∈pcs rows,(0≤p.1∧p.1≤1000000000)∧(-1≤p.2.1∧p.2.1≤1000000000)∧-2880≤p.2.2∧p.2.2≤2880
 | [],_,p,m=>nomatch m
 | r::rs,h,p,m=>by
   rcases List.mem_cons.mp m with rfl|m
   · have h0:=h r List.mem_cons_self;refine⟨⟨h0.1,h0.2.1⟩,?_,h0.2.2⟩
     cases rs with
     | nil=>exact(show (-1:Int)≤1000000000∧(1000000000:Int)≤1000000000 by decide)
     | cons r2 rs =>
       have h1:=h r2 (List.mem_cons_of_mem _ List.mem_cons_self);show -1≤r2.1 - 1∧r2.1 - 1≤_;omega
   · exact qgm (fun r m=>h r (List.mem_cons_of_mem _ m)) p m
theorem Rs.neP {H:Hp}{p q:Addr}{rows:List (Int×Int)} (hp:PenAt H p) (h:Rs H q rows):q≠p:=by
 obtain⟨zs,hq,tz⟩:=h;obtain⟨c,x,y,_,e⟩:=hp;refine Qm hq e (fun z=>?_);injection z with z;subst z;have l:=tz.1
 cases rows with
 | nil=>cases l
 | cons r rs =>
   obtain⟨t,e1,_⟩:=tz.2 0 _ r rfl rfl;cases e1
theorem Rs.bp {H H':Hp}{p q:Addr}{rows:List (Int×Int)} (h:Rs H q rows) (hp:PenAt H p) (b:But p H H'):Rs H' q rows:=by
 have n:=h.neP hp;obtain⟨zs,hq,tz⟩:=h;exact⟨zs,b _ _ hq n,TupL.pen tz hp b⟩
inductive qbD (vs:List V) (H:Hp) (Q:VK):Prop
 | mk (p q:Addr) (rows:List (Int×Int)) (h1:vs=[.ref p,.ref q]) (h2:PenAt H p) (h3:Rs H q rows) (h4:Good rows) (h5:∀ (n:Int) (H':Hp),-10000≤n->n≤1000010000->But p H H'->PenAt H' p->Q (.int n) H'):qbD vs H Q
def qek:Sp:=fun vs H Q _=>qbD vs H Q
section
variable {P:Program}{w:World}{K:Frag}{mg:Str->Option Value}{base:Heap}
theorem qia {a:Ad} (T:Txt K mg a):qD P w K mg base CX0 3 a.f_Z a.fd_Z ["_law_state","_law_rows_here"] qek:=by
 have G_p:=qbR (P:=P) (w:=w) (base:=base) T;have G_a:=Q1 (P:=P) (w:=w) (base:=base) T;refine T.d_Z.F.ok sc_Lnear (fun vs H Q E h=>?_) (fun cdv A outer s H vs Q E hr h=>?_)
 · obtain⟨p,q,rows,rfl,hp,hrs,good,kk⟩:=h;rfl
 · obtain⟨p,q,rows,rfl,hp,hrs,good,kk⟩:=h;have h_p:Room (1) _:=hr.mono (by decide);have h_a:Room (2) _:=hr.mono (by decide)
   refine⟨_,(@qe _ _ _ _ _ (by exact(JL (qz (r:=rIx K) qp (qh G_p h_p rfl T.d_p.m T.d_p.k T.d_p.b .nil qq (qa (pv 1) qb)) (qh G_a h_a rfl T.d_a.m T.d_a.k T.d_a.b .nil qq (qa (pv 0) (qa (qm qW (by rfl) T.n_len qM (qa (pv 1) qb)) qb))) (fun _ _=>rfl)) (zR rfl (qu (qr (i:=2) (sc_Lnear.nd) rfl (Or.inl rfl)) (qu (qr (i:=3) (sc_Lnear.nd) rfl (Or.inl rfl)) (qu (qr (i:=4) (sc_Lnear.nd) rfl (Or.inl rfl)) zn))))))
     (by exact(@qe _ _ _ _ _ (by exact(qx (i:=5) sc_Lnear.nd rfl (Or.inl rfl) (qJ (qa (pv 2) (qa (pv 3) (qa (pv 2) (qa (pv 3) (qa (qA QT (pv 2) (qA qgp (qA zK (pv 3) (pv 2)) qd)) qb))))))))
     (by exact(@qf _ _ _ (by exact(@qt _ _ _ _ (by exact(@qA _ _ _ _ _ _ _ _ (by exact QT) (by exact(qA QT (qz (r:=rIx K) qp (pv 5) (qh G_a h_a rfl T.d_a.m T.d_a.k T.d_a.b .nil qq (qa (pv 0) (qa qd qb))) (fun _ _=>rfl)) (pv 4))) (by exact(@qz _ _ _ _ _ _ (rIx K) (by exact qp) (by exact(@qJ _ _ _ _ (by exact(@qa _ _ _ _ _ (by exact qd) (by exact(@qa _ _ _ _ _ (by exact qd) (by exact(@qa _ _ _ _ _ (by exact qd) (by exact(@qa _ _ _ _ _ (by exact(Zj zU qd)) (by exact(@qa _ _ _ _ _ (by exact(qA zK (qh G_a h_a rfl T.d_a.m T.d_a.k T.d_a.b .nil qq (qa (pv 0) (qa qd qb))) qd)) (by exact(@qb _)) (by rfl))) (by rfl))) (by rfl))) (by rfl))) (by rfl))))) (by exact(qh G_a h_a rfl T.d_a.m T.d_a.k T.d_a.b .nil qq (qa (pv 0) (qa qd qb)))) (by exact fun _ _=>rfl)))))))))))),?_⟩
   try dsimp only [zb,Cx.nox]
   have p0:PenAt H p:=hp;have t0:But p H H:=But.refl p H;have lr:=good.few;have l0:=ZP good;obtain⟨zs0,hq0,tz0⟩:=id hrs;refine⟨_,rfl,q,rows,rfl,hrs,good,fun d zs G1 fd S1 hd tz=>?_⟩;have u1:=S1;have p1:=PenAt.sm p0 u1;have t1:=t0.same u1;have nd:d≠p:=hp.ne fd;refine⟨_,rfl,_,rfl,_,_,rfl,.inl ⟨_,SqL.of (S1 _ _ hq0),rfl⟩,p,_,rfl,p1,by rw[tz0.1];omega,by rw[tz0.1];omega,fun i G2 i0 i1 u2 p2=>?_⟩;have t2:=t1.trans u2;obtain⟨j,rfl⟩:=Int.eq_ofNat_of_zero_le i0;have jl:j < (pcs rows).length:=by rw[Q0,← tz0.1];omega
   obtain⟨t,hz,ht⟩:=tz.at_ (List.getElem?_eq_getElem jl);have bd:=qgm good.ok _ (List.getElem_mem jl);generalize (pcs rows)[j]=pc at ht bd
   have nt:t≠p:=by
     obtain⟨c,x,y,_,e⟩:=p1;exact Qm ht e (by intro z;cases z)
   refine .inl ⟨d,_,_,_,rfl,rfl,SqL.of (u2 _ _ hd nd),zo hz,?_⟩;refine⟨t,_,rfl,SqT.of (u2 _ _ ht nt),rfl,_,_,rfl,_,_,rfl,_,_,rfl,rfl,?_⟩;obtain⟨a1,b1,s1⟩:=pc;obtain⟨ha,hb,hs⟩:=bd;(try dsimp only at ha hb hs);refine⟨_,rfl,_,rfl,_,rfl,_,rfl,_,rfl,_,rfl,_,rfl,_,_,rfl,rfl,_,_,rfl,rfl,⟨by decide,by decide⟩,.inl ⟨_,_,rfl,rfl,?_⟩⟩;refine⟨(qk (Nat.le_of_ble_eq_true rfl)),fun l f_l=>?_⟩;have n_l:l≠p:=p2.ne f_l;have e_l:(upd G2 l (.lst [.int a1,.int b1,.int a1,.int b1,.int (a1+(b1 - a1) / 2)])) l=some (.lst [.int a1,.int b1,.int a1,.int b1,.int (a1+(b1 - a1) / 2)]):=qc;have p3:PenAt (upd G2 l (.lst [.int a1,.int b1,.int a1,.int b1,.int (a1+(b1 - a1) / 2)])) p:=p2.upd n_l _;have u3:Same G2 (upd G2 l (.lst [.int a1,.int b1,.int a1,.int b1,.int (a1+(b1 - a1) / 2)])):=Same.new _ f_l;have t3:=t2.same u3;(try dsimp only);generalize upd G2 l (.lst [.int a1,.int b1,.int a1,.int b1,.int (a1+(b1 - a1) / 2)])=G3 at e_l p3 u3 t3 ⊢;refine⟨_,rfl,_,rfl,p,_,rfl,p3,by decide,by decide,fun j2 G4 j20 j21 u4 p4=>?_⟩;have t4:=t3.trans u4;obtain⟨v,hv,mv⟩:=Qq (xs:=([.int a1,.int b1,.int a1,.int b1,.int (a1+(b1 - a1) / 2)]:List V)) j20 j21
   obtain⟨x,rfl,x0,x1⟩:∃ x:Int,v=.int x∧-1≤x∧x≤1000000000:=by
     simp only[List.mem_cons,List.not_mem_nil,or_false]at mv;rcases mv with rfl|rfl|rfl|rfl|rfl<;>exact⟨_,rfl,by omega,by omega⟩
   refine .inl ⟨l,_,_,_,rfl,rfl,SqL.of (u4 _ _ e_l n_l),hv,_,rfl,.inl ⟨_,_,rfl,rfl,?_⟩⟩;refine⟨_,rfl,_,rfl,p,_,rfl,p4,by decide,by decide,fun y G5 y0 y1 u5 p5=>?_⟩;have t5:=t4.trans u5;refine⟨_,_,rfl,rfl,?_⟩;refine⟨(qk (Nat.le_of_ble_eq_true rfl)),fun l2 f_l2=>?_⟩;have n_l2:l2≠p:=p5.ne f_l2;have e_l2:(upd G5 l2 (.lst [.int 0,.int 0,.int 1,.int (-1),.int (y - 100)])) l2=some (.lst [.int 0,.int 0,.int 1,.int (-1),.int (y - 100)]):=qc;have p6:PenAt (upd G5 l2 (.lst [.int 0,.int 0,.int 1,.int (-1),.int (y - 100)])) p:=p5.upd n_l2 _;have u6:Same G5 (upd G5 l2 (.lst [.int 0,.int 0,.int 1,.int (-1),.int (y - 100)])):=Same.new _ f_l2;have t6:=t5.same u6;(try dsimp only);generalize upd G5 l2 (.lst [.int 0,.int 0,.int 1,.int (-1),.int (y - 100)])=G6 at e_l2 p6 u6 t6 ⊢;refine⟨_,rfl,p,_,rfl,p6,by decide,by decide,fun j3 G7 j30 j31 u7 p7=>?_⟩;have t7:=t6.trans u7;obtain⟨v,hv2,mv2⟩:=Qq (xs:=([.int 0,.int 0,.int 1,.int (-1),.int (y - 100)]:List V)) j30 j31
   obtain⟨z,rfl,z0,z1⟩:∃ x:Int,v=.int x∧-100≤x∧x≤100:=by
     simp only[List.mem_cons,List.not_mem_nil,or_false]at mv2;rcases mv2 with rfl|rfl|rfl|rfl|rfl<;>exact⟨_,rfl,by omega,by omega⟩
   refine .inl ⟨l2,_,_,_,rfl,rfl,SqL.of (u7 _ _ e_l2 n_l2),hv2,.inl ⟨_,_,rfl,rfl,?_⟩⟩;exact kk _ _ (by omega) (by omega) t7 p7
end
inductive qby (vs:List V) (H:Hp) (Q:VK):Prop
 | mk (q r:Addr) (ws:List (Int×Int)) (h1:vs=[.ref q,.ref r]) (h2:Rs H q ws) (h3:Rs H r ws) (h4:ws.length≤20000) (h5:∀ H',Same H H'->Q (.bl true) H'):qby vs H Q
def qeh:Sp:=fun vs H Q _=>qby vs H Q
section
variable {P:Program}{w:World}{K:Frag}{mg:Str->Option Value}{base:Heap}
theorem qh7 {a:Ad} (T:Txt K mg a):qD P w K mg base CX0 1 a.f_Y a.fd_Y ["_law_found","_law_due"] qeh:=by
 refine T.d_Y.F.ok sc_Lsame (fun vs H Q E h=>?_) (fun cdv A outer s H vs Q E hr h=>?_)
 · obtain⟨q,r,ws,rfl,hrs,hrr,few,kk⟩:=h;rfl
 · obtain⟨q,r,ws,rfl,hrs,hrr,few,kk⟩:=h;have hU:=hr.units
   refine⟨_,(qe (qO (PW.pt (jn (zu (za (qm zN (by rfl) T.n_isinstance qv (qa (pv 0) (qa (Qc (v:=.ty "list") rfl T.n_list zj rfl) qb))))) (Zg (qw (uNe hU) (pv 0) (pv 1) (qC _)))))
       (qf (qt Jd))
       qy)
     (qe (zx PassesOwn.never rfl (qX (pv 0)) (qr (i:=2) (sc_Lsame.nd) rfl (Or.inl rfl))
       (qf (qO (PW.pt (jn (zu (za (qm zN (by rfl) T.n_isinstance qv (qa (pv 2) (qa (Qc (v:=.ty "tuple") rfl T.n_tuple jr rfl) qb))))) (Zg (qw (uNe hU) (zJ rfl (CompOk.def ["_law_one"] [none]) (qkV (pv 2)) (fun _ _ _ _ _=>(qr (i:=0) (show List.Nodup (["_law_one"]:List Str) by decide +kernel) rfl (Or.inl rfl))) (fun _ _ _ _ _=>(Jb (za (qm zN (by rfl) T.n_isinstance qv (qa (pv 0) (qa (Qc (v:=.ty "bool") rfl T.n_bool qb2 rfl) qb)))))) (fun _ _ _ _ _=>(pv 0))) (qJ qb) (qC _)))))
         (qf (qt Jd))
         qy)))
     (qf (qt Jd)))),?_⟩
   try dsimp only [zb,Cx.nox]
   obtain⟨zs,hq,tp⟩:=id hrs;obtain⟨ys,hr',tr⟩:=id hrr;have ty:tyN H (.ref q)=some "list":=by simp only[tyN];rw[hq]
   refine⟨_,rfl,_,_,_,rfl,(by decide),ty,true,rfl,qS rfl ?_⟩;refine⟨_,rfl,_,rfl,qj1 hq hr' tp tr ⟨_,rfl,qbt ?_⟩⟩;refine⟨_,rfl,q,rfl,⟨_,SqL.of hq⟩,zy (D:={ nx:=qhL (tC (.bl true)) { nx:=fun _ H'=>Q .non H',rt:=Q },rt:=Q }) (K:=K) (a:=q) (xs:=zs) (fun i σ H2=>∃ (s2:Option V),σ=[some (.ref q),some (.ref r),s2]∧Same H H2) ⟨_,rfl,Same.refl H⟩ (fun i σ H2 _ ⟨_,_,S⟩=>SqL.of (S _ _ hq)) ?_ ?_⟩
   · rintro i z σ H2 hz ⟨s2,rfl,S⟩;obtain⟨w,t,hw,rfl,ht⟩:=tp.of hz;have ht2:=S _ _ ht;have tyt:tyN H2 (.ref t)=some "tuple":=by simp only[tyN];rw[ht2]
     refine⟨_,rfl,_,_,_,rfl,(by decide),tyt,true,rfl,qS rfl ?_⟩;refine⟨_,rfl,t,rfl,⟨_,SqT.of ht2⟩,fun C fC=>?_⟩;refine qiz (K:=K) (a:=t) (xs:=pr w) (D:=C) (fun i σ H3=>∃ c0:Option V,σ=[c0]∧Same H2 H3∧H3 C=some (.lst [])) ⟨none,rfl,Same.new _ fC,qc⟩ (fun i σ H3 _ ⟨_,_,S3,_⟩=>SqT.of (S3 _ _ ht2)) ?_ ?_
     · rintro i' y σ H3 hy ⟨c0,rfl,S3,hC⟩;obtain⟨n,_,rfl⟩:=zY hy;exact⟨_,rfl,_,_,_,rfl,(by decide),rfl,false,rfl,qbt ⟨_,rfl,S3,hC⟩⟩
     rintro σ H3 ⟨c0,rfl,S3,hC⟩;refine⟨qk (Nat.le_of_ble_eq_true rfl),fun nl fnl=>?_⟩;have S4:Same H (upd H3 nl (.lst [])):=S.trans (S3.then (.lst []) fnl);refine .inr ⟨_,_,.lst (.inl (Same.new (.lst []) fnl _ _ hC)) .nil,.lst (.inl qc) .nil,rfl,rfl,?_⟩;refine⟨_,rfl,qbt ?_⟩;exact⟨_,rfl,S4⟩
   · rintro σ H2 ⟨s2,rfl,S⟩;exact kk H2 S
end
abbrev Pls:=List (Str×Addr×List (Int×Int))
def dkv (ps:Pls):List (Key×V):=ps.map fun x=>((.inr x.1:Key),V.ref x.2.1)
structure TdI (H:Hp) (ps:Pls):Prop where
 rs:∀ x∈ps,Rs H x.2.1 x.2.2
 good:∀ x∈ps,Good x.2.2
 nm:∀ x∈ps,zc (.str x.1)=true
 nd:(ps.map (·.1)).Nodup
 ne:0 < ps.length
 few:ps.length≤4
def Td (H:Hp) (d:Addr) (ps:Pls):Prop:=Rd H d (.dK (dkv ps))∧TdI H ps
theorem Rd.bp {H H':Hp}{p d:Addr}{kvs:List (Key×V)} (h:Rd H d (.dK kvs)) (hp:PenAt H p) (b:But p H H'):Rd H' d (.dK kvs):=by
 obtain⟨c,x,y,_,e⟩:=hp;rcases h with h|⟨o,h⟩
 · exact .inl (b _ _ h (Qm h e (by intro z;cases z)))
 · exact .inr ⟨o,b _ _ h (Qm h e (by intro z;cases z))⟩
theorem Rd.sm {H H':Hp}{d:Addr}{u:HO} (h:Rd H d u) (b:Same H H'):Rd H' d u:=by
 rcases h with h|⟨o,h⟩
 · exact .inl (b _ _ h)
 · exact .inr ⟨o,b _ _ h⟩
theorem Td.bp {H H':Hp}{p d:Addr}{ps:Pls} (h:Td H d ps) (hp:PenAt H p) (b:But p H H'):Td H' d ps :=
 ⟨Rd.bp h.1 hp b,⟨fun x m=>(h.2.rs x m).bp hp b,h.2.good,h.2.nm,h.2.nd,h.2.ne,h.2.few⟩⟩
theorem Td.sm {H H':Hp}{d:Addr}{ps:Pls} (h:Td H d ps) (b:Same H H'):Td H' d ps :=
 ⟨Rd.sm h.1 b,⟨fun x m=>(h.2.rs x m).same b,h.2.good,h.2.nm,h.2.nd,h.2.ne,h.2.few⟩⟩
theorem qbv:∀ {ps:Pls},(ps.map (·.1)).Nodup->∀ x∈ps,qcG (dkv ps) (.inr x.1)=some (V.ref x.2.1)
 | [],_,x,m=>nomatch m
 | y::ps,nd,x,m=>by
   rw[List.map_cons,List.nodup_cons]at nd;unfold dkv qcG;rw[List.map_cons,List.find?_cons];rcases List.mem_cons.mp m with rfl|m
   · simp
   · have n:¬ ((.inr y.1:Key)=.inr x.1):=fun e=>by
       injection e with e;exact nd.1 (e▸List.mem_map_of_mem m)
     rw[show decide (((.inr y.1:Key),V.ref y.2.1).1=.inr x.1)=false by simpa using n];exact qbv nd.2 x m
theorem qfH:∀ {ps:Pls}{pl:Str},pl∉ps.map (·.1)->qcG (dkv ps) (.inr pl)=none
 | [],_,_=>rfl
 | y::ps,pl,h=>by
   rw[List.map_cons,List.mem_cons,not_or]at h;unfold dkv qcG;rw[List.map_cons,List.find?_cons];have n:¬ ((.inr y.1:Key)=.inr pl):=fun e=>by injection e with e;exact h.1 e.symm
   rw[show decide (((.inr y.1:Key),V.ref y.2.1).1=.inr pl)=false by simpa using n];exact qfH h.2
theorem Td.get {H:Hp}{d:Addr}{ps:Pls} (h:Td H d ps) {x:Str×Addr×List (Int×Int)} (m:x∈ps):qjq H d (.str x.1) (some (.ref x.2.1)):=.inl ⟨_,.inr x.1,h.1,rfl,(qbv h.2.nd x m).symm⟩
inductive qbx (vs:List V) (H:Hp) (Q:VK):Prop
 | mk (p q tb:Addr) (nm:Str) (ps:Pls) (h1:vs=[.ref p,.str nm,.ref q,.ref tb]) (h2:PenAt H p) (h3:zc (.str nm)=true) (h4:H q=some (.lst ((ps.map (·.1)).map V.str))) (h5:Td H tb ps) (h6:∀ (s:Addr) (wd pl:Str) (lo hi:Int) (H':Hp),H s=none->But p H H'->PenAt H' p->H' s=some (.tup (qhz wd nm pl lo hi))->Spc wd nm pl lo hi->(pl=""∨pl∈ps.map (·.1))->Q (.ref s) H'):qbx vs H Q
def qeg:Sp:=fun vs H Q _=>qbx vs H Q
section
variable {P:Program}{w:World}{K:Frag}{mg:Str->Option Value}{base:Heap}
theorem qh6 {a:Ad} (T:Txt K mg a):qD P w K mg base CX0 4 a.f_0 a.fd_0 ["_law_state","_law_name","_law_places_here","_law_tables"] qeg:=by
 have G_a:=Q1 (P:=P) (w:=w) (base:=base) T;have G_Z:=qia (P:=P) (w:=w) (base:=base) T;refine T.d_0.F.ok sc_Lspec (fun vs H Q E h=>?_) (fun cdv A outer s H vs Q E hr h=>?_)
 · obtain⟨p,q,tb,nm,ps,rfl,hp,hnm,hq,td,kk⟩:=h;rfl
 · obtain⟨p,q,tb,nm,ps,rfl,hp,hnm,hq,td,kk⟩:=h;have hu:=qH hr;have hU:=hr.units;have h_a:Room (2) _:=hr.mono (by decide);have h_Z:Room (3) _:=hr.mono (by decide)
   refine⟨_,(@qe _ _ _ _ _ (by exact(@qx _ _ 4 _ _ _ _ (by exact sc_Lspec.nd) (by rfl) (by exact(Or.inl rfl)) (by exact(@qz _ _ _ _ _ _ (rIx K) (by exact qp) (by exact(@qJ _ _ _ _ (by exact(@qa _ _ _ _ _ (by exact qE) (by exact(@qa _ _ _ _ _ (by exact qE) (by exact(@qa _ _ _ _ _ (by exact qE) (by exact(@qa _ _ _ _ _ (by exact qE) (by exact(@qa _ _ _ _ _ (by exact qE) (by exact(@qa _ _ _ _ _ (by exact qE) (by exact(@qa _ _ _ _ _ (by exact qE) (by exact(@qa _ _ _ _ _ (by exact qE) (by exact(@qb _)) (by rfl))) (by rfl))) (by rfl))) (by rfl))) (by rfl))) (by rfl))) (by rfl))) (by rfl))))) (by exact(qh G_a h_a rfl T.d_a.m T.d_a.k T.d_a.b .nil qq (qa (pv 0) (qa qd qb)))) (by exact fun _ _=>rfl))) (by rfl) (by exact .inl rfl)))
     (by exact(@qe _ _ _ _ _ (by exact(qx (i:=5) sc_Lspec.nd rfl (Or.inl rfl) (qz (r:=rIx K) qp (pv 2) (qh G_a h_a rfl T.d_a.m T.d_a.k T.d_a.b .nil qq (qa (pv 0) (qa (qm qW (by rfl) T.n_len qM (qa (pv 2) qb)) qb))) (fun _ _=>rfl))))
     (by exact(@qe _ _ _ _ _ (by exact(qx (i:=6) sc_Lspec.nd rfl (Or.inl rfl) (Jc hu (pv 3) (pv 5) (fun _ _=>rfl))))
     (by exact(@qe _ _ _ _ _ (by exact(@qO _ _ _ _ _ _ _ _ (by exact(qw jQ (pv 4) (qV (qa qE (qa qE qb))) (by with_unfolding_all rfl)))
       (by exact(@qe _ _ _ _ _ (by exact(qx (i:=7) sc_Lspec.nd rfl (Or.inl rfl) (qh G_Z h_Z rfl T.d_Z.m T.d_Z.k T.d_Z.b .nil qq (qa (pv 0) (qa (pv 6) qb)))))
       (by exact(@qe _ _ _ _ _ (by exact(@qO _ _ _ _ _ _ _ _ (by exact(qw (uEq hU) (qh G_a h_a rfl T.d_a.m T.d_a.k T.d_a.b .nil qq (qa (pv 0) (qa qd qb))) qd (qC _)))
         (by exact(@qf _ _ _ (by exact(@qx _ _ 7 _ _ _ _ (by exact sc_Lspec.nd) (by rfl) (by exact(Or.inl rfl)) (by exact(@qz _ _ _ _ _ _ (rIx K) (by exact qp) (by exact(@qJ _ _ _ _ (by exact(@qa _ _ _ _ _ (by exact(qA zH qd qd)) (by exact(@qa _ _ _ _ _ (by exact(qA zK qd (qA zH qd qd))) (by exact(@qa _ _ _ _ _ (by exact(qh G_a h_a rfl T.d_a.m T.d_a.k T.d_a.b .nil qq (qa (pv 0) (qa (qA zH qd qd) qb)))) (by exact(@qb _)) (by rfl))) (by rfl))) (by rfl))))) (by exact(qh G_a h_a rfl T.d_a.m T.d_a.k T.d_a.b .nil qq (qa (pv 0) (qa qd qb)))) (by exact fun _ _=>rfl))) (by rfl) (by exact .inl rfl)))))
         (by exact qy)))
       (by exact(@qe _ _ _ _ _ (by exact(@qx _ _ 8 _ _ _ _ (by exact sc_Lspec.nd) (by rfl) (by exact(Or.inl rfl)) (by exact(@qm _ _ _ _ _ _ _ _ _ (by exact(zC rfl)) (by rfl) (by exact T.n_min) (by exact zD) (by exact(@qa _ _ _ _ _ (by exact(qA zH qd qd)) (by exact(@qa _ _ _ _ _ (by exact(@qA _ _ _ _ _ _ _ _ (by exact QT) (by exact(pv 7)) (by exact(@qz _ _ _ _ _ _ (rIx K) (by exact qp) (by exact(@qJ _ _ _ _ (by exact(@qa _ _ _ _ _ (by exact qd) (by exact(@qa _ _ _ _ _ (by exact qd) (by exact(@qa _ _ _ _ _ (by exact qd) (by exact(@qa _ _ _ _ _ (by exact qd) (by exact(@qa _ _ _ _ _ (by exact(qA zH qd qd)) (by exact(@qa _ _ _ _ _ (by exact(Zj zU qd)) (by exact(@qb _)) (by rfl))) (by rfl))) (by rfl))) (by rfl))) (by rfl))) (by rfl))))) (by exact(qh G_a h_a rfl T.d_a.m T.d_a.k T.d_a.b .nil qq (qa (pv 0) (qa qd qb)))) (by exact fun _ _=>rfl))))) (by exact(@qb _)) (by rfl))) (by rfl))) (by decide) (by rfl) (by rfl) (by rfl))) (by rfl) (by exact .inl rfl)))
       (by exact(qf (qt (qV (qa (pv 4) (qa (pv 1) (qa (pv 5) (qa (pv 7) (qa (qz (r:=rIx K) qp (qJ (qa (qm (zh rfl) (by rfl) T.n_max zi (qa (pv 8) (qa (qA zK qd (qA zH qd qd)) qb))) (qa (pv 7) qb))) (zB qa6 (by rfl) T.n_int jY (qa (zA (uEq hU) (pv 4) qE (qC _)) qb)) (fun _ _=>rfl)) qb)))))))))))))))
       (by exact qy)))
     (by exact(@qe _ _ _ _ _ (by exact(qx (i:=7) sc_Lspec.nd rfl (Or.inl rfl) (qm (zC rfl) (by rfl) T.n_min zD (qa (qA zH qd qd) (qa (qm (zh rfl) (by rfl) T.n_max zi (qa qd (qa (qA zK (qA QT (qz (r:=rIx K) qp (qz (r:=rIx K) qp (pv 6) (qh G_a h_a rfl T.d_a.m T.d_a.k T.d_a.b .nil qq (qa (pv 0) (qa (qm qW (by rfl) T.n_len qM (qa (pv 6) qb)) qb))) (fun _ _=>rfl)) qd (fun _ _=>rfl)) (qh G_a h_a rfl T.d_a.m T.d_a.k T.d_a.b .nil qq (qa (pv 0) (qa qd qb)))) qd) qb))) qb)))))
     (by exact(@qe _ _ _ _ _ (by exact(@qO _ _ _ _ _ _ _ _ (by exact(qw (uEq hU) (qh G_a h_a rfl T.d_a.m T.d_a.k T.d_a.b .nil qq (qa (pv 0) (qa qd qb))) qd (qC _)))
       (by exact(@qf _ _ _ (by exact(@qx _ _ 7 _ _ _ _ (by exact sc_Lspec.nd) (by rfl) (by exact(Or.inl rfl)) (by exact(@qz _ _ _ _ _ _ (rIx K) (by exact qp) (by exact(@qJ _ _ _ _ (by exact(@qa _ _ _ _ _ (by exact qd) (by exact(@qa _ _ _ _ _ (by exact(qA zH qd qd)) (by exact(@qa _ _ _ _ _ (by exact(qh G_a h_a rfl T.d_a.m T.d_a.k T.d_a.b .nil qq (qa (pv 0) (qa (qA QT (qA zH qd qd) qd) qb)))) (by exact(@qb _)) (by rfl))) (by rfl))) (by rfl))))) (by exact(qh G_a h_a rfl T.d_a.m T.d_a.k T.d_a.b .nil qq (qa (pv 0) (qa qd qb)))) (by exact fun _ _=>rfl))) (by rfl) (by exact .inl rfl)))))
       (by exact qy)))
     (by exact(@qe _ _ _ _ _ (by exact(@qx _ _ 8 _ _ _ _ (by exact sc_Lspec.nd) (by rfl) (by exact(Or.inl rfl)) (by exact(@qm _ _ _ _ _ _ _ _ _ (by exact(zC rfl)) (by rfl) (by exact T.n_min) (by exact zD) (by exact(@qa _ _ _ _ _ (by exact(qA zH qd qd)) (by exact(@qa _ _ _ _ _ (by exact(@qm _ _ _ _ _ _ _ _ _ (by exact(zh rfl)) (by rfl) (by exact T.n_max) (by exact zi) (by exact(@qa _ _ _ _ _ (by exact qd) (by exact(@qa _ _ _ _ _ (by exact(@qA _ _ _ _ _ _ _ _ (by exact QT) (by exact(pv 7)) (by exact(@qz _ _ _ _ _ _ (rIx K) (by exact qp) (by exact(@qJ _ _ _ _ (by exact(@qa _ _ _ _ _ (by exact qd) (by exact(@qa _ _ _ _ _ (by exact qd) (by exact(@qa _ _ _ _ _ (by exact qd) (by exact(@qa _ _ _ _ _ (by exact qd) (by exact(@qa _ _ _ _ _ (by exact(qA zH qd qd)) (by exact(@qa _ _ _ _ _ (by exact(Zj zU qd)) (by exact(@qb _)) (by rfl))) (by rfl))) (by rfl))) (by rfl))) (by rfl))) (by rfl))))) (by exact(qh G_a h_a rfl T.d_a.m T.d_a.k T.d_a.b .nil qq (qa (pv 0) (qa qd qb)))) (by exact fun _ _=>rfl))))) (by exact(@qb _)) (by rfl))) (by rfl))) (by decide) (by rfl) (by rfl) (by rfl))) (by exact(@qb _)) (by rfl))) (by rfl))) (by decide) (by rfl) (by rfl) (by rfl))) (by rfl) (by exact .inl rfl)))
     (by exact(qe (qO (qw (uEq hU) (pv 4) qE (qC _))
       (qf (qt (qV (qa (pv 4) (qa (pv 1) (qa qE (qa qd (qa (qA zH qd qd) qb))))))))
       qy)
     (qf (qt (qV (qa (pv 4) (qa (pv 1) (qa qE (qa (pv 7) (qa (qz (r:=rIx K) qp (qJ (qa (pv 8) (qa (pv 7) qb))) (zB qa6 (by rfl) T.n_int jY (qa (zA (uEq hU) (pv 4) qE (qC _)) qb)) (fun _ _=>rfl)) qb))))))))))))))))))))))),?_⟩
   try dsimp only [zb,Cx.nox]
   have p0:PenAt H p:=hp;have t0:But p H H:=But.refl p H;have lps:=td.2.ne;have lpf:=td.2.few
   have nq:q≠p:=by
     obtain⟨c,x,y,_,e⟩:=hp;refine Qm hq e (fun z=>?_);injection z with z
     cases ps with
     | nil=>cases lps
     | cons a r=>cases z
   have lq:((ps.map (·.1)).map V.str).length=ps.length:=by rw[List.length_map,List.length_map]
   refine⟨(qk (Nat.le_of_ble_eq_true rfl)),fun lw f_lw=>?_⟩;have n_lw:lw≠p:=p0.ne f_lw;have e_lw:(upd H lw (.lst [.str "any",.str "within",.str "at",.str "between",.str "read",.str "between",.str "read",.str "read"])) lw=some (.lst [.str "any",.str "within",.str "at",.str "between",.str "read",.str "between",.str "read",.str "read"]):=qc;have p1:PenAt (upd H lw (.lst [.str "any",.str "within",.str "at",.str "between",.str "read",.str "between",.str "read",.str "read"])) p:=p0.upd n_lw _;have u1:Same H (upd H lw (.lst [.str "any",.str "within",.str "at",.str "between",.str "read",.str "between",.str "read",.str "read"])):=Same.new _ f_lw;have t1:=t0.same u1;(try dsimp only);generalize upd H lw (.lst [.str "any",.str "within",.str "at",.str "between",.str "read",.str "between",.str "read",.str "read"])=G1 at e_lw p1 u1 t1 ⊢;refine⟨_,rfl,p,_,rfl,p1,by decide,by decide,fun iw G2 iw0 iw1 u2 p2=>?_⟩;have t2:=t1.trans u2;obtain⟨v,hv,mv⟩:=Qq (xs:=([.str "any",.str "within",.str "at",.str "between",.str "read",.str "between",.str "read",.str "read"]:List V)) iw0 iw1
   obtain⟨wd,rfl,hw⟩:∃ wd:Str,v=.str wd∧((wd="between"∨wd="read")∨wd="any"∨wd="within"∨wd="at"):=by
     simp only[List.mem_cons,List.not_mem_nil,or_false]at mv;rcases mv with rfl|rfl|rfl|rfl|rfl|rfl|rfl|rfl
     · exact⟨_,rfl,.inr (.inl rfl)⟩
     · exact⟨_,rfl,.inr (.inr (.inl rfl))⟩
     · exact⟨_,rfl,.inr (.inr (.inr rfl))⟩
     · exact⟨_,rfl,.inl (.inl rfl)⟩
     · exact⟨_,rfl,.inl (.inr rfl)⟩
     · exact⟨_,rfl,.inl (.inl rfl)⟩
     · exact⟨_,rfl,.inl (.inr rfl)⟩
     · exact⟨_,rfl,.inl (.inr rfl)⟩
   refine .inl ⟨lw,_,_,_,rfl,rfl,SqL.of (u2 _ _ e_lw n_lw),hv,?_⟩;refine⟨_,rfl,_,rfl,_,rfl,_,_,rfl,.inl ⟨_,SqL.of (t2 _ _ hq nq),rfl⟩,p,_,rfl,p2,by rw[lq];omega,by rw[lq];omega,fun ip G3 ip0 ip1 u3 p3=>?_⟩;have t3:=t2.trans u3;obtain⟨j,rfl⟩:=Int.eq_ofNat_of_zero_le ip0;have jl:j < ps.length:=by rw[lq]at ip1;omega
   have mx:=List.getElem_mem jl;have hx:((ps.map (·.1)).map V.str)[j]?=some (.str ps[j].1):=by rw[List.getElem?_map,List.getElem?_map,List.getElem?_eq_getElem jl];rfl
   generalize ps[j]=x at mx hx;refine .inl ⟨q,_,_,_,rfl,rfl,SqL.of (t3 _ _ hq nq),zo hx,?_⟩;have td3:=td.bp hp t3;refine⟨_,rfl,_,rfl,tb,_,rfl,td3.get mx,?_⟩;have good:=td.2.good x mx;have nmx:=td.2.nm x mx;have mpl:x.1∈ps.map (·.1):=List.mem_map_of_mem mx;have hrs0:=td.2.rs x mx;obtain⟨pl,rq,rows⟩:=x;(try dsimp only at good nmx mpl hrs0);have e10:(10:Int) ^ (10:Int).toNat=10000000000:=by decide
   have e9:(10:Int) ^ (9:Int).toNat=1000000000:=by decide
   have e6:(10:Int) ^ (6:Int).toNat=1000000:=by decide
   have e8:(10:Int) ^ (8:Int).toNat=100000000:=by decide
   refine⟨_,rfl,(qk (Nat.le_of_ble_eq_true rfl)),fun tt f_tt=>?_⟩;have n_tt:tt≠p:=p3.ne f_tt;have e_tt:(upd G3 tt (.tup [.str "between",.str "read"])) tt=some (.tup [.str "between",.str "read"]):=qc;have p4:PenAt (upd G3 tt (.tup [.str "between",.str "read"])) p:=p3.upd n_tt _;have u4:Same G3 (upd G3 tt (.tup [.str "between",.str "read"])):=Same.new _ f_tt;have t4:=t3.same u4;(try dsimp only);generalize upd G3 tt (.tup [.str "between",.str "read"])=G4 at e_tt p4 u4 t4 ⊢;refine⟨tt,_,rfl,.inr (SqT.of e_tt),rfl,rfl,_,rfl,?_⟩;clear u1 u2 u3 u4 p1 p2 p3 t1 t2 t3 e_tt e_lw hv mv td3 hx;rcases hw with hw|hw
   all_goals have t4_:=t4
   · have p0:PenAt G4 p:=p4;have t0:But p G4 G4:=But.refl p G4;have e1:inV (.str wd) [.str "between",.str "read"]=true:=by rcases hw with rfl|rfl<;>decide
     refine Ji e1 ?_;have T0:But p H G4:=t4_;refine⟨_,rfl,_,rfl,p,rq,rows,rfl,p0,hrs0.bp hp T0,good,fun n G1 n0 n1 u1 p1=>?_⟩;have t1:=t0.trans u1;(try unfold qK);(try dsimp only);refine qL (t:=qiJ _ _ _) (fun σ' H'=>∃ lo:Int,σ'=[some (.ref p),some (.str nm),some (.ref q),some (.ref tb),some (.str wd),some (.str pl),some (.ref rq),some (.int lo),none]∧(-10000000000≤lo∧lo≤10000000000)∧But p H H'∧PenAt H' p) (fun N hN=>?_) ?_;have t1_:=t1
     · have p0:PenAt G1 p:=p1;have t0:But p G1 G1:=But.refl p G1;refine⟨_,rfl,p,_,rfl,p0,by decide,by decide,fun d8 G1 d80 d81 u1 p1=>?_⟩;have t1:=t0.trans u1;refine .inl ⟨rfl,_,rfl,zP (fun g=>?_) (fun g=>hN _ _ ⟨n,rfl,⟨by omega,by omega⟩,T0.trans (t1_.trans t1),p1⟩)⟩;have w10:(0:Int) < 10 ^ (10:Int).toNat∧(10:Int) ^ (10:Int).toNat < 340282366920938463463374607431768211456:=by decide
       refine⟨_,_,rfl,rfl,⟨by decide,by decide,by decide⟩,_,_,rfl,rfl,⟨by decide,by decide,by decide⟩,_,_,rfl,rfl,_,rfl,_,_,rfl,rfl,⟨by decide,by decide,by decide⟩,p,_,rfl,p1,w10.1,w10.2,fun dz G2 dz0 dz1 u2 p2=>?_⟩;have t2:=t1.trans u2;refine⟨(qk (Nat.le_of_ble_eq_true rfl)),fun l3 f_l3=>?_⟩;have n_l3:l3≠p:=p2.ne f_l3;have e_l3:(upd G2 l3 (.lst [.int (10 ^ (10:Int).toNat),.int (0 - 10 ^ (10:Int).toNat),.int dz])) l3=some (.lst [.int (10 ^ (10:Int).toNat),.int (0 - 10 ^ (10:Int).toNat),.int dz]):=qc;have p3:PenAt (upd G2 l3 (.lst [.int (10 ^ (10:Int).toNat),.int (0 - 10 ^ (10:Int).toNat),.int dz])) p:=p2.upd n_l3 _;have u3:Same G2 (upd G2 l3 (.lst [.int (10 ^ (10:Int).toNat),.int (0 - 10 ^ (10:Int).toNat),.int dz])):=Same.new _ f_l3;have t3:=t2.same u3;(try dsimp only);generalize upd G2 l3 (.lst [.int (10 ^ (10:Int).toNat),.int (0 - 10 ^ (10:Int).toNat),.int dz])=G3 at e_l3 p3 u3 t3 ⊢;refine⟨_,rfl,p,_,rfl,p3,by decide,by decide,fun i3 G4 i30 i31 u4 p4=>?_⟩;have t4:=t3.trans u4;obtain⟨v,hv,mv⟩:=Qq (xs:=([.int (10 ^ (10:Int).toNat),.int (0 - 10 ^ (10:Int).toNat),.int dz]:List V)) i30 i31;rw[e10]at dz1
       obtain⟨lo,rfl,lo0,lo1⟩:∃ lo:Int,v=.int lo∧-10000000000≤lo∧lo≤10000000000:=by
         simp only[List.mem_cons,List.not_mem_nil,or_false]at mv;rcases mv with rfl|rfl|rfl<;>exact⟨_,rfl,by omega,by omega⟩
       refine .inl ⟨l3,_,_,_,rfl,rfl,SqL.of (u4 _ _ e_l3 n_l3),hv,?_⟩;exact hN _ _ ⟨lo,rfl,⟨lo0,lo1⟩,T0.trans (t1_.trans t4),p4⟩
     rintro _ H5 ⟨lo,rfl,lob,T5,p5⟩;have p0:PenAt H5 p:=p5;have t0:But p H5 H5:=But.refl p H5;refine⟨_,_,rfl,rfl,⟨by decide,by decide,by decide⟩,_,rfl,_,_,rfl,rfl,⟨by decide,by decide,by decide⟩,_,rfl,(qk (Nat.le_of_ble_eq_true rfl)),fun l6 f_l6=>?_⟩;have n_l6:l6≠p:=p0.ne f_l6;have e_l6:(upd H5 l6 (.lst [.int 0,.int 1,.int 60,.int 3000,.int (10 ^ (6:Int).toNat),.int (-1)])) l6=some (.lst [.int 0,.int 1,.int 60,.int 3000,.int (10 ^ (6:Int).toNat),.int (-1)]):=qc;have p1:PenAt (upd H5 l6 (.lst [.int 0,.int 1,.int 60,.int 3000,.int (10 ^ (6:Int).toNat),.int (-1)])) p:=p0.upd n_l6 _;have u1:Same H5 (upd H5 l6 (.lst [.int 0,.int 1,.int 60,.int 3000,.int (10 ^ (6:Int).toNat),.int (-1)])):=Same.new _ f_l6;have t1:=t0.same u1;(try dsimp only);generalize upd H5 l6 (.lst [.int 0,.int 1,.int 60,.int 3000,.int (10 ^ (6:Int).toNat),.int (-1)])=G1 at e_l6 p1 u1 t1 ⊢;refine⟨_,rfl,p,_,rfl,p1,by decide,by decide,fun i6 G2 i60 i61 u2 p2=>?_⟩;have t2:=t1.trans u2;obtain⟨v,hv,mv⟩:=Qq (xs:=([.int 0,.int 1,.int 60,.int 3000,.int (10 ^ (6:Int).toNat),.int (-1)]:List V)) i60 i61
     obtain⟨z,rfl,z0,z1⟩:∃ z:Int,v=.int z∧-1≤z∧z≤1000000:=by
       simp only[List.mem_cons,List.not_mem_nil,or_false]at mv;rcases mv with rfl|rfl|rfl|rfl|rfl|rfl<;>exact⟨_,rfl,by omega,by omega⟩
     refine .inl ⟨l6,_,_,_,rfl,rfl,SqL.of (u2 _ _ e_l6 n_l6),hv,.inl ⟨_,_,rfl,rfl,_,_,rfl,?_⟩⟩;(try unfold qK);(try dsimp only);obtain⟨hh,ehh⟩:∃ hh:Int,hh=if lo+z < 10 ^ (10:Int).toNat then lo+z else 10 ^ (10:Int).toNat:=⟨_,rfl⟩
     rw[← ehh];have hh1:hh≤10000000000:=by rw[ehh,e10];split<;>omega
     refine⟨_,rfl,_,rfl,_,rfl,_,rfl,_,rfl,_,_,rfl,rfl,⟨by decide,by decide,by decide⟩,_,_,rfl,rfl,_,_,rfl,_,rfl,(qk (Nat.le_of_ble_eq_true rfl)),fun l7 f_l7=>?_⟩;have n_l7:l7≠p:=p2.ne f_l7;have e_l7:(upd G2 l7 (.lst [.int (if 0 - 10 ^ (10:Int).toNat > hh then 0 - 10 ^ (10:Int).toNat else hh),.int lo])) l7=some (.lst [.int (if 0 - 10 ^ (10:Int).toNat > hh then 0 - 10 ^ (10:Int).toNat else hh),.int lo]):=qc;have p3:PenAt (upd G2 l7 (.lst [.int (if 0 - 10 ^ (10:Int).toNat > hh then 0 - 10 ^ (10:Int).toNat else hh),.int lo])) p:=p2.upd n_l7 _;have u3:Same G2 (upd G2 l7 (.lst [.int (if 0 - 10 ^ (10:Int).toNat > hh then 0 - 10 ^ (10:Int).toNat else hh),.int lo])):=Same.new _ f_l7;have t3:=t2.same u3;(try dsimp only);generalize upd G2 l7 (.lst [.int (if 0 - 10 ^ (10:Int).toNat > hh then 0 - 10 ^ (10:Int).toNat else hh),.int lo])=G3 at e_l7 p3 u3 t3 ⊢;refine⟨_,rfl,.inl ⟨rfl,.inr ⟨_,rfl,?_⟩⟩⟩;have h7:=e_l7;have nn:=t3;rcases hw with rfl|rfl
     · refine .inl ⟨l7,_,_,_,rfl,rfl,SqL.of h7,rfl,qk (Nat.le_of_ble_eq_true rfl),fun s fs=>?_⟩;have ns:s≠p:=p3.ne fs;refine kk s _ _ _ _ _ ((T5.trans t3).none fs ns) ((T5.trans t3).same (Same.new _ fs)) (p3.upd ns _) qc (.between hnm nmx lob ?_) (.inr mpl);rw[e10];split<;>omega
     · refine .inl ⟨l7,_,_,_,rfl,rfl,SqL.of h7,rfl,qk (Nat.le_of_ble_eq_true rfl),fun s fs=>?_⟩;have ns:s≠p:=p3.ne fs;exact kk s _ _ _ _ _ ((T5.trans t3).none fs ns) ((T5.trans t3).same (Same.new _ fs)) (p3.upd ns _) qc (.read hnm nmx lob) (.inr mpl)
   · have p0:PenAt G4 p:=p4;have t0:But p G4 G4:=But.refl p G4;have e1:inV (.str wd) [.str "between",.str "read"]=false:=by rcases hw with rfl|rfl|rfl<;>decide
     refine qS e1 ?_;have T0:But p H G4:=t4_;obtain⟨zr,hzr,tzr⟩:=hrs0.bp hp T0;have nr:rq≠p:=(hrs0.bp hp T0).neP p0;have lr:=good.few;have l0:=ZP good;refine⟨_,_,rfl,rfl,⟨by decide,by decide,by decide⟩,_,rfl,_,rfl,_,rfl,_,_,rfl,.inl ⟨_,SqL.of hzr,rfl⟩,p,_,rfl,p0,by rw[tzr.1];omega,by rw[tzr.1];omega,fun ir G1 ir0 ir1 u1 p1=>?_⟩;have t1:=t0.trans u1;obtain⟨j,rfl⟩:=Int.eq_ofNat_of_zero_le ir0;have jl:j < rows.length:=by rw[← tzr.1];omega
     obtain⟨t,hz,ht⟩:=tzr.at_ (List.getElem?_eq_getElem jl);have bd:=good.ok _ (List.getElem_mem jl);generalize rows[j]=rw_ at ht bd
     have nt:t≠p:=by
       obtain⟨c,x,y,_,e⟩:=p0;exact Qm ht e (by intro z;cases z)
     refine .inl ⟨rq,_,_,_,rfl,rfl,SqL.of (u1 _ _ hzr nr),zo hz,.inr (.inl ⟨t,_,_,_,rfl,rfl,SqT.of (u1 _ _ ht nt),rfl,?_⟩)⟩;refine⟨_,rfl,p,_,rfl,p1,by decide,by decide,fun d4 G2 d40 d41 u2 p2=>?_⟩;have t2:=t1.trans u2;refine .inl ⟨_,_,rfl,rfl,_,_,rfl,rfl,_,_,rfl,_,_,rfl,?_⟩;(try unfold qK);(try dsimp only);generalize hlo:(if (if rw_.1+d4 - 200 > 0 then rw_.1+d4 - 200 else 0) < 10 ^ (9:Int).toNat then (if rw_.1+d4 - 200 > 0 then rw_.1+d4 - 200 else 0) else 10 ^ (9:Int).toNat)=n
     have nb:0≤n∧n≤1000000000:=by
       rw[e9]at hlo;subst hlo;split<;>split<;>omega
     clear hlo;refine qL (t:=qiJ _ _ _) (fun σ' H'=>∃ lo:Int,σ'=[some (.ref p),some (.str nm),some (.ref q),some (.ref tb),some (.str wd),some (.str pl),some (.ref rq),some (.int lo),none]∧(0≤lo∧lo≤1000000000)∧But p H H'∧PenAt H' p) (fun N hN=>?_) ?_;have t2_:=t2
     · have p0:PenAt G2 p:=p2;have t0:But p G2 G2:=But.refl p G2;refine⟨_,rfl,p,_,rfl,p0,by decide,by decide,fun d6 G1 d60 d61 u1 p1=>?_⟩;have t1:=t0.trans u1;refine .inl ⟨rfl,_,rfl,zP (fun g=>?_) (fun g=>hN _ _ ⟨n,rfl,nb,T0.trans (t2_.trans t1),p1⟩)⟩;have w9:(0:Int) < 10 ^ (9:Int).toNat+1∧(10:Int) ^ (9:Int).toNat+1 < 340282366920938463463374607431768211456:=by decide
       refine⟨_,_,rfl,rfl,⟨by decide,by decide,by decide⟩,_,rfl,_,_,rfl,rfl,⟨by decide,by decide,by decide⟩,.inl ⟨_,_,rfl,rfl,p,_,rfl,p1,w9.1,w9.2,fun dz G2 dz0 dz1 u2 p2=>?_⟩⟩;have t2:=t1.trans u2;refine⟨(qk (Nat.le_of_ble_eq_true rfl)),fun l3 f_l3=>?_⟩;have n_l3:l3≠p:=p2.ne f_l3;have e_l3:(upd G2 l3 (.lst [.int 0,.int (10 ^ (9:Int).toNat),.int dz])) l3=some (.lst [.int 0,.int (10 ^ (9:Int).toNat),.int dz]):=qc;have p3:PenAt (upd G2 l3 (.lst [.int 0,.int (10 ^ (9:Int).toNat),.int dz])) p:=p2.upd n_l3 _;have u3:Same G2 (upd G2 l3 (.lst [.int 0,.int (10 ^ (9:Int).toNat),.int dz])):=Same.new _ f_l3;have t3:=t2.same u3;(try dsimp only);generalize upd G2 l3 (.lst [.int 0,.int (10 ^ (9:Int).toNat),.int dz])=G3 at e_l3 p3 u3 t3 ⊢;refine⟨_,rfl,p,_,rfl,p3,by decide,by decide,fun i3 G4 i30 i31 u4 p4=>?_⟩;have t4:=t3.trans u4;obtain⟨v,hv,mv⟩:=Qq (xs:=([.int 0,.int (10 ^ (9:Int).toNat),.int dz]:List V)) i30 i31;rw[e9]at dz1
       obtain⟨lo,rfl,lo0,lo1⟩:∃ lo:Int,v=.int lo∧0≤lo∧lo≤1000000000:=by
         simp only[List.mem_cons,List.not_mem_nil,or_false]at mv;rcases mv with rfl|rfl|rfl<;>exact⟨_,rfl,by omega,by omega⟩
       refine .inl ⟨l3,_,_,_,rfl,rfl,SqL.of (u4 _ _ e_l3 n_l3),hv,?_⟩;exact hN _ _ ⟨lo,rfl,⟨lo0,lo1⟩,T0.trans (t2_.trans t4),p4⟩
     rintro _ H5 ⟨lo,rfl,lob,T5,p5⟩;have p0:PenAt H5 p:=p5;have t0:But p H5 H5:=But.refl p H5;refine⟨_,_,rfl,rfl,⟨by decide,by decide,by decide⟩,_,rfl,_,_,rfl,rfl,⟨by decide,by decide,by decide⟩,_,rfl,(qk (Nat.le_of_ble_eq_true rfl)),fun l6 f_l6=>?_⟩;have n_l6:l6≠p:=p0.ne f_l6;have e_l6:(upd H5 l6 (.lst [.int 0,.int 1,.int 30,.int 5000,.int (10 ^ (8:Int).toNat),.int (-1)])) l6=some (.lst [.int 0,.int 1,.int 30,.int 5000,.int (10 ^ (8:Int).toNat),.int (-1)]):=qc;have p1:PenAt (upd H5 l6 (.lst [.int 0,.int 1,.int 30,.int 5000,.int (10 ^ (8:Int).toNat),.int (-1)])) p:=p0.upd n_l6 _;have u1:Same H5 (upd H5 l6 (.lst [.int 0,.int 1,.int 30,.int 5000,.int (10 ^ (8:Int).toNat),.int (-1)])):=Same.new _ f_l6;have t1:=t0.same u1;(try dsimp only);generalize upd H5 l6 (.lst [.int 0,.int 1,.int 30,.int 5000,.int (10 ^ (8:Int).toNat),.int (-1)])=G1 at e_l6 p1 u1 t1 ⊢;refine⟨_,rfl,p,_,rfl,p1,by decide,by decide,fun i6 G2 i60 i61 u2 p2=>?_⟩;have t2:=t1.trans u2;obtain⟨v,hv,mv⟩:=Qq (xs:=([.int 0,.int 1,.int 30,.int 5000,.int (10 ^ (8:Int).toNat),.int (-1)]:List V)) i60 i61
     obtain⟨z,rfl,z0,z1⟩:∃ z:Int,v=.int z∧-1≤z∧z≤100000000:=by
       simp only[List.mem_cons,List.not_mem_nil,or_false]at mv;rcases mv with rfl|rfl|rfl|rfl|rfl|rfl<;>exact⟨_,rfl,by omega,by omega⟩
     refine .inl ⟨l6,_,_,_,rfl,rfl,SqL.of (u2 _ _ e_l6 n_l6),hv,.inl ⟨_,_,rfl,rfl,_,_,rfl,_,_,rfl,?_⟩⟩;(try unfold qK);(try dsimp only);generalize ehh:(if (if lo+z > 0 then lo+z else 0) < 10 ^ (9:Int).toNat then (if lo+z > 0 then lo+z else 0) else 10 ^ (9:Int).toNat)=hh
     have hhb:0≤hh∧hh≤1000000000:=by
       rw[e9]at ehh;subst ehh;split<;>split<;>omega
     clear ehh;rcases hw with rfl|hw
     · refine⟨_,rfl,.inl ⟨rfl,_,rfl,zP (fun _=>?_) (fun g=>absurd rfl g)⟩⟩;refine⟨_,rfl,_,rfl,_,_,rfl,rfl,⟨by decide,by decide,by decide⟩,qk (Nat.le_of_ble_eq_true rfl),fun s fs=>?_⟩;have ns:s≠p:=p2.ne fs;refine kk s _ "" 0 1000000000 _ ((T5.trans t2).none fs ns) ((T5.trans t2).same (Same.new _ fs)) (p2.upd ns _) ?_ (.any hnm) (.inl rfl);rw[qc,← e9];rfl
     have nany:¬ V.str wd=V.str "any":=by rcases hw with rfl|rfl<;>decide
     refine⟨_,rfl,.inl ⟨rfl,_,rfl,zP (fun g=>absurd g nany) (fun _=>?_)⟩⟩;refine⟨_,rfl,_,rfl,_,rfl,_,rfl,_,rfl,(qk (Nat.le_of_ble_eq_true rfl)),fun l7 f_l7=>?_⟩;have n_l7:l7≠p:=p2.ne f_l7;have e_l7:(upd G2 l7 (.lst [.int hh,.int lo])) l7=some (.lst [.int hh,.int lo]):=qc;have p3:PenAt (upd G2 l7 (.lst [.int hh,.int lo])) p:=p2.upd n_l7 _;have u3:Same G2 (upd G2 l7 (.lst [.int hh,.int lo])):=Same.new _ f_l7;have t3:=t2.same u3;(try dsimp only);generalize upd G2 l7 (.lst [.int hh,.int lo])=G3 at e_l7 p3 u3 t3 ⊢;refine⟨_,rfl,.inl ⟨rfl,.inr ⟨_,rfl,?_⟩⟩⟩;have h7:=e_l7;rcases hw with rfl|rfl
     · refine .inl ⟨l7,_,_,_,rfl,rfl,SqL.of h7,rfl,qk (Nat.le_of_ble_eq_true rfl),fun s fs=>?_⟩;have ns:s≠p:=p3.ne fs;exact kk s _ _ _ _ _ ((T5.trans t3).none fs ns) ((T5.trans t3).same (Same.new _ fs)) (p3.upd ns _) qc (.within hnm lob hhb) (.inl rfl)
     · refine .inl ⟨l7,_,_,_,rfl,rfl,SqL.of h7,rfl,qk (Nat.le_of_ble_eq_true rfl),fun s fs=>?_⟩;have ns:s≠p:=p3.ne fs;exact kk s _ _ _ _ _ ((T5.trans t3).none fs ns) ((T5.trans t3).same (Same.new _ fs)) (p3.upd ns _) qc (.at_ hnm lob) (.inl rfl)
end
theorem qac:bootBuiltins "ValueError"=some (.type "ValueError"):=by decide +kernel
inductive Due (ps:Pls) (wd pl:Str) (lo hi:Int):List (Int×Int)->Prop
 | pl {x:Str×Addr×List (Int×Int)}:(wd="between"∨wd="read")->x∈ps->x.1=pl->Due ps wd pl lo hi (shw x.2.2 lo hi)
 | no:(wd="any"∨wd="within"∨wd="at")->Due ps wd pl lo hi [(lo,hi)]
inductive qak (vs:List V) (H:Hp) (Q:VK):Prop
 | mk (s tb:Addr) (wd nm pl:Str) (lo hi:Int) (ps:Pls) (W:List (Int×Int)) (h1:vs=[.ref s,.ref tb]) (h2:H s=some (.tup (qhz wd nm pl lo hi))) (h3:Td H tb ps) (h4:Due ps wd pl lo hi W) (h5:∀ (d:Addr) (r:List (Int×Int)) (H':Hp),H d=none->Same H H'->Rs H' d r->qR r->r.length≤21->(∀ n,Mem r n↔Mem W n)->Q (.ref d) H'):qak vs H Q
def qcK:Sp:=fun vs H Q _=>qak vs H Q
inductive Qv (K:Frag) (vs:List V) (H:Hp) (Q:VK):Prop
 | mk (ea:Addr) (x:Str) (C:Addr) (dx:Option Addr) (tb:Value) (h1:vs=[.ref ea,.str x]) (h2:H ea=some (.ext (ExO ea C dx tb))) (h3:xIn K C=true) (h4:Q .non H):Qv K vs H Q
def Zb (K:Frag):Sp:=fun vs H Q _=>Qv K vs H Q
inductive QK (a:Ad) (vs:List V) (H:Hp) (Q:VK):Prop
 | mk (ea:Addr) (v:V) (h1:vs=[.ref ea,v]) (h2:H ea=some (.ext (ExO ea a.c_NoPlace none .none))) (h3:∀ dx,H dx=none->dx≠ea->Q .non (upd (upd H ea (.ext (ExO ea a.c_NoPlace (some dx) .none))) dx (.xd [("found",v)]))):QK a vs H Q
def Zv (a:Ad):Sp:=fun vs H Q _=>QK a vs H Q
inductive Qw (a:Ad) (vs:List V) (H:Hp) (Q:VK) (E:XK):Prop
 | mk (x C dx tb:Addr) (nm pl:Str) (lo hi:Int) (h1:vs=[.ref x,.ref tb]) (h2:(C=a.c_Between∨C=a.c_Read)) (h3:H x=some (.ins C dx (fsB nm pl lo hi))) (h4:((∃ (ta:Addr) (rows:List (Int×Int)),qjq H tb (.str pl) (some (.ref ta))∧Tb a H ta rows∧Good rows∧(-10000000000≤lo∧lo≤10000000000)∧(-10000000000≤hi∧hi≤10000000000) ∧
   ∀ (d:Addr) (r:List (Int×Int)) (H':Hp),H d=none->Same H H'->Rs H' d r->qR r->r.length≤21->(∀ n,Mem r n↔Mem (shw rows lo hi) n)->Q (.ref d) H') ∨
  (qjq H tb (.str pl) none∧Rz a.c_NoPlace "found" (.str pl) H E))):Qw a vs H Q E
def q9 (a:Ad):Sp:=fun vs H Q E=>Qw a vs H Q E
section
variable {P:Program}{w:World}{K:Frag}{mg:Str->Option Value}{base:Heap}
theorem qgr {a:Ad} (T:Txt K mg a):qD P w K mg base CX0 3 a.f_1 a.fd_1 ["_law_spec_here","_law_tables"] qcK:=by
 have G_h:=Je (P:=P) (w:=w) (base:=base) T;have G_X:=qgs (P:=P) (w:=w) (base:=base) T;refine T.d_1.F.ok sc_Lspans (fun vs H Q E h=>?_) (fun cdv A outer s H vs Q E hr h=>?_)
 · obtain⟨s,tb,wd,nm,pl,lo,hi,ps,W,rfl,hs,td,due,kk⟩:=h;rfl
 · obtain⟨s,tb,wd,nm,pl,lo,hi,ps,W,rfl,hs,td,due,kk⟩:=h;have hu:=qH hr;have h_h:Room (1) _:=hr.mono (by decide);have h_X:Room (2) _:=hr.mono (by decide)
   refine⟨_,(qe (JL (pv 0) (zR rfl (qu (qr (i:=2) (sc_Lspans.nd) rfl (Or.inl rfl)) (qu (qr (i:=3) (sc_Lspans.nd) rfl (Or.inl rfl)) (qu (qr (i:=4) (sc_Lspans.nd) rfl (Or.inl rfl)) (qu (qr (i:=5) (sc_Lspans.nd) rfl (Or.inl rfl)) (qu (qr (i:=6) (sc_Lspans.nd) rfl (Or.inl rfl)) zn)))))))
     (qe (qO (qw jQ (pv 2) (qV (qa qE (qa qE qb))) (by with_unfolding_all rfl))
       (qf (qt (qh G_X h_X rfl T.d_X.m T.d_X.k T.d_X.b .nil qq (qa (Jc hu (pv 1) (pv 4) (fun _ _=>rfl)) (qa (pv 5) (qa (pv 6) qb))))))
       qy)
     (qf (qt (qh G_h h_h rfl T.d_h.m T.d_h.k T.d_h.b .nil qq (qa (qJ (qa (qV (qa (pv 5) (qa (pv 6) qb))) qb)) qb)))))),?_⟩
   try dsimp only [zb,Cx.nox]
   refine⟨_,rfl,s,_,rfl,SqT.of hs,rfl,_,_,rfl,_,_,rfl,_,_,rfl,_,_,rfl,_,_,rfl,rfl,?_⟩;refine⟨_,rfl,qk (Nat.le_of_ble_eq_true rfl),fun tt ft=>?_⟩;have St:=Same.new (.tup [.str "between",.str "read"]) ft;refine⟨tt,_,rfl,.inr (SqT.of qc),rfl,rfl,_,rfl,?_⟩;have td1:=td.sm St
   cases due with
   | @pl x hw mx ex =>
     subst ex;refine Ji (by rcases hw with rfl|rfl<;>decide) ?_;exact⟨_,rfl,_,rfl,tb,_,rfl,td1.get mx,_,rfl,_,rfl,x.2.1,x.2.2,lo,hi,rfl,td1.2.rs x mx,td.2.good x mx,fun d r H' fd S R can lr mem=>kk d r H' (St.none fd) (St.trans S) R can lr mem⟩
   | no hw =>
     refine qS (by rcases hw with rfl|rfl|rfl<;>decide) ?_;refine⟨_,rfl,_,rfl,qk (Nat.le_of_ble_eq_true rfl),fun t ft2=>⟨qk (Nat.le_of_ble_eq_true rfl),fun l fl=>?_⟩⟩;have S1:=Same.new (.tup [.int lo,.int hi]) ft2;have S2:=Same.new (.lst [.ref t]) fl;have S3:=(St.trans S1).trans S2;refine⟨l,[(lo,hi)],rfl,qdc (w:=(lo,hi)) (S2 _ _ qc) qc,.one _,fun e r H3 fe S4 R can lr mem=>?_⟩;exact kk e r H3 (S3.none fe) (S3.trans S4) R can (Nat.le_trans lr (Nat.le_of_ble_eq_true rfl)) mem
theorem J0 {a:Ad} (T:Txt K mg a):qD P w K mg base CX0 1 a.f_ao a.fd_ao ["self","text"] (Zb K):=by
 refine T.d_ao.F.ok JV (fun vs H Q E h=>?_) (fun cdv A outer s H vs Q E hr h=>?_)
 · obtain⟨ea,x,C,dx,tb,rfl,he,xi,kk⟩:=h;rfl
 · obtain⟨ea,x,C,dx,tb,rfl,he,xi,kk⟩:=h;refine⟨_,(qf (qI (qh2 rfl T.n_ValueError qac (qa (pv 0) (qa (pv 1) qb))))),?_⟩;(try dsimp only [zb,Cx.nox]);exact⟨_,rfl,_,rfl,ea,C,dx,tb,_,rfl,Nat.le_of_ble_eq_true rfl,he,xi,kk⟩
theorem qaM {a:Ad} (T:Txt K mg a):qD P w K mg base CX0 3 a.f_an a.fd_an ["self","found"] (Zv a):=by
 have G_ao:=J0 (P:=P) (w:=w) (base:=base) T;refine T.d_an.F.ok qav (fun vs H Q E h=>?_) (fun cdv A outer s H vs Q E hr h=>?_)
 · obtain⟨ea,v,rfl,he,kk⟩:=h;rfl
 · obtain⟨ea,v,rfl,he,kk⟩:=h;have h_ao:Room (1+1) _:=hr.mono (by decide)
   refine⟨_,(qe (qI (QZ T.ci_LogError G_ao (h_ao.mono (by decide)) T.d_ao.b rfl T.g_LogError (qa (pv 0) (qa qE qb))))
     (qf (qjN (pv 0) (pv 1) rfl))),?_⟩
   try dsimp only [zb,Cx.nox]
   refine⟨_,rfl,ea,_,_,_,_,rfl,he,T.X_NoPlace.c.xi,?_⟩;exact⟨_,rfl,_,rfl,ea,_,_,rfl,he,T.X_NoPlace.c,T.n_NoPlace_found,kk⟩
theorem Zh {a:Ad} (T:Txt K mg a):qD P w K mg base (CX1 P w) 6 a.f_m a.fd_m ["self","tables"] (q9 a):=by
 have G_am:=QR (P:=P) (w:=w) (base:=base) T;have G_an:=qaM (P:=P) (w:=w) (base:=base) T;refine T.d_m.F.okX JW (fun vs H Q E h=>?_) (fun cdv A outer s H vs Q E hr h=>?_)
 · obtain⟨x,C,dx,tb,nm,pl,lo,hi,rfl,hC,hx,kk⟩:=h;rfl
 · obtain⟨x,C,dx,tb,nm,pl,lo,hi,rfl,hC,hx,kk⟩:=h;have hu:=qH hr;have h_am:Room (5) _:=hr.mono (by decide);have h_an:Room (3+1) _:=hr.mono (by decide)
   refine⟨_,(qe (qO (qw (qgo hu) (zl (pv 0) rfl) (pv 1) (by with_unfolding_all rfl))
       (qf (qhX throws_cx rfl (qh1 T.X_NoPlace G_an h_an rfl T.g_NoPlace T.d_an.b (qa (zl (pv 0) rfl) qb))))
       qy)
     (qf (qt (zV (Jc hu (pv 1) (zl (pv 0) rfl) (fun _ _=>rfl)) T.cl_Table T.d_am.mt G_am h_am T.d_am.b .nil qq (qa (zl (pv 0) rfl) (qa (zl (pv 0) rfl) qb)))))),?_⟩
   try dsimp only [zb,Cx.nox]
   obtain⟨cl,n_place,n_low,n_high⟩:Cls K C∧NoAttr K C "place"∧NoAttr K C "low"∧NoAttr K C "high":=by
     rcases hC with rfl|rfl
     · exact⟨T.cl_Between,T.n_Between_place,T.n_Between_low,T.n_Between_high⟩
     · exact⟨T.cl_Read,T.n_Read_place,T.n_Read_low,T.n_Read_high⟩
   rcases kk with ⟨ta,rows,dg,tbr,good,hlo,hhi,kk⟩|⟨dg,kz⟩
   · refine⟨_,rfl,x,_,dx,_,_,rfl,hx,cl,n_place,rfl,_,rfl,tb,_,rfl,dg,_,rfl,qS rfl ?_⟩;obtain⟨k0,dt,zs0,ht,hk0,tp0⟩:=id tbr;refine⟨_,rfl,_,rfl,x,_,dx,_,_,rfl,hx,cl,n_place,rfl,tb,_,rfl,dg,ta,dt,_,rfl,ht,qg4 _ (by decide),?_⟩;exact⟨_,rfl,x,_,dx,_,_,rfl,hx,cl,n_low,rfl,_,rfl,x,_,dx,_,_,rfl,hx,cl,n_high,rfl,ta,rows,lo,hi,rfl,tbr,good,hlo,hhi,kk⟩
   · refine⟨_,rfl,x,_,dx,_,_,rfl,hx,cl,n_place,rfl,_,rfl,tb,_,rfl,dg,_,rfl,Ji rfl ?_⟩;refine⟨_,rfl,x,_,dx,_,_,rfl,hx,cl,n_place,rfl,Nat.le_of_ble_eq_true rfl,fun ea fea=>⟨ea,_,rfl,qc,fun dx' fdx ne=>?_⟩⟩;rw[qj ne]at fdx;exact⟨rfl,ea,_,_,rfl,T.X_NoPlace.c.xi,(qj (Ne.symm ne)).trans qc,Rz.sure kz fea fdx ne⟩
end
theorem jU {l:List Addr} (n:l.Nodup) {i j:Nat}{x y:Addr} (hi:l[i]?=some x) (hj:l[j]?=some y) (h:i≠j):x≠y:=by
 intro e;subst e;obtain⟨h1,e1⟩:=List.getElem?_eq_some_iff.mp hi;obtain⟨h2,e2⟩:=List.getElem?_eq_some_iff.mp hj;exact h ((List.getElem_inj n).mp (e1.trans e2.symm))
theorem qF {H G:Hp}{l:Addr}{o:HO} (h:upd H l o=G) (f:H l=none):Same H G∧G l=some o:=by
 subst h;exact⟨Same.new o f,qc⟩
theorem qfX {i:Nat}{v:V}{u:TS}{D:qfx}{σ:L2.St}{H:Hp} (h:u D (σ.set i (some v)) H):qlN (qlA (tC v) (qir i)) u D σ H:=h
theorem Jk {A:List (Int×Int)}{i:Nat}{x:Int×Int} (h:A[i]?=some x):A.drop i=x::A.drop (i+1):=by
 obtain⟨hi,e⟩:=List.getElem?_eq_some_iff.mp h;rw[← e];exact List.drop_eq_getElem_cons hi
theorem jW {A:List (Int×Int)} (c:qR A) {i:Nat}{x:Int×Int} (h:A[i]?=some x):∀ u∈A.drop (i+1),x.2+1 < u.1:=fun u m=>by
 obtain⟨k,hk,e⟩:=List.mem_iff_getElem.mp m;rw[List.getElem_drop]at e;obtain⟨hi,ex⟩:=List.getElem?_eq_some_iff.mp h;have hk':i+1+k < A.length:=by rw[List.length_drop]at hk;omega
 have:=List.pairwise_iff_getElem.mp c.2 i (i+1+k) hi hk' (by omega)
 rw[ex,e]at this;exact this
theorem mem_cons2 {x:Int×Int}{A:List (Int×Int)}{n:Int}:Mem (x::A) n↔(x.1≤n∧n≤x.2)∨Mem A n:=by
 constructor
 · rintro⟨w,m,h⟩;rcases List.mem_cons.mp m with e|m
   · exact .inl (e▸h)
   · exact .inr ⟨w,m,h⟩
 · rintro (h|⟨w,m,h⟩)
   · exact⟨x,List.mem_cons_self,h⟩
   · exact⟨w,List.mem_cons_of_mem _ m,h⟩
theorem mem_snoc2 {x:Int×Int}{A:List (Int×Int)}{n:Int}:Mem (A++[x]) n↔Mem A n∨(x.1≤n∧n≤x.2):=by
 constructor
 · rintro⟨w,m,h⟩;rcases List.mem_append.mp m with m|m
   · exact .inl ⟨w,m,h⟩
   · exact .inr (List.mem_singleton.mp m▸h)
 · rintro (⟨w,m,h⟩|h)
   · exact⟨w,List.mem_append_left _ m,h⟩
   · exact⟨x,List.mem_append_right _ (List.mem_singleton.mpr rfl),h⟩
structure BI (A B:List (Int×Int)) (i j:Nat) (t:List (Int×Int)):Prop where
 can:qR t
 sub:∀ n,Mem t n->Mem A n∧Mem B n
 cov:∀ n,Mem A n->Mem B n->Mem t n∨(Mem (A.drop i) n∧Mem (B.drop j) n)
 sep:∀ w∈t,∀ x y,A[i]?=some x->B[j]?=some y->w.2+1 < x.1∨w.2+1 < y.1
 len:t.length≤i+j
abbrev mx2 (x y:Int):Int:=if y > x then y else x
abbrev mn2 (x y:Int):Int:=if y < x then y else x
abbrev bt (x y:Int×Int) (t:List (Int×Int)):List (Int×Int):=if mx2 x.1 y.1≤mn2 x.2 y.2 then t++[(mx2 x.1 y.1,mn2 x.2 y.2)] else t
theorem BI.mid {A B:List (Int×Int)}{i j:Nat}{t:List (Int×Int)}{x y:Int×Int} (b:BI A B i j t) (hx:A[i]?=some x) (hy:B[j]?=some y):qR (bt x y t)∧(∀ n,Mem (bt x y t) n->Mem A n∧Mem B n)∧(∀ n,Mem t n∨((x.1≤n∧n≤x.2)∧(y.1≤n∧n≤y.2))->Mem (bt x y t) n)∧(bt x y t).length≤i+j+1:=by
 have h1:x.1≤mx2 x.1 y.1∧y.1≤mx2 x.1 y.1∧(mx2 x.1 y.1=x.1∨mx2 x.1 y.1=y.1):=by unfold mx2;split<;>omega
 have h2:mn2 x.2 y.2≤x.2∧mn2 x.2 y.2≤y.2∧(mn2 x.2 y.2=x.2∨mn2 x.2 y.2=y.2):=by unfold mn2;split<;>omega
 have mx:=List.mem_of_getElem? hx;have my:=List.mem_of_getElem? hy;unfold bt;generalize mx2 x.1 y.1=lo at *;generalize mn2 x.2 y.2=hi at *;split
 · rename_i le
   refine⟨⟨fun w m=>?_,List.pairwise_append.mpr ⟨b.can.2,List.pairwise_singleton _ _,fun u mu v mv=>?_⟩⟩,fun n h=>?_,fun n h=>mem_snoc2.mpr ?_,?_⟩
   · rcases List.mem_append.mp m with m|m
     · exact b.can.1 w m
     · rw[List.mem_singleton.mp m];exact le
   · rw[List.mem_singleton.mp mv];show u.2+1 < lo;rcases b.sep u mu x y hx hy with z|z<;>omega
   · rcases mem_snoc2.mp h with h|h
     · exact b.sub n h
     · have h3:lo≤n:=h.1;have h4:n≤hi:=h.2;exact⟨⟨x,mx,by omega,by omega⟩,⟨y,my,by omega,by omega⟩⟩
   · rcases h with h|h
     · exact .inl h
     · refine .inr ⟨?_,?_⟩
       · show lo≤n;omega
       · show n≤hi;omega
   · rw[List.length_append];have:=b.len;show t.length+1≤_;omega
 · rename_i le
   refine⟨b.can,b.sub,fun n h=>?_,by have:=b.len;omega⟩;rcases h with h|h
   · exact h
   · omega
theorem BI.stepA {A B:List (Int×Int)} (cA:qR A) (cB:qR B) {i j:Nat}{t:List (Int×Int)}{x y:Int×Int} (b:BI A B i j t) (hx:A[i]?=some x) (hy:B[j]?=some y) (lt:x.2 < y.2):BI A B (i+1) j (bt x y t):=by
 obtain⟨m1,m2,m3,m4⟩:=b.mid hx hy;have gA:=jW cA hx;have gB:=jW cB hy;refine⟨m1,m2,fun n a1 a2=>?_,fun w mw x' y' hx' hy'=>?_,by omega⟩
 · rcases b.cov n a1 a2 with h|⟨h,h'⟩
   · exact .inl (m3 n (.inl h))
   · rw[Jk hx]at h;rcases mem_cons2.mp h with h|h
     · have h'':=h';rw[Jk hy]at h'';rcases mem_cons2.mp h'' with k|⟨u,mu,k1,k2⟩
       · exact .inl (m3 n (.inr ⟨h,k⟩))
       · have:=gB u mu
         omega
     · exact .inr ⟨h,h'⟩
 · have gx:=gA x' (by rw[Jk hx'];exact List.mem_cons_self);have x0:=cA.1 x (List.mem_of_getElem? hx);rw[hy]at hy';cases hy';unfold bt at mw;split at mw
   · rcases List.mem_append.mp mw with mw|mw
     · rcases b.sep w mw x y hx hy with z|z
       · exact .inl (by omega)
       · exact .inr z
     · rw[List.mem_singleton.mp mw];refine .inl ?_;show mn2 x.2 y.2+1 < x'.1;unfold mn2;split<;>omega
   · rcases b.sep w mw x y hx hy with z|z
     · exact .inl (by omega)
     · exact .inr z
theorem BI.stepB {A B:List (Int×Int)} (cA:qR A) (cB:qR B) {i j:Nat}{t:List (Int×Int)}{x y:Int×Int} (b:BI A B i j t) (hx:A[i]?=some x) (hy:B[j]?=some y) (lt:¬ x.2 < y.2):BI A B i (j+1) (bt x y t):=by
 obtain⟨m1,m2,m3,m4⟩:=b.mid hx hy;have gA:=jW cA hx;have gB:=jW cB hy;refine⟨m1,m2,fun n a1 a2=>?_,fun w mw x' y' hx' hy'=>?_,by omega⟩
 · rcases b.cov n a1 a2 with h|⟨h,h'⟩
   · exact .inl (m3 n (.inl h))
   · rw[Jk hy]at h';rcases mem_cons2.mp h' with k|k
     · have h'':=h;rw[Jk hx]at h'';rcases mem_cons2.mp h'' with k'|⟨u,mu,k1,k2⟩
       · exact .inl (m3 n (.inr ⟨k',k⟩))
       · have:=gA u mu
         omega
     · exact .inr ⟨h,k⟩
 · have gy:=gB y' (by rw[Jk hy'];exact List.mem_cons_self);have y0:=cB.1 y (List.mem_of_getElem? hy);rw[hx]at hx';cases hx';unfold bt at mw;split at mw
   · rcases List.mem_append.mp mw with mw|mw
     · rcases b.sep w mw x y hx hy with z|z
       · exact .inl z
       · exact .inr (by omega)
     · rw[List.mem_singleton.mp mw];refine .inr ?_;show mn2 x.2 y.2+1 < y'.1;unfold mn2;split<;>omega
   · rcases b.sep w mw x y hx hy with z|z
     · exact .inl z
     · exact .inr (by omega)
theorem BI.fin {A B:List (Int×Int)}{i j:Nat}{t:List (Int×Int)} (b:BI A B i j t) (h:A.length≤i∨B.length≤j):∀ n,Mem t n↔Mem A n∧Mem B n:=fun n=>by
 refine⟨b.sub n,fun zz_=>?_⟩;obtain⟨h1,h2⟩:=zz_;rcases b.cov n h1 h2 with z|⟨z1,z2⟩
 · exact z
 · rcases h with h|h
   · rw[List.drop_eq_nil_of_le h]at z1;obtain⟨_,m,_⟩:=z1;cases m
   · rw[List.drop_eq_nil_of_le h]at z2;obtain⟨_,m,_⟩:=z2;cases m
theorem BI.zero (A B:List (Int×Int)):BI A B 0 0 []:=⟨⟨(fun _ m=>nomatch m),List.Pairwise.nil⟩,(fun _ ⟨_,m,_⟩=>nomatch m),fun _ h1 h2=>.inr ⟨h1,h2⟩,(fun _ m=>nomatch m),Nat.zero_le _⟩
theorem qaf {n:Nat} (h:n≤20000):n < sizeLine:=Nat.lt_of_le_of_lt h (by decide)
inductive qcJ (vs:List V) (H:Hp) (Q:VK):Prop
 | mk (p q:Addr) (A B:List (Int×Int)) (h1:vs=[.ref p,.ref q]) (h2:Rs H p A) (h3:Rs H q B) (h4:qR A) (h5:qR B) (h6:A.length+B.length≤20000) (h7:∀ (d:Addr) (r:List (Int×Int)) (H':Hp),H d=none->Same H H'->Rs H' d r->qR r->r.length≤A.length+B.length->(∀ n,Mem r n↔Mem A n∧Mem B n)->Q (.ref d) H'):qcJ vs H Q
def qfU:Sp:=fun vs H Q _=>qcJ vs H Q
section
variable {P:Program}{w:World}{K:Frag}{mg:Str->Option Value}{base:Heap}
theorem qjV {a:Ad} (T:Txt K mg a):qD P w K mg base CX0 1 a.f_M a.fd_M ["one","other"] qfU:=by
 refine T.d_M.F.ok sc_both (fun vs H Q E h=>?_) (fun cdv A outer s H vs Q E hr h=>?_)
 · obtain⟨p,q,A,B,rfl,⟨zp,hp,tp⟩,⟨zq,hq,tq⟩,cA,cB,few,kk⟩:=h;rfl
 · obtain⟨p,q,A,B,rfl,⟨zp,hp,tp⟩,⟨zq,hq,tq⟩,cA,cB,few,kk⟩:=h;have hu:=qH hr;have hU:=hr.units
   refine⟨_,(qe (qx (i:=2) sc_both.nd rfl (Or.inl rfl) (qJ qb))
     (qe (qx (i:=3) sc_both.nd rfl (Or.inl rfl) qd)
     (qe (qx (i:=4) sc_both.nd rfl (Or.inl rfl) qd)
     (qe (qhW PassesOwn.never (PW.pt (qaG (qw qfg (pv 3) (qm qW (by rfl) T.n_len qM (qa (pv 0) qb)) (qC _)) (Ja (qw qfg (pv 4) (qm qW (by rfl) T.n_len qM (qa (pv 1) qb)) (qC _)))))
       (qe (qx (i:=5) sc_both.nd rfl (Or.inl rfl) (qm (zh rfl) (by rfl) T.n_max zi (qa (qz (r:=rIx K) qp (qz (r:=rIx K) qp (pv 0) (pv 3) (fun _ _=>rfl)) qd (fun _ _=>rfl)) (qa (qz (r:=rIx K) qp (qz (r:=rIx K) qp (pv 1) (pv 4) (fun _ _=>rfl)) qd (fun _ _=>rfl)) qb))))
       (qe (qx (i:=6) sc_both.nd rfl (Or.inl rfl) (qm (zC rfl) (by rfl) T.n_min zD (qa (qz (r:=rIx K) qp (qz (r:=rIx K) qp (pv 0) (pv 3) (fun _ _=>rfl)) qd (fun _ _=>rfl)) (qa (qz (r:=rIx K) qp (qz (r:=rIx K) qp (pv 1) (pv 4) (fun _ _=>rfl)) qd (fun _ _=>rfl)) qb))))
       (qe (qO (qw JX (pv 5) (pv 6) (qC _))
         (qf (qI (ZG PySem.F.plainAttrs_list PySem.F.slot_list_append PySem.F.type_list_append qY (pv 2) (qa (qV (qa (pv 5) (qa (pv 6) qb))) qb))))
         qy)
       (qf (qO (qw qfg (qz (r:=rIx K) qp (qz (r:=rIx K) qp (pv 0) (pv 3) (fun _ _=>rfl)) qd (fun _ _=>rfl)) (qz (r:=rIx K) qp (qz (r:=rIx K) qp (pv 1) (pv 4) (fun _ _=>rfl)) qd (fun _ _=>rfl)) (qC _))
         (qf (qi0 (i:=3) sc_both.nd rfl (Or.inl rfl) qd qi9))
         (qf (qi0 (i:=4) sc_both.nd rfl (Or.inl rfl) qd qi9))))))))
     (qf (qt (pv 2))))))),?_⟩
   try dsimp only [zb,Cx.nox]
   refine⟨qk (Nat.le_of_ble_eq_true rfl),fun d fd=>?_⟩;generalize hG:upd H d _=G;obtain⟨S0,e0⟩:=qF hG fd;clear hG;(try unfold qK);(try dsimp only);refine qfX (qfX ?_);refine qL (t:=qiG _ _) (fun σ' H'=>∃ (s3 s4 s5 s6:Option V) (t:List (Int×Int)),σ'=[some (.ref p),some (.ref q),some (.ref d),s3,s4,s5,s6]∧Same H H'∧Rs H' d t∧qR t∧t.length≤A.length+B.length∧∀ n,Mem t n↔Mem A n∧Mem B n) (fun N hN=>?_) ?_
   · refine⟨fun m σ H2=>∃ (i j:Nat) (s5 s6:Option V) (t:List (Int×Int)),σ=[some (.ref p),some (.ref q),some (.ref d),some (.int (i:Int)),some (.int (j:Int)),s5,s6]∧Same H H2∧Rs H2 d t∧BI A B i j t∧i≤A.length∧j≤B.length∧m=(A.length - i)+(B.length - j),⟨_,0,0,none,none,[],rfl,S0,⟨[],e0,.nil⟩,.zero A B,Nat.zero_le _,Nat.zero_le _,rfl⟩,?_⟩;rintro m σ H2 ⟨i,j,s5,s6,t,rfl,S2,⟨zt,ht,tt⟩,bi,hi,hj,rfl⟩;have lp:zp.length=A.length:=tp.1;have lq:zq.length=B.length:=tq.1;have hp2:=S2 _ _ hp;have hq2:=S2 _ _ hq;refine⟨_,rfl,_,rfl,_,_,rfl,.inl ⟨_,SqL.of hp2,rfl⟩,_,_,rfl,rfl,_,rfl,zP (fun g1=>?_) (fun g1=>?_)⟩
     case refine_2=>exact qS rfl (hN _ _ ⟨_,_,_,_,t,rfl,S2,⟨zt,ht,tt⟩,bi.can,Nat.le_trans bi.len (by omega),bi.fin (.inl (by omega))⟩)
     refine⟨_,rfl,_,rfl,_,_,rfl,.inl ⟨_,SqL.of hq2,rfl⟩,_,_,rfl,rfl,_,rfl,zP (fun g2=>?_) (fun g2=>?_)⟩
     case refine_2=>exact hN _ _ ⟨_,_,_,_,t,rfl,S2,⟨zt,ht,tt⟩,bi.can,Nat.le_trans bi.len (by omega),bi.fin (.inr (by omega))⟩
     refine⟨fun σ' H'=>∃ m',m' < (A.length - i)+(B.length - j)∧(fun m σ H2=>∃ (i j:Nat) (s5 s6:Option V) (t:List (Int×Int)),σ=[some (.ref p),some (.ref q),some (.ref d),some (.int (i:Int)),some (.int (j:Int)),s5,s6]∧Same H H2∧Rs H2 d t∧BI A B i j t∧i≤A.length∧j≤B.length∧m=(A.length - i)+(B.length - j)) m' σ' H',fun _ _ h=>h,?_⟩;obtain⟨x,hx⟩:∃ x,A[i]?=some x:=⟨_,List.getElem?_eq_getElem (by omega)⟩
     obtain⟨y,hy⟩:∃ y,B[j]?=some y:=⟨_,List.getElem?_eq_getElem (by omega)⟩
     obtain⟨u,ha,hu0⟩:=tp.at_ hx;obtain⟨v,hb,hv0⟩:=tq.at_ hy;have hu:=S2 _ _ hu0;have hv:=S2 _ _ hv0;refine⟨_,rfl,_,rfl,.inl ⟨p,_,_,_,rfl,rfl,SqL.of hp2,zo ha,.inr (.inl ⟨u,_,_,_,rfl,rfl,SqT.of hu,rfl,_,rfl,_,rfl,.inl ⟨q,_,_,_,rfl,rfl,SqL.of hq2,zo hb,.inr (.inl ⟨v,_,_,_,rfl,rfl,SqT.of hv,rfl,_,_,rfl,?_⟩)⟩⟩)⟩⟩;(try unfold qK);(try dsimp only);refine⟨_,rfl,_,rfl,.inl ⟨p,_,_,_,rfl,rfl,SqL.of hp2,zo ha,.inr (.inl ⟨u,_,_,_,rfl,rfl,SqT.of hu,rfl,_,rfl,_,rfl,.inl ⟨q,_,_,_,rfl,rfl,SqL.of hq2,zo hb,.inr (.inl ⟨v,_,_,_,rfl,rfl,SqT.of hv,rfl,_,_,rfl,?_⟩)⟩⟩)⟩⟩;(try unfold qK);(try dsimp only);have lt:zt.length=t.length:=tt.1;have bl:=bi.len;refine qL (t:=qiJ _ _ _) (fun σ' H'=>σ'=[some (.ref p),some (.ref q),some (.ref d),some (.int (i:Int)),some (.int (j:Int)),some (.int (mx2 x.1 y.1)),some (.int (mn2 x.2 y.2))]∧Same H H'∧Rs H' d (bt x y t)) (fun N hN=>?_) ?_
     · refine⟨_,rfl,_,rfl,_,_,rfl,rfl,_,rfl,zP (fun g3=>?_) (fun g3=>hN _ _ ⟨rfl,S2,by unfold bt;rw[if_neg g3];exact⟨zt,ht,tt⟩⟩)⟩;refine⟨_,rfl,.inl ⟨rfl,_,SqL.of ht⟩,_,rfl,_,rfl,qk (Nat.le_of_ble_eq_true rfl),fun w fw=>?_⟩;generalize hG:upd H2 w _=G2;obtain⟨S3,e3⟩:=qF hG fw;clear hG;refine⟨d,_,_,rfl,rfl,S3 _ _ ht,qaf (by omega),?_⟩;refine hN _ _ ⟨rfl,(S2.trans S3).put fd _,?_⟩;unfold bt;rw[if_pos g3];exact⟨_,qc,((tt.same S3).snoc (p:=(mx2 x.1 y.1,mn2 x.2 y.2)) e3).put (S3 _ _ ht)⟩
     rintro _ H3 ⟨rfl,S3,R3⟩;have hp2:=S3 _ _ hp;have hq2:=S3 _ _ hq;have hu:=S3 _ _ hu0;have hv:=S3 _ _ hv0;refine⟨_,rfl,_,rfl,.inl ⟨p,_,_,_,rfl,rfl,SqL.of hp2,zo ha,.inr (.inl ⟨u,_,_,_,rfl,rfl,SqT.of hu,rfl,_,rfl,_,rfl,.inl ⟨q,_,_,_,rfl,rfl,SqL.of hq2,zo hb,.inr (.inl ⟨v,_,_,_,rfl,rfl,SqT.of hv,rfl,_,_,rfl,rfl,_,rfl,zP (fun g4=>?_) (fun g4=>?_)⟩)⟩⟩)⟩⟩
     · refine⟨_,rfl,_,_,rfl,rfl,?_⟩;exact⟨_,(by omega:(A.length - (i+1))+(B.length - j) < _),i+1,j,_,_,_,rfl,S3,R3,bi.stepA cA cB hx hy g4,by omega,hj,rfl⟩
     · refine⟨_,rfl,_,_,rfl,rfl,?_⟩;exact⟨_,(by omega:(A.length - i)+(B.length - (j+1)) < _),i,j+1,_,_,_,rfl,S3,R3,bi.stepB cA cB hx hy g4,hi,by omega,rfl⟩
   rintro _ H2 ⟨s3,s4,s5,s6,t,rfl,S2,R2,c2,l2,m2⟩;exact⟨_,rfl,kk d t H2 fd S2 R2 c2 l2 m2⟩
end
theorem qbs {K:Frag}{mg:Str->Option Value}{a:Ad} (T:Txt K mg a):kitOne K (.ref a.c_Entry) (.ref a.c_Entry)=some true:=by
 rw[qZ T.mr_Entry rfl T.t_Entry];simp
theorem qbr {K:Frag}{mg:Str->Option Value}{a:Ad} (T:Txt K mg a):kitOne K (.ref a.c_Entry) (.ref a.c_Joint)=some false:=by
 rw[qZ T.mr_Entry rfl T.t_Joint];simp[jU T.ndc (i:=5) (j:=0) rfl rfl (by decide)]
theorem qaZ {K:Frag}{mg:Str->Option Value}{a:Ad} (T:Txt K mg a):kitOne K (.ref a.c_Entry) (.ref a.c_Sifted)=some false:=by
 rw[qZ T.mr_Entry rfl T.t_Sifted];simp[jU T.ndc (i:=6) (j:=0) rfl rfl (by decide)]
theorem qaW {K:Frag}{mg:Str->Option Value}{a:Ad} (T:Txt K mg a):kitOne K (.ref a.c_Within) (.ref a.c_Entry)=some true:=by
 rw[qZ T.mr_Within rfl T.t_Entry];simp
theorem J7 {K:Frag}{mg:Str->Option Value}{a:Ad} (T:Txt K mg a):kitOne K (.ref a.c_Within) (.ref a.c_Within)=some true:=by
 rw[qZ T.mr_Within rfl T.t_Within];simp
theorem qbp {K:Frag}{mg:Str->Option Value}{a:Ad} (T:Txt K mg a):kitOne K (.ref a.c_Within) (.ref a.c_Read)=some false:=by
 rw[qZ T.mr_Within rfl T.t_Read];simp[jU T.ndc (i:=4) (j:=1) rfl rfl (by decide),jU T.ndc (i:=4) (j:=0) rfl rfl (by decide)]
theorem qaV {K:Frag}{mg:Str->Option Value}{a:Ad} (T:Txt K mg a):kitOne K (.ref a.c_Within) (.ref a.c_Joint)=some false:=by
 rw[qZ T.mr_Within rfl T.t_Joint];simp[jU T.ndc (i:=5) (j:=1) rfl rfl (by decide),jU T.ndc (i:=5) (j:=0) rfl rfl (by decide)]
theorem J8 {K:Frag}{mg:Str->Option Value}{a:Ad} (T:Txt K mg a):kitOne K (.ref a.c_Within) (.ref a.c_Sifted)=some false:=by
 rw[qZ T.mr_Within rfl T.t_Sifted];simp[jU T.ndc (i:=6) (j:=1) rfl rfl (by decide),jU T.ndc (i:=6) (j:=0) rfl rfl (by decide)]
theorem qdY {K:Frag}{mg:Str->Option Value}{a:Ad} (T:Txt K mg a):kitOne K (.ref a.c_At) (.ref a.c_Entry)=some true:=by
 rw[qZ T.mr_At rfl T.t_Entry];simp
theorem qdo {K:Frag}{mg:Str->Option Value}{a:Ad} (T:Txt K mg a):kitOne K (.ref a.c_At) (.ref a.c_Within)=some true:=by
 rw[qZ T.mr_At rfl T.t_Within];simp
theorem qfq {K:Frag}{mg:Str->Option Value}{a:Ad} (T:Txt K mg a):kitOne K (.ref a.c_At) (.ref a.c_Read)=some false:=by
 rw[qZ T.mr_At rfl T.t_Read];simp[jU T.ndc (i:=4) (j:=2) rfl rfl (by decide),jU T.ndc (i:=4) (j:=1) rfl rfl (by decide),jU T.ndc (i:=4) (j:=0) rfl rfl (by decide)]
theorem qdX {K:Frag}{mg:Str->Option Value}{a:Ad} (T:Txt K mg a):kitOne K (.ref a.c_At) (.ref a.c_Joint)=some false:=by
 rw[qZ T.mr_At rfl T.t_Joint];simp[jU T.ndc (i:=5) (j:=2) rfl rfl (by decide),jU T.ndc (i:=5) (j:=1) rfl rfl (by decide),jU T.ndc (i:=5) (j:=0) rfl rfl (by decide)]
theorem qdp {K:Frag}{mg:Str->Option Value}{a:Ad} (T:Txt K mg a):kitOne K (.ref a.c_At) (.ref a.c_Sifted)=some false:=by
 rw[qZ T.mr_At rfl T.t_Sifted];simp[jU T.ndc (i:=6) (j:=2) rfl rfl (by decide),jU T.ndc (i:=6) (j:=1) rfl rfl (by decide),jU T.ndc (i:=6) (j:=0) rfl rfl (by decide)]
theorem qab {K:Frag}{mg:Str->Option Value}{a:Ad} (T:Txt K mg a):kitOne K (.ref a.c_Between) (.ref a.c_Entry)=some true:=by
 rw[qZ T.mr_Between rfl T.t_Entry];simp
theorem qaa {K:Frag}{mg:Str->Option Value}{a:Ad} (T:Txt K mg a):kitOne K (.ref a.c_Between) (.ref a.c_Joint)=some false:=by
 rw[qZ T.mr_Between rfl T.t_Joint];simp[jU T.ndc (i:=5) (j:=3) rfl rfl (by decide),jU T.ndc (i:=5) (j:=0) rfl rfl (by decide)]
theorem Jh {K:Frag}{mg:Str->Option Value}{a:Ad} (T:Txt K mg a):kitOne K (.ref a.c_Between) (.ref a.c_Sifted)=some false:=by
 rw[qZ T.mr_Between rfl T.t_Sifted];simp[jU T.ndc (i:=6) (j:=3) rfl rfl (by decide),jU T.ndc (i:=6) (j:=0) rfl rfl (by decide)]
theorem qcx {K:Frag}{mg:Str->Option Value}{a:Ad} (T:Txt K mg a):kitOne K (.ref a.c_Read) (.ref a.c_Entry)=some true:=by
 rw[qZ T.mr_Read rfl T.t_Entry];simp
theorem qdn {K:Frag}{mg:Str->Option Value}{a:Ad} (T:Txt K mg a):kitOne K (.ref a.c_Read) (.ref a.c_Read)=some true:=by
 rw[qZ T.mr_Read rfl T.t_Read];simp
theorem qcw {K:Frag}{mg:Str->Option Value}{a:Ad} (T:Txt K mg a):kitOne K (.ref a.c_Read) (.ref a.c_Joint)=some false:=by
 rw[qZ T.mr_Read rfl T.t_Joint];simp[jU T.ndc (i:=5) (j:=4) rfl rfl (by decide),jU T.ndc (i:=5) (j:=3) rfl rfl (by decide),jU T.ndc (i:=5) (j:=0) rfl rfl (by decide)]
theorem qbq {K:Frag}{mg:Str->Option Value}{a:Ad} (T:Txt K mg a):kitOne K (.ref a.c_Read) (.ref a.c_Sifted)=some false:=by
 rw[qZ T.mr_Read rfl T.t_Sifted];simp[jU T.ndc (i:=6) (j:=4) rfl rfl (by decide),jU T.ndc (i:=6) (j:=3) rfl rfl (by decide),jU T.ndc (i:=6) (j:=0) rfl rfl (by decide)]
theorem qaY {K:Frag}{mg:Str->Option Value}{a:Ad} (T:Txt K mg a):kitOne K (.ref a.c_Sifted) (.ref a.c_Entry)=some true:=by
 rw[qZ T.mr_Sifted rfl T.t_Entry];simp
theorem qaX {K:Frag}{mg:Str->Option Value}{a:Ad} (T:Txt K mg a):kitOne K (.ref a.c_Sifted) (.ref a.c_Joint)=some false:=by
 rw[qZ T.mr_Sifted rfl T.t_Joint];simp[jU T.ndc (i:=5) (j:=6) rfl rfl (by decide),jU T.ndc (i:=5) (j:=0) rfl rfl (by decide)]
theorem J9 {K:Frag}{mg:Str->Option Value}{a:Ad} (T:Txt K mg a):kitOne K (.ref a.c_Sifted) (.ref a.c_Sifted)=some true:=by
 rw[qZ T.mr_Sifted rfl T.t_Sifted];simp
abbrev fsJ (nm:Str) (l:Addr):List (Str×V):=[("name",.str nm),("kept_parts",.ref l)]
abbrev fsS (nm:Str) (p f:Addr):List (Str×V):=[("name",.str nm),("part",.ref p),("keeps",.ref f)]
def Sfd (a:Ad) (H:Hp) (x:Addr) (nm:Str):Prop:=∃ dx p f,H x=some (.ins a.c_Sifted dx (fsS nm p f))
inductive Pt (a:Ad) (H:Hp) (x:Addr):Prop
 | en {wd nm pl:Str}{lo hi:Int}:En a H x wd nm pl lo hi->Pt a H x
 | sf {nm:Str}:Sfd a H x nm->Pt a H x
theorem qj9 {K:Frag}{mg:Str->Option Value}{a:Ad} (T:Txt K mg a) {H:Hp}{x:Addr}{wd nm pl:Str}{lo hi:Int} (en:En a H x wd nm pl lo hi):∃ C,qdI K H (.ref x) (.ref C)∧kitOne K (.ref C) (.ref a.c_Entry)=some true∧kitOne K (.ref C) (.ref a.c_Joint)=some false∧kitOne K (.ref C) (.ref a.c_Sifted)=some false:=by
 cases en with
 | @any dx _ hx=>exact⟨_,T.io_Entry.ty hx,qbs T,qbr T,qaZ T⟩
 | @within dx _ _ _ hx=>exact⟨_,T.io_Within.ty hx,qaW T,qaV T,J8 T⟩
 | @at_ dx _ _ hx=>exact⟨_,T.io_At.ty hx,qdY T,qdX T,qdp T⟩
 | @between dx _ _ _ _ hx=>exact⟨_,T.io_Between.ty hx,qab T,qaa T,Jh T⟩
 | @read dx _ _ _ hx=>exact⟨_,T.io_Read.ty hx,qcx T,qcw T,qbq T⟩
theorem qkR {K:Frag}{mg:Str->Option Value}{a:Ad} (T:Txt K mg a) {H:Hp}{x:Addr} (h:Pt a H x):∃ C,qdI K H (.ref x) (.ref C)∧kitOne K (.ref C) (.ref a.c_Entry)=some true∧kitOne K (.ref C) (.ref a.c_Joint)=some false:=by
 cases h with
 | en h=>obtain⟨C,h1,h2,h3,_⟩:=qj9 T h;exact⟨C,h1,h2,h3⟩
 | sf h=>obtain⟨dx,p,f,hx⟩:=h;exact⟨_,T.io_Sifted.ty hx,qaY T,qaX T⟩
theorem En.mp {a:Ad}{H H':Hp}{x:Addr}{wd nm pl:Str}{lo hi:Int} (h:En a H x wd nm pl lo hi) (k:∀ C d fs,H x=some (.ins C d fs)->fs≠[]->H' x=some (.ins C d fs)):En a H' x wd nm pl lo hi:=by
 cases h with
 | any e=>exact .any (k _ _ _ e (by simp))
 | within e=>exact .within (k _ _ _ e (by simp))
 | at_ e=>exact .at_ (k _ _ _ e (by simp))
 | between e=>exact .between (k _ _ _ e (by simp))
 | read e=>exact .read (k _ _ _ e (by simp))
theorem Pt.mp {a:Ad}{H H':Hp}{x:Addr} (h:Pt a H x) (k:∀ C d fs,H x=some (.ins C d fs)->fs≠[]->H' x=some (.ins C d fs)):Pt a H' x:=by
 cases h with
 | en h=>exact .en (h.mp k)
 | sf h=>obtain⟨dx,p,f,hx⟩:=h;exact .sf ⟨dx,p,f,k _ _ _ hx (by simp)⟩
theorem qk7 {H H':Hp}{x y C dx:Addr} (hy:H y=some (.ins C dx [])) (b:But y H H'):∀ C d fs,H x=some (.ins C d fs)->fs≠[]->H' x=some (.ins C d fs):=fun C d fs e ne=>b _ _ e fun z=>by
 rw[z,hy]at e;cases e;exact ne rfl
theorem qlL {H H':Hp}{x t:Addr}{ps:Array Value} (ht:H t=some (.tbl ps)) (b:But t H H'):∀ C d fs,H x=some (.ins C d fs)->fs≠[]->H' x=some (.ins C d fs):=fun C d fs e ne=>b _ _ e fun z=>by
 rw[z,ht]at e;cases e
theorem qhm:bootBuiltins "sum"=some (.builtin "sum"):=by decide +kernel
def qmt (ws:List (Int×Int)):Int:=(ws.map fun w=>w.2 - w.1+1).sum
inductive jx (vs:List V) (H:Hp) (Q:VK):Prop
 | mk (q:Addr) (ws:List (Int×Int)) (h1:vs=[.ref q]) (h2:Rs H q ws) (h3:ws.length≤64) (h4:∀ H',Same H H'->Q (.int (qmt ws)) H'):jx vs H Q
def qaj:Sp:=fun vs H Q _=>jx vs H Q
theorem qef {r:List (Int×Int)}{lo hi:Int} (c:qR r) (l:r.length≤1) (m:∀ n,Mem r n↔Mem [(lo,hi)] n) (h:hi - lo < 1000):qmt r≤1000:=by
 cases r with
 | nil=>decide
 | cons w t =>
   cases t with
   | cons _ _=>simp at l
   | nil =>
     have hw:=c.1 w (List.mem_singleton.mpr rfl);obtain⟨u,mu,a1,a2⟩:=(m w.1).mp ⟨w,List.mem_singleton.mpr rfl,Int.le_refl _,hw⟩;obtain⟨v,mv,b1,b2⟩:=(m w.2).mp ⟨w,List.mem_singleton.mpr rfl,hw,Int.le_refl _⟩;rw[List.mem_singleton.mp mu]at a1;rw[List.mem_singleton.mp mv]at b2;show (w.2 - w.1+1)+0≤1000;have a1':lo≤w.1:=a1;have b2':w.2≤hi:=b2;omega
abbrev rfs (xs:List Addr):List V:=xs.map V.ref
inductive Q6 (a:Ad) (vs:List V) (H:Hp) (Q:VK):Prop
 | mk (q:Addr) (xs:List Addr) (h1:vs=[.ref q]) (h2:H q=some (.lst (rfs xs))) (h3:0 < xs.length) (h4:xs.length≤8) (h5:(∀ x∈xs,Pt a H x)) (h6:Q .non H):Q6 a vs H Q
def ZU (a:Ad):Sp:=fun vs H Q _=>Q6 a vs H Q
inductive Zq (a:Ad) (vs:List V) (H:Hp) (Q:VK):Prop
 | mk (x:Addr) (wd nm pl:Str) (lo hi:Int) (h1:vs=[.ref x]) (h2:En a H x wd nm pl lo hi) (h3:(wd="read"∨((wd="within"∨wd="at")∧hi - lo < 1000))) (h4:∀ H',Same H H'->Q .non H'):Zq a vs H Q
def jz (a:Ad):Sp:=fun vs H Q _=>Zq a vs H Q
inductive Zz (a:Ad) (vs:List V) (H:Hp) (Q:VK):Prop
 | mk (x dx q:Addr) (nm:Str) (xs:List Addr) (h1:vs=[.ref x,.str nm,.ref q]) (h2:H x=some (.ins a.c_Joint dx [])) (h3:zc (.str nm)=true) (h4:H q=some (.lst (rfs xs))) (h5:0 < xs.length) (h6:xs.length≤8) (h7:(∀ x∈xs,Pt a H x)) (h8:∀ (l:Addr) (H':Hp),H l=none->But x H H'->H' x=some (.ins a.c_Joint dx (fsJ nm l))->H' l=some (.lst (rfs xs))->Q .non H'):Zz a vs H Q
def jD (a:Ad):Sp:=fun vs H Q _=>Zz a vs H Q
inductive Q8 (a:Ad) (vs:List V) (H:Hp) (Q:VK):Prop
 | mk (x dx p f:Addr) (nm wd pn pl:Str) (lo hi:Int) (h1:vs=[.ref x,.str nm,.ref p,.ref f]) (h2:H x=some (.ins a.c_Sifted dx [])) (h3:zc (.str nm)=true) (h4:En a H p wd pn pl lo hi) (h5:(wd="read"∨((wd="within"∨wd="at")∧hi - lo < 1000))) (h6:∀ H':Hp,But x H H'->H' x=some (.ins a.c_Sifted dx (fsS nm p f))->Q .non H'):Q8 a vs H Q
def ZX (a:Ad):Sp:=fun vs H Q _=>Q8 a vs H Q
inductive Zd (a:Ad) (vs:List V) (H:Hp) (Q:VK):Prop
 | mk (x dx l:Addr) (nm:Str) (xs:List Addr) (h1:vs=[.ref x]) (h2:H x=some (.ins a.c_Joint dx (fsJ nm l))) (h3:H l=some (.lst (rfs xs))) (h4:∀ d,H d=none->Q (.ref d) (upd H d (.lst (rfs xs)))):Zd a vs H Q
def Z2 (a:Ad):Sp:=fun vs H Q _=>Zd a vs H Q
section
variable {P:Program}{w:World}{K:Frag}{mg:Str->Option Value}{base:Heap}
theorem qdR {a:Ad} (T:Txt K mg a):qD P w K mg base CX0 1 a.f_N a.fd_N ["spans"] qaj:=by
 refine T.d_N.F.ok qdP (fun vs H Q E h=>?_) (fun cdv A outer s H vs Q E hr h=>?_)
 · obtain⟨q,ws,rfl,hrs,few,kk⟩:=h;rfl
 · obtain⟨q,ws,rfl,hrs,few,kk⟩:=h;refine⟨_,(qf (qt (qm (r:=qkN K) (qhi rfl) (by rfl) T.n_sum qhm (qa (zJ rfl (CompOk.def ["low","high"] [none,none]) (qX (pv 0)) (fun _ _ _ _ _=>(show PG _ _ (qjd K 2 _) from (zR rfl (qu (qr (i:=0) (show List.Nodup (["low","high"]:List Str) by decide +kernel) rfl (Or.inl rfl)) (qu (qr (i:=1) (show List.Nodup (["low","high"]:List Str) by decide +kernel) rfl (Or.inl rfl)) zn))))) (fun _ _ _ _ _=>Qb) (fun _ _ _ _ _=>(qA QT (qA zK (pv 1) (pv 0)) qd))) qb)))),?_⟩;(try dsimp only [zb,Cx.nox]);obtain⟨zs,hq,tp⟩:=id hrs;refine⟨_,rfl,q,rfl,⟨_,SqL.of hq⟩,fun D fD=>?_⟩;refine zM (K:=K) (a:=q) (xs:=zs) (D:=D) (fun i σ H2=>∃ (s0 s1:Option V),σ=[s0,s1]∧Same H H2∧H2 D=some (.lst (((ws.take i).map fun w=>w.2 - w.1+1).map V.int))) ⟨none,none,rfl,Same.new _ fD,qc⟩ (fun i σ H2 _ ⟨_,_,_,S,_⟩=>SqL.of (S _ _ hq)) ?_ ?_
   · rintro i z σ H2 hz ⟨s0,s1,rfl,S,hD⟩;obtain⟨p,t,hp,rfl,ht⟩:=tp.of hz;have li:i < ws.length:=(List.getElem?_eq_some_iff.mp hp).1;refine⟨t,_,rfl,SqT.of (S _ _ ht),rfl,_,_,rfl,_,_,rfl,rfl,?_⟩;refine⟨_,rfl,_,rfl,_,_,rfl,rfl,.inl ⟨_,_,rfl,rfl,_,hD,qB (by rw[List.length_map,List.length_map,List.length_take];omega),_,_,rfl,S.put fD _,?_⟩⟩;rw[qc,List.take_add_one,hp];simp
   · rintro σ H2 ⟨s0,s1,rfl,S,hD⟩;rw[tp.1,List.take_length]at hD;exact⟨D,_,rfl,SqL.of hD,kk H2 S⟩
theorem qbh {a:Ad} (T:Txt K mg a):qD P w K mg base CX0 1 a.f_O a.fd_O ["parts"] (ZU a):=by
 refine T.d_O.F.ok sc_check_parts (fun vs H Q E h=>?_) (fun cdv A outer s H vs Q E hr h=>?_)
 · obtain⟨q,xs,rfl,hq,h0,h8,en,kk⟩:=h;rfl
 · obtain⟨q,xs,rfl,hq,h0,h8,en,kk⟩:=h;have hU:=hr.units;obtain⟨t_MOST_PARTS,c_MOST_PARTS⟩:=T.g_MOST_PARTS
   refine⟨_,(qe (qO (PW.pt (jn (zu (za (qm zN (by rfl) T.n_isinstance qv (qa (pv 0) (qa (Qc (v:=.ty "list") rfl T.n_list zj rfl) qb))))) (Zg (qw (uEq hU) (qm qW (by rfl) T.n_len qM (qa (pv 0) qb)) qd (qC _)))))
       (qf zm)
       qy)
     (qe (qO (qw qdb (qm qW (by rfl) T.n_len qM (qa (pv 0) qb)) (zI (v:=.int 8) rfl c_MOST_PARTS ⟨_,rfl⟩) (qC _))
       (qf zm)
       qy)
     (qf (zx PassesOwn.never rfl (qX (pv 0)) (qr (i:=1) (sc_check_parts.nd) rfl (Or.inl rfl))
       (qf (qO (PW.pt (jn (zu (za (qm (r:=qkm K) jX (by rfl) T.n_isinstance qv (qa (pv 1) (qa (zI (v:=.ref a.c_Entry) rfl T.g_Entry rfl) qb))))) (Zg (za (qm (r:=qkm K) jX (by rfl) T.n_isinstance qv (qa (pv 1) (qa (zI (v:=.ref a.c_Joint) rfl T.g_Joint rfl) qb)))))))
         (qf zm)
         qy)))))),?_⟩
   try dsimp only [zb,Cx.nox]
   have ty:tyN H (.ref q)=some "list":=by simp only[tyN];rw[hq]
   have lq:(rfs xs).length=xs.length:=List.length_map _;refine⟨_,rfl,_,_,_,rfl,(by decide),ty,true,rfl,qS rfl ?_⟩;refine⟨_,rfl,_,_,rfl,.inl ⟨_,SqL.of hq,rfl⟩,.inl ⟨rfl,_,rfl,zP (fun g=>absurd g ?_) (fun _=>?_)⟩⟩
   · intro z;injection z with z;omega
   refine⟨_,rfl,_,_,rfl,.inl ⟨_,SqL.of hq,rfl⟩,_,_,rfl,rfl,_,rfl,zP (fun g=>absurd g (by omega)) (fun _=>?_)⟩;(try unfold qK);(try dsimp only);refine⟨_,rfl,q,rfl,⟨_,SqL.of hq⟩,zy (K:=K) (a:=q) (xs:=rfs xs) (fun j σ H'=>∃ s1:Option V,σ=[some (.ref q),s1]∧H'=H) ⟨_,rfl,rfl⟩ (fun j σ H' _ ⟨_,_,h⟩=>h▸SqL.of hq) ?_ ?_⟩
   · rintro j z σ H' hz ⟨s1,rfl,rfl⟩
     obtain⟨k,hk,rfl⟩:∃ k,xs[j]?=some k∧V.ref k=z:=by
       rw[List.getElem?_map]at hz;exact Option.map_eq_some_iff.mp hz
     obtain⟨C,c1,c2,c3⟩:=qkR T (en k (List.mem_of_getElem? hk));exact⟨_,rfl,_,_,_,_,rfl,c1,c2,true,rfl,qS rfl ⟨_,rfl,_,_,_,_,rfl,c1,c3,false,rfl,qS rfl ⟨_,rfl,rfl⟩⟩⟩
   · rintro σ H' ⟨s1,rfl,rfl⟩;exact kk
theorem qbn {a:Ad} (T:Txt K mg a):qD P w K mg base CX0 1 a.f_af a.fd_af ["self"] (Z2 a):=by
 refine T.d_af.F.ok qbe (fun vs H Q E h=>?_) (fun cdv A outer s H vs Q E hr h=>?_)
 · obtain⟨x,dx,l,nm,xs,rfl,hx,hl,kk⟩:=h;rfl
 · obtain⟨x,dx,l,nm,xs,rfl,hx,hl,kk⟩:=h;refine⟨_,(qf (qt (zB (r:=qlC K) Qy (by rfl) T.n_list zj (qa (zl (pv 0) rfl) qb)))),?_⟩;(try dsimp only [zb,Cx.nox]);exact⟨_,rfl,x,_,dx,_,_,rfl,hx,T.cl_Joint,T.n_Joint_kept_parts,rfl,l,_,rfl,.inl (SqL.of hl),fun d fd=>kk d fd⟩
theorem qcr {a:Ad} (T:Txt K mg a):qD P w K mg base CX0 5 a.f_ad a.fd_ad ["self","name","parts"] (jD a):=by
 have G_c:=zS (P:=P) (w:=w) (base:=base) T;have G_O:=qbh (P:=P) (w:=w) (base:=base) T;refine T.d_ad.F.ok qcf (fun vs H Q E h=>?_) (fun cdv A outer s H vs Q E hr h=>?_)
 · obtain⟨x,dx,q,nm,xs,rfl,hx,ok,hq,h0,h8,en,kk⟩:=h;rfl
 · obtain⟨x,dx,q,nm,xs,rfl,hx,ok,hq,h0,h8,en,kk⟩:=h;have h_c:Room (3+1) _:=hr.mono (by decide);have h_O:Room (1) _:=hr.mono (by decide)
   refine⟨_,(qe (qI (QZ T.ci_Entry G_c (h_c.mono (by decide)) T.d_c.b rfl T.g_Entry (qa (pv 0) (qa (pv 1) qb))))
     (qe (qI (qh G_O h_O rfl T.d_O.m T.d_O.k T.d_O.b .nil qq (qa (pv 2) qb)))
     (qf (jd (pv 0) (zB (r:=qlC K) Qy (by rfl) T.n_list zj (qa (pv 2) qb)) rfl)))),?_⟩
   try dsimp only [zb,Cx.nox]
   refine⟨_,rfl,_,rfl,x,a.c_Joint,dx,nm,rfl,hx,ok,T.cl_Joint,T.n_Joint_name,fun H1 B1 h1=>?_⟩;have hq1:=B1 _ _ hq (Qm hq hx (by intro z;cases z));refine⟨_,rfl,q,xs,rfl,hq1,h0,h8,fun k m=>(en k m).mp (qk7 hx B1),?_⟩;refine⟨_,rfl,q,_,rfl,.inl (SqL.of hq1),fun l fl=>?_⟩;have nl:l≠x:=fun z=>by rw[z,h1]at fl;cases fl
   refine⟨_,rfl,x,_,dx,_,rfl,(by rw[qj nl.symm];exact h1),T.cl_Joint,T.n_Joint_kept_parts,(Nat.le_of_ble_eq_true rfl),?_⟩;exact kk l _ (B1.none fl nl) (fun b o e nb=>by rw[qj nb,qj (qi (B1 b o e nb) fl)];exact B1 b o e nb) (by rw[qc];rfl) (by rw[qj nl,qc])
theorem qco {a:Ad} (T:Txt K mg a):qD P w K mg base CX0 6 a.f_P a.fd_P ["part"] (jz a):=by
 have G_N:=qdR (P:=P) (w:=w) (base:=base) T;have G_d:=Qk (P:=P) (w:=w) (base:=base) T;refine T.d_P.F.ok sc_check_part (fun vs H Q E h=>?_) (fun cdv A outer s H vs Q E hr h=>?_)
 · obtain⟨x,wd,nm,pl,lo,hi,rfl,en,hw,kk⟩:=h;rfl
 · obtain⟨x,wd,nm,pl,lo,hi,rfl,en,hw,kk⟩:=h;have h_N:Room (1) _:=hr.mono (by decide);have h_d:Room (5) _:=hr.mono (by decide);obtain⟨t_MOST_SIFTED,c_MOST_SIFTED⟩:=T.g_MOST_SIFTED
   refine⟨_,(qe (qO (za (qm (r:=qkm K) jX (by rfl) T.n_isinstance qv (qa (pv 0) (qa (zI (v:=.ref a.c_Read) rfl T.g_Read rfl) qb))))
       (qf qjP)
       qy)
     (qe (qO (zu (za (qm (r:=qkm K) jX (by rfl) T.n_isinstance qv (qa (pv 0) (qa (zI (v:=.ref a.c_Within) rfl T.g_Within rfl) qb)))))
       (qf zm)
       qy)
     (qe (qx (i:=1) sc_check_part.nd rfl (Or.inl rfl) (qh G_N h_N rfl T.d_N.m T.d_N.k T.d_N.b .nil qq (qa (PE.or (zV (pv 0) T.cl_Within T.d_d.mt G_d h_d T.d_d.b .nil qq (qa qcl qb)) (zV (pv 0) T.cl_At T.i_At_spans G_d h_d T.d_d.b .nil qq (qa qcl qb))) qb)))
     (qf (qO (qw qdb (pv 1) (zI (v:=.int 1000) rfl c_MOST_SIFTED ⟨_,rfl⟩) (qC _))
       (qf zm)
       qy))))),?_⟩
   try dsimp only [zb,Cx.nox]
   cases en with
   | @any dx _ hx=>exact absurd hw (by decide)
   | @within dx _ _ _ hx =>
     have hlt:=(hw.resolve_left (by decide)).2;refine⟨_,rfl,_,_,_,_,rfl,T.io_Within.ty hx,qbp T,false,rfl,qS rfl ?_⟩;refine⟨_,rfl,_,_,_,_,rfl,T.io_Within.ty hx,J7 T,true,rfl,qS rfl ?_⟩;(try unfold qK);(try dsimp only);refine .inl ⟨_,rfl,x,dx,_,rfl,hx,rfl,fun d0 fd0=>⟨x,_,dx,_,_,_,_,rfl,(Same.new (.dK []) fd0) _ _ hx,T.cl_Within,T.n_Within_low,T.n_Within_high,fun d r H1 fd S1 R c l m=>⟨d,r,rfl,R,Nat.le_trans l (Nat.le_of_ble_eq_true rfl),fun H2 S2=>?_⟩⟩⟩;have S3:=((Same.new (.dK []) fd0).trans S1).trans S2;refine⟨_,rfl,_,_,rfl,rfl,_,rfl,zP (fun g=>absurd g ?_) (fun _=>kk H2 S3)⟩
     have:=qef c l m hlt
     omega
   | @at_ dx _ _ hx =>
     have hlt:=(hw.resolve_left (by decide)).2;refine⟨_,rfl,_,_,_,_,rfl,T.io_At.ty hx,qfq T,false,rfl,qS rfl ?_⟩;refine⟨_,rfl,_,_,_,_,rfl,T.io_At.ty hx,qdo T,true,rfl,qS rfl ?_⟩;(try unfold qK);(try dsimp only);refine .inr ⟨_,rfl,x,dx,_,rfl,hx,rfl,fun d0 fd0=>⟨x,_,dx,_,_,_,_,rfl,(Same.new (.dK []) fd0) _ _ hx,T.cl_At,T.n_At_low,T.n_At_high,fun d r H1 fd S1 R c l m=>⟨d,r,rfl,R,Nat.le_trans l (Nat.le_of_ble_eq_true rfl),fun H2 S2=>?_⟩⟩⟩;have S3:=((Same.new (.dK []) fd0).trans S1).trans S2;refine⟨_,rfl,_,_,rfl,rfl,_,rfl,zP (fun g=>absurd g ?_) (fun _=>kk H2 S3)⟩
     have:=qef c l m hlt
     omega
   | @between dx _ _ _ _ hx=>exact absurd hw (by intro z;rcases z with z|⟨z|z,_⟩<;>exact absurd z (by decide))
   | @read dx _ _ _ hx=>exact⟨_,rfl,_,_,_,_,rfl,T.io_Read.ty hx,qdn T,true,rfl,Ji rfl (kk H (Same.refl H))⟩
theorem qbk {a:Ad} (T:Txt K mg a):qD P w K mg base CX0 7 a.f_ah a.fd_ah ["self","name","part","keeps"] (ZX a):=by
 have G_c:=zS (P:=P) (w:=w) (base:=base) T;have G_P:=qco (P:=P) (w:=w) (base:=base) T;refine T.d_ah.F.ok qbd (fun vs H Q E h=>?_) (fun cdv A outer s H vs Q E hr h=>?_)
 · obtain⟨x,dx,p,f,nm,wd,pn,pl,lo,hi,rfl,hx,ok,en,hw,kk⟩:=h;rfl
 · obtain⟨x,dx,p,f,nm,wd,pn,pl,lo,hi,rfl,hx,ok,en,hw,kk⟩:=h;have h_c:Room (3+1) _:=hr.mono (by decide);have h_P:Room (6) _:=hr.mono (by decide)
   refine⟨_,(qe (qI (QZ T.ci_Entry G_c (h_c.mono (by decide)) T.d_c.b rfl T.g_Entry (qa (pv 0) (qa (pv 1) qb))))
     (qe (qI (qh G_P h_P rfl T.d_P.m T.d_P.k T.d_P.b .nil qq (qa (pv 2) qb)))
     (qe (jd (pv 0) (pv 2) rfl)
     (qf (jd (pv 0) (pv 3) rfl))))),?_⟩
   try dsimp only [zb,Cx.nox]
   refine⟨_,rfl,_,rfl,x,a.c_Sifted,dx,nm,rfl,hx,ok,T.cl_Sifted,T.n_Sifted_name,fun H1 B1 h1=>?_⟩;refine⟨_,rfl,p,wd,pn,pl,lo,hi,rfl,en.mp (qk7 hx B1),hw,fun H2 S2=>?_⟩;refine⟨_,rfl,_,rfl,x,_,dx,_,rfl,S2 _ _ h1,T.cl_Sifted,T.n_Sifted_part,(Nat.le_of_ble_eq_true rfl),?_⟩;refine⟨_,rfl,_,rfl,x,_,dx,_,rfl,qc,T.cl_Sifted,T.n_Sifted_keeps,(Nat.le_of_ble_eq_true rfl),?_⟩;exact kk _ (fun b o e nb=>by rw[qj nb,qj nb];exact S2 b o (B1 b o e nb)) (by rw[qc];rfl)
end
abbrev jC:Sp:=qas "joint"
section
variable {P:Program}{w:World}{K:Frag}{mg:Str->Option Value}{base:Heap}
theorem qcq {a:Ad} (T:Txt K mg a):qD P w K mg base CX0 1 a.f_ae a.fd_ae ["self"] jC:=by
 refine T.d_ae.F.ok qce (fun vs H Q E h=>?_) (fun cdv A outer s H vs Q E hr h=>?_)
 · obtain⟨v,rfl,k⟩:=h;rfl
 · obtain⟨v,rfl,k⟩:=h;refine⟨_,(qf (qt qE)),?_⟩;(try dsimp only [zb,Cx.nox]);exact k
end
abbrev ZW:Sp:=qas "sifted"
section
variable {P:Program}{w:World}{K:Frag}{mg:Str->Option Value}{base:Heap}
theorem qbj {a:Ad} (T:Txt K mg a):qD P w K mg base CX0 1 a.f_H a.fd_H ["self"] ZW:=by
 refine T.d_H.F.ok qbc (fun vs H Q E h=>?_) (fun cdv A outer s H vs Q E hr h=>?_)
 · obtain⟨v,rfl,k⟩:=h;rfl
 · obtain⟨v,rfl,k⟩:=h;refine⟨_,(qf (qt qE)),?_⟩;(try dsimp only [zb,Cx.nox]);exact k
end
theorem qeS {sc sc':Scope}{n:Nat} (h:∀ y∈sc'.names,y.2=NameKind.free->sc.names.lookup y.1=some .cell):∀ y∈sc'.names,y.2=NameKind.free->∃ c,(cellsFrom n sc.names []).lookup y.1=some c:=fun y m e=>qcD (h y m e)
abbrev qlD:Expr:=match zT QC with
 | .If _ [.Return (some (.Call _ [_,_,l] _ _)) _] _ _::_=>l
 | _=>.Name "" ⟨0,0,0,0⟩
abbrev ql7:Arguments:=match qlD with
 | .Lambda p _ _ _=>p
 | _=>⟨[],[],none,[],[],none,[]⟩
abbrev ql8:Expr:=match qlD with
 | .Lambda _ b _ _=>b
 | x=>x
abbrev lamS:Scope:=match qlD with
 | .Lambda _ _ s _=>s
 | _=>qg QC
abbrev qi7:Pos:=match qlD with
 | .Lambda _ _ _ p=>p
 | _=>⟨0,0,0,0⟩
abbrev ql6:Str:="_law_part"++".<locals>."++"<lambda>"
theorem qm7:qmP ql7 ql8 lamS ["_law_moment"] ["_law_sieve"]:=⟨rfl,rfl,rfl,by decide +kernel,by decide +kernel,by decide +kernel,by decide +kernel,fun qual cl pm cdv ct us hl=>by
 obtain _|⟨u,_|⟨v,t⟩⟩:=us
 · cases hl
 · rfl
 · simp at hl,by decide +kernel⟩
def Sv (H:Hp) (sv:Addr) (e r:Int):Prop:=H sv=some (.lst [.int e,.int r])∧0 < e
def Kf (H:Hp) (f sv:Addr):Prop:=Clo H f ql6 ql7 ql8 lamS [("_law_sieve",.ref sv)]
def spK (f:Addr):Sp:=fun vs H Q _=>∃ (n:Int) (sv:Addr) (e r:Int),vs=[.int n]∧Kf H f sv∧Sv H sv e r∧Q (.bl (decide (n % e=r))) H
theorem qgW (i j:Int):decide (V.int i=V.int j)=decide (i=j):=decide_eq_decide.mpr ⟨fun z=>by injection z,fun z=>by rw[z]⟩
theorem qk6 {a:Ad}{P:Program}{w:World}{K:Frag}{mg:Str->Option Value}{base:Heap} (T:Txt K mg a) {f:Addr}:qmL P w K mg base 2 f (spK f):=by
 intro A outer s H us vs Q hr e0 r h;obtain⟨n,sv,e,rr,rfl,clo,⟨hsv,ee⟩,kk⟩:=h;refine qkh (k:=1) (fv:=[("_law_sieve",.ref sv)]) qm7 hr e0 clo r rfl fun cl c hr' out=>?_;have hU:=hr'.units;refine⟨_,(zA (uEq hU) (qA ZI (pv 0) (qz (r:=rIx K) qp (pv 1) qd (fun _ _=>rfl))) (qz (r:=rIx K) qp (pv 1) qd (fun _ _=>rfl)) (qC _)),?_⟩;have hs:=out sv _ hsv (by intro φ z;cases z);refine⟨_,rfl,_,rfl,.inl ⟨sv,_,_,_,rfl,rfl,SqL.of hs,rfl,_,_,rfl,rfl,ee,_,rfl,.inl ⟨sv,_,_,_,rfl,rfl,SqL.of hs,rfl,.inl ⟨rfl,?_⟩⟩⟩⟩;dsimp only;rw[qhr,qgW];exact kk
def isS (wd:Str) (lo hi e:Int):Bool:=decide (0 < e) && (decide (wd="read") || (decide (wd="within"∨wd="at") && decide (hi - lo < 1000)))
theorem qgV {wd:Str}{lo hi e:Int} (h:isS wd lo hi e=true):0 < e∧(wd="read"∨((wd="within"∨wd="at")∧hi - lo < 1000)):=by
 unfold isS at h;simp only[Bool.and_eq_true,Bool.or_eq_true,decide_eq_true_eq]at h;exact h
theorem qmc {wd nm pl:Str}{lo hi:Int} (sp:Spc wd nm pl lo hi):inV (V.str wd) [V.str "within",V.str "at"]=decide (wd="within"∨wd="at"):=by
 cases sp<;>decide
inductive Zx (vs:List V) (H:Hp) (Q:VK):Prop
 | mk (s sv:Addr) (wd nm pl:Str) (lo hi e r:Int) (h1:vs=[.ref s,.ref sv]) (h2:H s=some (.tup (qhz wd nm pl lo hi))) (h3:Spc wd nm pl lo hi) (h4:H sv=some (.lst [.int e,.int r])) (h5:∀ H',Same H H'->Q (.bl (isS wd lo hi e)) H'):Zx vs H Q
def Qe:Sp:=fun vs H Q _=>Zx vs H Q
theorem jk (x y:Str):decide (V.str x=V.str y)=decide (x=y):=decide_eq_decide.mpr ⟨fun z=>by injection z,fun z=>by rw[z]⟩
inductive Bk where
 | one (x:Addr) (wd nm pl:Str) (lo hi:Int)
 | sift (x p f:Addr) (wd nm pl:Str) (lo hi:Int)
def Bk.x:Bk->Addr
 | .one x ..=>x
 | .sift x ..=>x
def Bk.wd:Bk->Str
 | .one _ wd ..=>wd
 | .sift _ _ _ wd ..=>wd
def Bk.nm:Bk->Str
 | .one _ _ nm ..=>nm
 | .sift _ _ _ _ nm ..=>nm
def Bk.pl:Bk->Str
 | .one _ _ _ pl ..=>pl
 | .sift _ _ _ _ _ pl ..=>pl
def Bk.lo:Bk->Int
 | .one _ _ _ _ lo _=>lo
 | .sift _ _ _ _ _ _ lo _=>lo
def Bk.hi:Bk->Int
 | .one _ _ _ _ _ hi=>hi
 | .sift _ _ _ _ _ _ _ hi=>hi
inductive EnK (a:Ad) (sv:Addr) (H:Hp):Bk->Prop
 | one {x:Addr}{wd nm pl:Str}{lo hi:Int}:En a H x wd nm pl lo hi->EnK a sv H (.one x wd nm pl lo hi)
 | sift {x p f dx:Addr}{wd nm pl:Str}{lo hi:Int}:H x=some (.ins a.c_Sifted dx (fsS nm p f))->En a H p wd nm pl lo hi->Kf H f sv->(wd="read"∨((wd="within"∨wd="at")∧hi - lo < 1000))->EnK a sv H (.sift x p f wd nm pl lo hi)
def Bk.sf:Bk->Bool
 | .one ..=>false
 | .sift ..=>true
theorem EnK.same {a:Ad}{sv:Addr}{H H':Hp}{b:Bk} (h:EnK a sv H b) (s:Same H H'):EnK a sv H' b:=by
 cases h with
 | one h=>exact .one (h.same s)
 | sift h1 h2 h3 h4=>exact .sift (s _ _ h1) (h2.same s) (h3.same s) h4
def TbD (a:Ad) (H:Hp):Prop:=qlE H a.t_Lpart qi7 ql6
theorem TbD.same {a:Ad}{H H':Hp} (h:TbD a H) (s:Same H H'):TbD a H':=by
 obtain⟨ps,h1,h2,h3⟩:=h;exact⟨ps,s _ _ h1,h2,h3.imp id fun⟨c,e1,e2⟩=>⟨c,e1,s _ _ e2⟩⟩
theorem TbD.at_ {a:Ad}{H:Hp} (h:TbD a H):∃ ps,H a.t_Lpart=some (.tbl ps):=let ⟨ps,h1,_⟩:=h;⟨ps,h1⟩
theorem up2 {H:Hp}{x dx:Addr}{o o':HO} (f1:H x=none) (f2:H dx=none):Same H (upd (upd H dx o) x o'):=fun b u e=>by
 rw[qj (qi e f1),qj (qi e f2)];exact e
theorem Same.but {H H':Hp} (t:Addr) (s:Same H H'):But t H H':=fun b o e _=>s b o e
theorem qkI {wd nm pl:Str}{lo hi:Int} (h:Spc wd nm pl lo hi):zc (.str nm)=true:=by
 cases h<;>assumption
theorem lk1 {k y:Str}{w v:V} (h:[(k,w)].lookup y=some v):y=k∧v=w:=by
 rw[List.lookup_cons]at h;split at h
 · rename_i z
   cases h;exact⟨eq_of_beq z,rfl⟩
 · cases h
theorem lk0 {α:Type}{k y:Str}{w:α} (h:y≠k):[(k,w)].lookup y=none:=by
 rw[List.lookup_cons,show (y == k)=false from beq_eq_false_iff_ne.mpr h];rfl
theorem qmG:lamS.names=([("_law_moment",.local),("_law_sieve",.free)]:List (Str×NameKind)):=by decide +kernel
theorem ql9 {X:Cx}{σ:L2.St}{H' H'':Hp}{f c sv:Addr}{o:Obj}{n:Nat} (lo:qkl X ql7 ql8 lamS c o) (ci:qcE ["_law_spec_here","_law_sieve"] (qg QC) (cellsFrom n (qg QC).names []) σ H' H'') (h1:σ[1]?=some (some (.ref sv)))
   (he:X.env={ X.env with qual:="_law_part"++".<locals>.",cells:=cellsFrom n (qg QC).names [] }) (hf:H' f=some (.ext (qe6 f o))) (hc:H' c=some (.ext (qa9 c (X.env.qual++"<lambda>")))):Kf H'' f sv:=by
 have hq:X.env.qual="_law_part"++".<locals>.":=by rw[he]
 have hcl:X.env.cells=cellsFrom n (qg QC).names []:=by rw[he]
 have fr:∀ y∈lamS.names,y.2=NameKind.free->∃ c,X.env.cells.lookup y.1=some c:=by rw[hcl];exact qeS (sc:=qg QC) (by decide +kernel)
 have c0:=qlt (X:=X) (fv:=[("_law_sieve",.ref sv)]) lo (by rw[hcl];exact ci) hf hc fr (fun y v h=>by
   obtain⟨rfl,rfl⟩:=lk1 h
   exact⟨by rw[qmG];decide +kernel,by decide +kernel,1,rfl,h1⟩) (fun y h=>by
   by_cases z:y="_law_sieve"
   · subst z;rfl
   · refine absurd ?_ h;rw[qmG]
     exact lk0 z)
 rw[hq]at c0;exact c0
inductive qbC (a:Ad) (vs:List V) (H:Hp) (Q:VK):Prop
 | mk (s sv:Addr) (wd nm pl:Str) (lo hi e r:Int) (h1:vs=[.ref s,.ref sv]) (h2:H s=some (.tup (qhz wd nm pl lo hi))) (h3:Spc wd nm pl lo hi) (h4:H sv=some (.lst [.int e,.int r])) (h5:TbD a H) (h6:∀ (b:Bk) (H':Hp),But a.t_Lpart H H'->TbD a H'->EnK a sv H' b->b.sf=isS wd lo hi e->b.wd=wd->b.nm=nm->b.pl=pl->b.lo=lo->b.hi=hi->Q (.ref b.x) H'):qbC a vs H Q
def qej (a:Ad):Sp:=fun vs H Q _=>qbC a vs H Q
section
variable {P:Program}{w:World}{K:Frag}{mg:Str->Option Value}{base:Heap}
theorem Q2 {a:Ad} (T:Txt K mg a):qD P w K mg base CX0 1 a.f_i a.fd_i ["_law_spec_here","_law_sieve"] Qe:=by
 refine T.d_i.F.ok sc_Lis_sifted (fun vs H Q E h=>?_) (fun cdv A outer s H vs Q E hr h=>?_)
 · obtain⟨s,sv,wd,nm,pl,lo,hi,e,r,rfl,hs,sp,hv,kk⟩:=h;rfl
 · obtain⟨s,sv,wd,nm,pl,lo,hi,e,r,rfl,hs,sp,hv,kk⟩:=h;have hU:=hr.units
   refine⟨_,(qe (qx (i:=2) sc_Lis_sifted.nd rfl (Or.inl rfl) (jg (zA jQ (qz (r:=rIx K) qp (pv 0) qd (fun _ _=>rfl)) (qV (qa qE (qa qE qb))) (by with_unfolding_all rfl)) (je (zA qfg (qA zK (qz (r:=rIx K) qp (pv 0) qd (fun _ _=>rfl)) (qz (r:=rIx K) qp (pv 0) qd (fun _ _=>rfl))) qd (qC _)))))
     (qf (qt (jg (zA qdb (qz (r:=rIx K) qp (pv 1) qd (fun _ _=>rfl)) qd (qC _)) (je (qkY (zA (uEq hU) (qz (r:=rIx K) qp (pv 0) qd (fun _ _=>rfl)) qE (qC _)) (je (pv 2)))))))),?_⟩
   try dsimp only [zb,Cx.nox]
   refine⟨_,rfl,.inr (.inl ⟨s,_,_,_,rfl,rfl,SqT.of hs,rfl,qk (Nat.le_of_ble_eq_true rfl),fun tt ft=>?_⟩)⟩;generalize hG:upd H tt _=A1;obtain⟨s1,e1⟩:=qF hG ft;clear hG;have hs1:=s1 _ _ hs;have hv1:=s1 _ _ hv;refine⟨tt,_,rfl,.inr (SqT.of e1),rfl,rfl,_,rfl,?_⟩;rw[show (if (false:Bool)=true then !inV (V.str wd) [V.str "within",V.str "at"] else inV (V.str wd) [V.str "within",V.str "at"])=decide (wd="within"∨wd="at") from qmc sp];refine qhA (fun g1=>?_) (fun g1=>?_)
   · refine⟨_,rfl,.inr (.inl ⟨s,_,_,_,rfl,rfl,SqT.of hs1,rfl,_,rfl,.inr (.inl ⟨s,_,_,_,rfl,rfl,SqT.of hs1,rfl,_,_,rfl,rfl,_,_,rfl,rfl,?_⟩)⟩)⟩;(try unfold qK);(try dsimp only);refine⟨_,rfl,.inl ⟨sv,_,_,_,rfl,rfl,SqL.of hv1,rfl,_,_,rfl,rfl,_,rfl,?_⟩⟩;refine qhA (fun g2=>?_) (fun g2=>?_)
     · refine⟨_,rfl,.inr (.inl ⟨s,_,_,_,rfl,rfl,SqT.of hs1,rfl,.inl ⟨rfl,_,rfl,?_⟩⟩)⟩;refine qhA (fun g3=>?_) (fun g3=>?_)
       · rw[jk]at g3
         have:=kk A1 s1
         unfold isS at this;rw[g2,g3]at this;exact this
       · rw[jk]at g3
         have:=kk A1 s1
         unfold isS at this;rw[g2,g3,g1]at this;exact⟨_,rfl,this⟩
     · have:=kk A1 s1
       unfold isS at this;rw[g2]at this;exact this
   · skip
     try unfold qK
     try dsimp only
     refine⟨_,rfl,.inl ⟨sv,_,_,_,rfl,rfl,SqL.of hv1,rfl,_,_,rfl,rfl,_,rfl,?_⟩⟩;refine qhA (fun g2=>?_) (fun g2=>?_)
     · refine⟨_,rfl,.inr (.inl ⟨s,_,_,_,rfl,rfl,SqT.of hs1,rfl,.inl ⟨rfl,_,rfl,?_⟩⟩)⟩;refine qhA (fun g3=>?_) (fun g3=>?_)
       · rw[jk]at g3
         have:=kk A1 s1
         unfold isS at this;rw[g2,g3]at this;exact this
       · rw[jk]at g3
         have:=kk A1 s1
         unfold isS at this;rw[g2,g3,g1]at this;exact⟨_,rfl,this⟩
     · have:=kk A1 s1
       unfold isS at this;rw[g2]at this;exact this
theorem qh9 {a:Ad} (T:Txt K mg a) (hB:qhD mg base):qD P w K mg base CX0 10 a.f_I a.fd_I ["_law_spec_here","_law_sieve"] (qej a):=by
 have G_i:=Q2 (P:=P) (w:=w) (base:=base) T;have G_A:=qib (P:=P) (w:=w) (base:=base) T;have G_ah:=qbk (P:=P) (w:=w) (base:=base) T;refine T.d_I.F.okK T.cd_Lpart qhQ (fun vs H Q E h=>?_) (fun cdv A outer s H vs Q E hcd hr h=>?_)
 · obtain⟨s,sv,wd,nm,pl,lo,hi,e,r,rfl,hs,sp,hv,tb,kk⟩:=h;rfl
 · obtain⟨s,sv,wd,nm,pl,lo,hi,e,r,rfl,hs,sp,hv,tb,kk⟩:=h;have h_i:Room (1) _:=hr.mono (by decide);have h_A:Room (9) _:=hr.mono (by decide);have h_ah:Room (7+1) _:=hr.mono (by decide)
   refine⟨_,(qgf (qkS (za (qh G_i h_i rfl T.d_i.m T.d_i.k T.d_i.b .nil qq (qa (pv 0) (qa (pv 1) qb))))
       (qeD (qgg (QY T.M_Sifted G_ah h_ah rfl T.g_Sifted T.d_ah.b .nil qq (qa (qz (r:=rIx K) qp (pv 0) qd (fun _ _=>rfl)) (qa (qh G_A h_A rfl T.d_A.m T.d_A.k T.d_A.b .nil qq (qa (pv 0) qb)) (qa (qk0 (T:=a.t_Lpart) rfl (qeS (sc:=qg QC) (by decide)) hcd T.hd_Lpart hB) qb))))))
       qhV)
     (qeD (qgg (qh G_A h_A rfl T.d_A.m T.d_A.k T.d_A.b .nil qq (qa (pv 0) qb))))),?_⟩
   refine⟨_,rfl,_,rfl,s,sv,wd,nm,pl,lo,hi,e,r,rfl,hs,sp,hv,fun H1 S1=>⟨_,rfl,?_⟩⟩;have hs1:=S1 _ _ hs;have tb1:=tb.same S1;refine qhA (fun g=>?_) (fun g=>?_)
   · obtain⟨e0,hw⟩:=qgV g;refine⟨_,rfl,.inr (.inl ⟨s,_,_,_,rfl,rfl,SqT.of hs1,rfl,_,rfl,s,wd,nm,pl,lo,hi,rfl,hs1,sp,fun p H2 S2 en=>?_⟩)⟩;refine⟨tb1.same S2,fun f c o H3 ff nf B3 tb3 hf hc lo'=>?_⟩;obtain⟨ps,hps⟩:=(tb1.same S2).at_;have en3:=en.mp (qlL hps B3);refine fun x dx f1 f2 ne=>⟨x,dx,p,f,nm,wd,nm,pl,lo,hi,rfl,qc,qkI sp,en3.mp (fun _ _ _ e _=>up2 f1 f2 _ _ e),hw,fun H4 B4 h4=>⟨rfl,fun H5 ci=>?_⟩⟩
     have S4:=zL f1 f2 B4;have tb3':TbD a H3:=tb3;have clo:Kf H5 f sv:=ql9 lo' ci rfl rfl (S4 _ _ hf) (S4 _ _ hc);exact kk (.sift x p f wd nm pl lo hi) H5 ((((Same.but _ (S1.trans S2)).trans B3).same S4).same ci.s) ((tb3'.same S4).same ci.s) (.sift (ci.s _ _ h4) ((en3.same S4).same ci.s) clo hw) g.symm rfl rfl rfl rfl rfl
   · refine⟨_,rfl,s,wd,nm,pl,lo,hi,rfl,hs1,sp,fun p H2 S2 en H3 ci=>?_⟩;exact kk (.one p wd nm pl lo hi) H3 (Same.but _ ((S1.trans S2).trans ci.s)) ((tb1.same S2).same ci.s) (.one (en.same ci.s)) g.symm rfl rfl rfl rfl rfl
end
def pls (pl:Str):List Str:=if pl="" then [] else [pl]
theorem QD {x:Str} (h:zc (.str x)=true):x≠"":=fun z=>by subst z;cases h
structure Tq (a:Ad) (H:Hp) (td:Addr) (ts:Pls):Prop where
 ht:H td=some (.dK (dkv ts))
 tt:∀ t∈ts,Tb a H t.2.1 t.2.2
 tg:∀ t∈ts,Good t.2.2
 nd:(ts.map (·.1)).Nodup
theorem Tb.sm {a:Ad}{H H':Hp}{x:Addr}{rows:List (Int×Int)} (h:Tb a H x rows) (s:Same H H'):Tb a H' x rows:=by
 obtain⟨k,dx,zs,h1,h2,h3⟩:=h;exact⟨k,dx,zs,s _ _ h1,s _ _ h2,h3.same s⟩
theorem Tq.sm {a:Ad}{H H':Hp}{td:Addr}{ts:Pls} (h:Tq a H td ts) (s:Same H H'):Tq a H' td ts:=⟨s _ _ h.ht,fun t m=>(h.tt t m).sm s,h.tg,h.nd⟩
def ME (ts:Pls) (wd pl:Str) (lo hi n:Int):Prop:=∃ W,Due ts wd pl lo hi W∧Mem W n
theorem qka {ts:Pls} (nd:(ts.map (·.1)).Nodup) {wd pl:Str}{lo hi:Int}{W W':List (Int×Int)} (h:Due ts wd pl lo hi W) (h':Due ts wd pl lo hi W'):W=W':=by
 cases h with
 | @pl x hw mx ex =>
   cases h' with
   | @pl y _ my ey =>
     have e:x=y:=by
       obtain⟨i,hi,e1⟩:=List.mem_iff_getElem.mp mx;obtain⟨j,hj,e2⟩:=List.mem_iff_getElem.mp my
       have:i=j:=(List.getElem_inj (h₀:=by rw[List.length_map];exact hi) (h₁:=by rw[List.length_map];exact hj) nd).mp (by rw[List.getElem_map,List.getElem_map,e1,e2,ex,ey])
       subst this;rw[← e1,← e2]
     rw[e]
   | no z=>exact absurd hw (by rcases z with z|z|z<;>rw[z]<;>decide)
 | no hw =>
   cases h' with
   | pl z _ _=>exact absurd z (by rcases hw with z|z|z<;>rw[z]<;>decide)
   | no _=>rfl
theorem Zi {ts:Pls} (nd:(ts.map (·.1)).Nodup) {wd pl:Str}{lo hi:Int}{W:List (Int×Int)} (d:Due ts wd pl lo hi W) (n:Int):Mem W n↔ME ts wd pl lo hi n:=⟨fun h=>⟨W,d,h⟩,fun⟨W',d',h⟩=>by rw[qka nd d d'];exact h⟩
theorem qff {K:Frag}{mg:Str->Option Value}{a:Ad} (T:Txt K mg a) {te:TE}{σ:L2.St}{H:Hp}{Q:VK}{x:Addr}{wd nm pl:Str}{lo hi:Int} (hte:∀ R:V->Hp->Prop,R (.ref x) H->te σ H R) (en:En a H x wd nm pl lo hi) (sp:Spc wd nm pl lo hi) (hw:wd="read"∨((wd="within"∨wd="at")∧hi - lo < 1000)) (k:∀ l,H l=none->Q (.ref l) (upd H l (.lst ((pls pl).map V.str)))):QF a.c_Within "places" qN [] E0 te qfN σ H Q∨QF a.c_At "places" qN [] E0 te qfN σ H Q∨QF a.c_Read "places" (qT K) [] E0 te qfN σ H Q:=by
 cases en with
 | @any dx _ hx=>exact absurd hw (by intro z;rcases z with z|⟨z|z,_⟩<;>exact absurd z (by decide))
 | @within dx _ _ _ hx=>exact .inl (hte _ ⟨x,dx,_,rfl,hx,rfl,_,rfl,fun l fl=>k l fl⟩)
 | @at_ dx _ _ hx=>exact .inr (.inl (hte _ ⟨x,dx,_,rfl,hx,rfl,_,rfl,fun l fl=>k l fl⟩))
 | @between dx _ _ _ _ hx=>exact absurd hw (by intro z;rcases z with z|⟨z|z,_⟩<;>exact absurd z (by decide))
 | @read dx _ _ _ hx =>
   have e:pls pl=[pl]:=if_neg (QD (by cases sp with|read _ h _=>exact h));rw[e]at k;exact .inr (.inr (hte _ ⟨x,dx,_,rfl,hx,rfl,x,_,dx,_,_,_,_,rfl,hx,T.cl_Read,T.n_Read_place,fun l fl=>k l fl⟩))
theorem qcH {K:Frag}{mg:Str->Option Value}{a:Ad} (T:Txt K mg a) {te:TE}{σ:L2.St}{H:Hp}{Q:VK}{x:Addr}{wd nm pl:Str}{lo hi:Int} (hte:∀ R:V->Hp->Prop,R (.ref x) H->te σ H R) (en:En a H x wd nm pl lo hi) {td:Addr}{ts:Pls}{ta:TA}{E:XK} (hta:∀ R:List V->Hp->Prop,R [.ref td] H->ta σ H R) (sp:Spc wd nm pl lo hi) (hw:wd="read"∨((wd="within"∨wd="at")∧hi - lo < 1000)) (tq:Tq a H td ts) (k:((pl=""∨pl∈ts.map (·.1))∧∀ (f:Addr) (r:List (Int×Int)) (H':Hp),H f=none->Same H H'->Rs H' f r->qR r->r.length≤21->(∀ n,Mem r n↔ME ts wd pl lo hi n)->Q (.ref f) H')∨(pl≠""∧pl∉ts.map (·.1)∧Rz a.c_NoPlace "found" (.str pl) H E)):QF a.c_Within "spans" (qU K) [] E0 te ta σ H Q∨QF a.c_At "spans" (qU K) [] E0 te ta σ H Q∨QF a.c_Read "spans" (q9 a) [] E te ta σ H Q:=by
 cases en with
 | @any dx _ hx=>exact absurd hw (by intro z;rcases z with z|⟨z|z,_⟩<;>exact absurd z (by decide))
 | @within dx _ _ _ hx =>
   rcases k with ⟨_,k⟩|⟨z,_⟩
   · exact .inl (hte _ ⟨x,dx,_,rfl,hx,rfl,hta _ ⟨x,_,dx,_,_,_,_,rfl,hx,T.cl_Within,T.n_Within_low,T.n_Within_high,fun f r H' ff S' R c l m=>k f r H' ff S' R c (Nat.le_trans l (Nat.le_of_ble_eq_true rfl)) fun n=>(m n).trans (Zi tq.nd (.no (.inr (.inl rfl))) n)⟩⟩)
   · exact absurd rfl z
 | @at_ dx _ _ hx =>
   rcases k with ⟨_,k⟩|⟨z,_⟩
   · exact .inr (.inl (hte _ ⟨x,dx,_,rfl,hx,rfl,hta _ ⟨x,_,dx,_,_,_,_,rfl,hx,T.cl_At,T.n_At_low,T.n_At_high,fun f r H' ff S' R c l m=>k f r H' ff S' R c (Nat.le_trans l (Nat.le_of_ble_eq_true rfl)) fun n=>(m n).trans (Zi tq.nd (.no (.inr (.inr rfl))) n)⟩⟩))
   · exact absurd rfl z
 | @between dx _ _ _ _ hx=>exact absurd hw (by intro z;rcases z with z|⟨z|z,_⟩<;>exact absurd z (by decide))
 | @read dx _ _ _ hx =>
   have okp:zc (.str pl)=true∧(-10000000000≤lo∧lo≤10000000000):=by cases sp with|read _ h b=>exact⟨h,b⟩
   refine .inr (.inr (hte _ ⟨x,dx,_,rfl,hx,rfl,hta _ ⟨x,_,dx,td,_,_,_,_,rfl,.inr rfl,hx,?_⟩⟩));rcases k with ⟨hp,k⟩|⟨_,no,kz⟩
   · obtain⟨t,mt,et⟩:=List.mem_map.mp (hp.resolve_left (QD okp.1));have et':t.1=pl:=et;refine .inl ⟨t.2.1,t.2.2,.inl ⟨_,.inr pl,.inl tq.ht,rfl,?_⟩,tq.tt t mt,tq.tg t mt,okp.2,okp.2,fun f r H' ff S' R c l m=>k f r H' ff S' R c l fun n=>(m n).trans (Zi tq.nd (.pl (.inr rfl) mt et') n)⟩;rw[← et'];exact(qbv tq.nd t mt).symm
   · exact .inr ⟨.inl ⟨_,.inr pl,.inl tq.ht,rfl,(qfH no).symm⟩,kz⟩
def mo (w:Int×Int):List Int:=(List.range (w.2+1 - w.1).toNat).map fun k:Nat=>w.1+(k:Int)
def mos (r:List (Int×Int)):List Int:=r.flatMap mo
abbrev kq (e r n:Int):Bool:=decide (n % e=r)
abbrev dup (n:Int):Int×Int:=(n,n)
theorem mem_mo {w:Int×Int}{n:Int}:n∈mo w↔w.1≤n∧n≤w.2:=by
 unfold mo;rw[List.mem_map];constructor
 · rintro⟨k,mk,e⟩
   have:=List.mem_range.mp mk
   omega
 · rintro⟨h1,h2⟩;exact⟨(n - w.1).toNat,List.mem_range.mpr (by omega),by omega⟩
theorem mem_mos {r:List (Int×Int)}{n:Int}:n∈mos r↔Mem r n:=by
 unfold mos;rw[List.mem_flatMap];exact⟨fun⟨w,m,h⟩=>⟨w,m,mem_mo.mp h⟩,fun⟨w,m,h⟩=>⟨w,m,mem_mo.mpr h⟩⟩
theorem qgF:∀ {r:List (Int×Int)},qR r->(mos r).Nodup
 | [],_=>List.nodup_nil
 | w::r,c=>by
   have c':qR r:=⟨fun u m=>c.1 u (List.mem_cons_of_mem _ m),(List.pairwise_cons.mp c.2).2⟩
   unfold mos;rw[List.flatMap_cons];refine List.nodup_append.mpr ⟨?_,qgF c',fun n h1 m h2 e=>?_⟩
   · unfold mo;refine List.Pairwise.map _ (fun i j h=>?_) (List.nodup_range (n:=(w.2+1 - w.1).toNat));intro z;exact h (by omega)
   · subst e;obtain⟨u,mu,u1,u2⟩:=mem_mos.mp (show n∈mos r from h2)
     have:=(List.pairwise_cons.mp c.2).1 u mu
     have:=(mem_mo.mp h1).2
     omega
theorem qad:∀ {l m:List Int},l.Nodup->(∀ x∈l,x∈m)->l.length≤m.length
 | [],_,_,_=>Nat.zero_le _
 | x::l,m,nd,h=>by
   rw[List.nodup_cons]at nd;have mx:=h x List.mem_cons_self
   have:=qad (l:=l) (m:=m.erase x) nd.2 fun y my=>by
     have ne:y≠x:=fun e=>nd.1 (by rw[← e];exact my);exact(List.mem_erase_of_ne ne).mpr (h y (List.mem_cons_of_mem _ my))
   rw[List.length_erase_of_mem mx]at this
   have:=List.length_pos_of_mem mx
   rw[List.length_cons];omega
theorem qbY {r:List (Int×Int)} (c:qR r) (i:Nat):qR (r.take i):=⟨fun w m=>c.1 w (List.mem_of_mem_take m),c.2.sublist (List.take_sublist _ _)⟩
theorem qhK {β:Type}{f:β->List V}{H:Hp}{xs ys:List V}{ps qs:List β} (h:TupL f H xs ps) (g:TupL f H ys qs):TupL f H (xs++ys) (ps++qs):=by
 have hl:=h.1;refine⟨by rw[List.length_append,List.length_append,h.1,g.1],fun j z y e1 e2=>?_⟩;by_cases c:j < xs.length
 · rw[List.getElem?_append_left c]at e1;rw[List.getElem?_append_left (by omega)]at e2;exact h.2 j z y e1 e2
 · rw[List.getElem?_append_right (by omega)]at e1;rw[List.getElem?_append_right (by omega)]at e2;rw[hl]at e1;exact g.2 _ z y e1 e2
theorem qgI {l:List Int}{n:Int}:Mem (l.map dup) n↔n∈l:=by
 constructor
 · rintro⟨w,m,h1,h2⟩;obtain⟨k,mk,rfl⟩:=List.mem_map.mp m;have h1':k≤n:=h1;have h2':n≤k:=h2;rw[Int.le_antisymm h2' h1'];exact mk
 · intro m;exact⟨dup n,List.mem_map_of_mem m,Int.le_refl _,Int.le_refl _⟩
theorem qag {r:List (Int×Int)}{i:Nat}{w:Int×Int} (h:r[i]?=some w):mos (r.take (i+1))=mos (r.take i)++mo w:=by
 unfold mos;rw[List.take_add_one,h,List.flatMap_append];simp
theorem qgH {r:List (Int×Int)}{i:Nat}:∀ n∈mos (r.take i),n∈mos r:=fun n m=>by
 obtain⟨w,mw,h⟩:=List.mem_flatMap.mp m;exact List.mem_flatMap.mpr ⟨w,List.mem_of_mem_take mw,h⟩
theorem qlu (w:Int×Int):(mo w).Pairwise (· < ·):=by
 unfold mo;exact List.Pairwise.map _ (fun i j h=>by omega) (List.pairwise_lt_range (n:=(w.2+1 - w.1).toNat))
theorem qd7:∀ {r:List (Int×Int)},qR r->(mos r).Pairwise (· < ·)
 | [],_=>List.Pairwise.nil
 | w::r,c=>by
   have c':qR r:=⟨fun u m=>c.1 u (List.mem_cons_of_mem _ m),(List.pairwise_cons.mp c.2).2⟩
   unfold mos;rw[List.flatMap_cons];refine List.pairwise_append.mpr ⟨qlu w,qd7 c',fun n h1 m h2=>?_⟩;obtain⟨u,mu,u1,u2⟩:=mem_mos.mp (show m∈mos r from h2)
   have:=(List.pairwise_cons.mp c.2).1 u mu
   have:=(mem_mo.mp h1).2
   omega
theorem qfS {us:List Int} (h:us.Pairwise (· < ·)) (l:us.length≤1000):SrtOk (us.map dup):=by
 refine .inr ⟨by rw[List.length_map];exact l,?_⟩;rw[List.map_map];refine List.Pairwise.map _ (fun i j h=>?_) h;show (if j=i then _ else decide (j < i))=false;rw[if_neg (by omega),decide_eq_false (by omega)]
theorem qeX {ts:Pls} (tg:∀ t∈ts,Good t.2.2) {wd nm pl:Str}{lo hi:Int}{W:List (Int×Int)} (sp:Spc wd nm pl lo hi) (hw:wd="read"∨((wd="within"∨wd="at")∧hi - lo < 1000)) (due:Due ts wd pl lo hi W):∃ L:List Int,L.length≤1000∧(∀ n∈L,-20000000000≤n∧n≤20000000000)∧∀ n,Mem W n->n∈L:=by
 cases due with
 | @pl x0 hw' mx ex =>
   have hw2:wd="read":=by
     rcases hw with z|⟨z|z,_⟩
     · exact z
     · exact absurd hw' (by rw[z];decide)
     · exact absurd hw' (by rw[z];decide)
   subst hw2
   cases sp with
   | read _ _ hm =>
     have good:=tg x0 mx;refine⟨(pcs x0.2.2).map fun p=>lo - p.2.2,by rw[List.length_map,Q0];exact Nat.le_trans good.few (by decide),fun n m=>?_,fun n h=>?_⟩
     · obtain⟨p,mp',rfl⟩:=List.mem_map.mp m
       have:=(qgm good.ok p mp').2.2
       omega
     · obtain⟨w,mw,h1,h2⟩:=h;obtain⟨p,mp',rfl⟩:=List.mem_map.mp mw;refine List.mem_map.mpr ⟨p,mp',?_⟩;unfold mp at h1 h2;dsimp only at h1 h2;split at h1<;>split at h2<;>omega
 | no hw' =>
   have hlt:hi - lo < 1000∧0≤lo∧lo≤1000000000∧0≤hi∧hi≤1000000000:=by
     rcases hw with z|⟨_,z⟩
     · exact absurd hw' (by rw[z];decide)
     · cases sp with
       | any _=>omega
       | within _ h1 h2=>omega
       | at_ _ h1=>omega
       | between _ _ _ _=>exact absurd hw' (by decide)
       | read _ _ _=>exact absurd hw' (by decide)
   refine⟨mo (lo,hi),?_,fun n m=>?_,fun n h=>?_⟩
   · unfold mo;rw[List.length_map,List.length_range];show (hi+1 - lo).toNat≤1000;omega
   · have:=mem_mo.mp m
     dsimp only at this;omega
   · obtain⟨w,mw,h⟩:=h;rw[List.mem_singleton.mp mw]at h;exact mem_mo.mpr h
inductive Qt (a:Ad) (vs:List V) (H:Hp) (Q:VK):Prop
 | mk (x p f sv:Addr) (wd nm pl:Str) (lo hi:Int) (h1:vs=[.ref x]) (h2:EnK a sv H (.sift x p f wd nm pl lo hi)) (h3:Spc wd nm pl lo hi) (h4:∀ l,H l=none->Q (.ref l) (upd H l (.lst ((pls pl).map V.str)))):Qt a vs H Q
def Qa (a:Ad):Sp:=fun vs H Q _=>Qt a vs H Q
inductive QJ (a:Ad) (vs:List V) (H:Hp) (Q:VK) (E:XK):Prop
 | mk (x p f td sv:Addr) (wd nm pl:Str) (lo hi e r:Int) (ts:Pls) (h1:vs=[.ref x,.ref td]) (h2:EnK a sv H (.sift x p f wd nm pl lo hi)) (h3:Sv H sv e r) (h4:Spc wd nm pl lo hi) (h5:Tq a H td ts) (h6:(((pl=""∨pl∈ts.map (·.1))∧∀ (d:Addr) (rr:List (Int×Int)) (H':Hp),H d=none->Same H H'->Rs H' d rr->qR rr->rr.length≤1000->(∀ n,Mem rr n↔ME ts wd pl lo hi n∧n % e=r)->Q (.ref d) H')∨(pl≠""∧pl∉ts.map (·.1)∧Rz a.c_NoPlace "found" (.str pl) H E))):QJ a vs H Q E
def Qh (a:Ad):Sp:=fun vs H Q E=>QJ a vs H Q E
section
variable {P:Program}{w:World}{K:Frag}{mg:Str->Option Value}{base:Heap}
theorem JZ {a:Ad} (T:Txt K mg a):qD P w K mg base CX0 2 a.f_ai a.fd_ai ["self"] (Qa a):=by
 have G_b:=Ql (P:=P) (w:=w) (base:=base) T;have G_e:=zW (P:=P) (w:=w) (base:=base) T;refine T.d_ai.F.ok JU (fun vs H Q E h=>?_) (fun cdv A outer s H vs Q E hr h=>?_)
 · obtain⟨x,p,f,sv,wd,nm,pl,lo,hi,rfl,enk,sp,kk⟩:=h;rfl
 · obtain⟨x,p,f,sv,wd,nm,pl,lo,hi,rfl,enk,sp,kk⟩:=h;have h_b:Room (1) _:=hr.mono (by decide);have h_e:Room (1) _:=hr.mono (by decide);refine⟨_,(qf (qt (PE.or (qG (zl (pv 0) rfl) T.cl_Within T.i_Within_places G_b h_b T.d_b.b .nil qq) (PE.or (qG (zl (pv 0) rfl) T.cl_At T.i_At_places G_b h_b T.d_b.b .nil qq) (qG (zl (pv 0) rfl) T.cl_Read T.i_Read_places G_e h_e T.d_e.b .nil qq))))),?_⟩;(try dsimp only [zb,Cx.nox])
   cases enk with
   | @sift _ _ _ dx _ _ _ _ _ hx en hf hw=>exact qff T (fun R h=>⟨_,rfl,x,_,dx,_,_,rfl,hx,T.cl_Sifted,T.n_Sifted_part,rfl,h⟩) en sp hw kk
theorem qaL {a:Ad} (T:Txt K mg a):qD P w K mg base (CX1 P w) 7 a.f_aj a.fd_aj ["self","tables"] (Qh a):=by
 have G_d:=Qk (P:=P) (w:=w) (base:=base) T;have G_m:=Zh (P:=P) (w:=w) (base:=base) T;have G_g:=jp (P:=P) (w:=w) (base:=base) T;refine T.d_aj.F.okX sc_Sifted_spans (fun vs H Q E h=>?_) (fun cdv A outer s H vs Q E hr h=>?_)
 · obtain⟨x,p,f,td,sv,wd,nm,pl,lo,hi,e,r,ts,rfl,enk,hsv,sp,tq,kk⟩:=h;rfl
 · obtain⟨x,p,f,td,sv,wd,nm,pl,lo,hi,e,r,ts,rfl,enk,hsv,sp,tq,kk⟩:=h;have hu:=qH hr;have h_d:Room (5) _:=hr.mono (by decide);have h_m:Room (6) _:=hr.mono (by decide);have h_g:Room (4) _:=hr.mono (by decide)
   refine⟨_,(qe (qx (i:=2) sc_Sifted_spans.nd rfl (Or.inr rfl) (zl (pv 0) rfl))
     (qe (qx (i:=3) sc_Sifted_spans.nd rfl (Or.inl rfl) (qJ qb))
     (qe (zx PassesOwn.leaving rfl (qX (PE.or (zV (zl (pv 0) rfl) T.cl_Within T.d_d.mt G_d h_d T.d_d.b .nil qq (qa (pv 1) qb)) (PE.or (zV (zl (pv 0) rfl) T.cl_At T.i_At_spans G_d h_d T.d_d.b .nil qq (qa (pv 1) qb)) (zV (zl (pv 0) rfl) T.cl_Read T.i_Read_spans G_m h_m T.d_m.b .nil throws_cx.passes (qa (pv 1) qb))))) (zR rfl (qu (qr (i:=4) (sc_Sifted_spans.nd) rfl (Or.inl rfl)) (qu (qr (i:=5) (sc_Sifted_spans.nd) rfl (Or.inl rfl)) zn)))
       (qf (qI (ZG PySem.F.plainAttrs_list PySem.F.slot_list_extend PySem.F.type_list_extend qdi (pv 3) (qa (zJ rfl (CompOk.defX ["moment","keeps"] [none,some 2]) (qc8 rfl T.n_range (qa (pv 4) (qa (qA QT (pv 5) qd) qb))) (fun _ _ _ _ _=>(qr (i:=0) (show List.Nodup (["moment","keeps"]:List Str) by decide +kernel) rfl (Or.inl rfl))) (fun _ _ _ _ _=>(Jb (za (qh4 (k:=2) (Ok:=fun f sp=>sp=spK f) (pv 1) (hr.mono (by decide)) (fun f sp h=>by rw[h];exact qk6 T) (qa (pv 0) qb))))) (fun _ _ _ _ _=>(qV (qa (pv 0) (qa (pv 0) qb))))) qb)))))
     (qf (qt (qh G_g h_g rfl T.d_g.m T.d_g.k T.d_g.b .nil qq (qa (pv 3) qb))))))),?_⟩
   try dsimp only [zb,Cx.nox]
   cases enk with
   | @sift _ _ _ dx _ _ _ _ _ hx en hf hw =>
   refine⟨_,rfl,x,_,dx,_,_,rfl,hx,T.cl_Sifted,T.n_Sifted_keeps,rfl,?_⟩;(try unfold qK);(try dsimp only);refine⟨qk (Nat.le_of_ble_eq_true rfl),fun t ft=>?_⟩;generalize hG:upd H t _=G;obtain⟨S0,e0⟩:=qF hG ft;clear hG;(try unfold qK);(try dsimp only);rcases kk with ⟨hp,kk⟩|⟨z1,z2,kz⟩
   case inr =>
     refine qL (t:=qed _ _ _) (fun _ _=>False) (fun N hN=>?_) (fun _ _ h=>h.elim);exact qcH T (fun R h=>⟨_,rfl,x,_,dx,_,_,rfl,(S0 _ _ hx),T.cl_Sifted,T.n_Sifted_part,rfl,h⟩) (en.same S0) (fun R h=>⟨_,rfl,h⟩) sp hw (tq.sm S0) (.inr ⟨z1,z2,kz.same S0⟩)
   obtain⟨W,due⟩:∃ W,Due ts wd pl lo hi W:=by
     rcases hw with rfl|⟨rfl|rfl,_⟩
     · have okp:zc (.str pl)=true:=by cases sp with|read _ h _=>exact h
       obtain⟨t,mt,et⟩:=List.mem_map.mp (hp.resolve_left (QD okp));exact⟨_,.pl (.inr rfl) mt et⟩
     · exact⟨_,.no (.inr (.inl rfl))⟩
     · exact⟨_,.no (.inr (.inr rfl))⟩
   obtain⟨L,l1k,lb,lm⟩:=qeX tq.tg sp hw due;refine qL (t:=qed _ _ _) (fun σ' H'=>∃ (s4 s5:Option V) (us:List Int),σ'=[some (.ref x),some (.ref td),some (.ref f),some (.ref t),s4,s5]∧Same H H'∧Rs H' t (us.map dup)∧us.length≤1000∧us.Pairwise (· < ·)∧∀ n,n∈us↔ME ts wd pl lo hi n∧n % e=r) (fun N hN=>?_) ?_
   · refine qcH T (fun R h=>⟨_,rfl,x,_,dx,_,_,rfl,(S0 _ _ hx),T.cl_Sifted,T.n_Sifted_part,rfl,h⟩) (en.same S0) (fun R h=>⟨_,rfl,h⟩) sp hw (tq.sm S0) (.inl ⟨hp,fun fq rr H1 ff S1 ⟨zs,hfq,tz⟩ can l21 mem=>?_⟩);have lz:zs.length=rr.length:=tz.1;have lenu:∀ i,((mos (rr.take i)).filter (kq e r)).length≤1000:=fun i=>Nat.le_trans (qad ((qgF (qbY can i)).filter _) fun n m=>lm n ((Zi tq.nd due n).mpr <| (mem n).mp (mem_mos.mp (qgH n (List.mem_filter.mp m).1)))) l1k;have nft:fq≠t:=fun z=>by rw[z,e0]at ff;cases ff
     have ht1:=S1 _ _ e0;refine⟨fq,rfl,⟨_,SqL.of hfq⟩,zy (K:=K) (a:=fq) (xs:=zs) (D:={ nx:=N,rt:=Q }) (fun j σ H'=>∃ (s4 s5:Option V),σ=[some (.ref x),some (.ref td),some (.ref f),some (.ref t),s4,s5]∧But t H1 H'∧Rs H' t (((mos (rr.take j)).filter (kq e r)).map dup)) ⟨_,_,rfl,But.refl _ _,⟨[],ht1,.nil⟩⟩ (fun j σ H' _ ⟨_,_,_,b,_⟩=>SqL.of (b _ _ hfq nft)) ?_ ?_⟩
     · rintro j z σ H2 hz ⟨s4,s5,rfl,B2,⟨zt,ht,tt⟩⟩;obtain⟨w,u,hw',rfl,hu0⟩:=tz.of hz;have hu:=B2 _ _ hu0 (Qm hu0 ht1 (by intro z;cases z));have mw:=List.mem_of_getElem? hw';have w12:=can.1 w mw;have b1:=lb w.1 (lm _ ((Zi tq.nd due _).mpr <| (mem _).mp ⟨w,mw,Int.le_refl _,w12⟩));have b2:=lb w.2 (lm _ ((Zi tq.nd due _).mpr <| (mem _).mp ⟨w,mw,w12,Int.le_refl _⟩));have lt:=tt.1;rw[List.length_map]at lt;have l0:=lenu j;have l1:=lenu (j+1);rw[qag hw',List.filter_append,List.length_append]at l1;refine⟨u,_,rfl,SqT.of hu,rfl,_,_,rfl,_,_,rfl,rfl,?_⟩;refine⟨_,rfl,.inl ⟨rfl,_,SqL.of ht⟩,_,rfl,_,rfl,.inl ⟨_,_,rfl,rfl,_,_,rfl,⟨by omega,by omega,by omega,by omega⟩,fun D fD=>?_⟩⟩;have eT:(w.2+1 - w.1).toNat=(w.2+1 - w.1).toNat:=rfl;refine Jl (lo:=w.1) (n:=(w.2+1 - w.1).toNat) (D:=D) (fun i σ H3=>∃ (c0:Option V) (ys:List V),σ=[c0,some (.ref f)]∧Same H2 H3∧H3 D=some (.lst ys)∧TupL pr H3 ys ((((List.range i).map fun k:Nat=>w.1+(k:Int)).filter (kq e r)).map dup)) ⟨none,[],rfl,Same.new _ fD,qc,.nil⟩ ?_ ?_
       · rintro i σ H3 hi ⟨c0,ys,rfl,S3,hD,ty⟩
         have es:(((List.range (i+1)).map fun k:Nat=>w.1+(k:Int)).filter (kq e r))=(((List.range i).map fun k:Nat=>w.1+(k:Int)).filter (kq e r))++(if kq e r (w.1+(i:Int))=true then [w.1+(i:Int)] else []):=by
           rw[List.range_succ,List.map_append,List.filter_append];congr 1;show List.filter (kq e r) [w.1+(i:Int)]=_;rw[List.filter_cons];split<;>rfl
         have SH3:Same H H3:=fun b o e'=>S3 b o (B2 b o (S1 b o (S0 b o e')) (qi e' ft));have hf3:=Clo.same hf SH3;have hs3:Sv H3 sv e r:=⟨SH3 _ _ hsv.1,hsv.2⟩
         obtain⟨cl,c,pm,ctv,hfo,_,_,_,_⟩:=id hf3;refine⟨_,rfl,f,spK f,_,_,rfl,hfo,rfl,rfl,_,rfl,hfo,w.1+(i:Int),sv,e,r,rfl,hf3,hs3,_,rfl,?_⟩;refine qhA (fun g=>?_) (fun g=>?_)
         · refine⟨_,rfl,_,rfl,qk (Nat.le_of_ble_eq_true rfl),fun v fv=>⟨ys,(Same.new _ fv) _ _ hD,qB ?_,_,_,rfl,(S3.trans (Same.new _ fv)).put fD _,qc,?_⟩⟩
           · have h1:=ty.1;rw[List.length_map]at h1
             have h2:(((List.range i).map fun k:Nat=>w.1+(k:Int)).filter (kq e r)).length≤((mo w).filter (kq e r)).length:=by
               refine List.Sublist.length_le (List.Sublist.filter _ ?_);unfold mo;exact List.Sublist.map _ (List.range_sublist.mpr (by omega))
             omega
           · rw[es,if_pos g,List.map_append];exact((ty.same (Same.new _ fv)).snoc (p:=dup (w.1+(i:Int))) qc).put ((Same.new _ fv) _ _ hD)
         · refine⟨_,ys,rfl,S3,hD,?_⟩;rw[es,if_neg (by rw[show kq e r (w.1+(i:Int))=false from g];decide),List.append_nil];exact ty
       · rintro σ H3 ⟨c0,ys,rfl,S3,hD,ty⟩;have tyw:TupL pr H3 ys (((mo w).filter (kq e r)).map dup):=ty;have ly:=tyw.1;rw[List.length_map]at ly;refine⟨t,D,_,_,rfl,rfl,S3 _ _ ht,hD,Nat.le_of_lt (qB (by omega)),?_⟩;refine⟨_,_,rfl,fun b o e nb=>by rw[qj nb];exact S3 b o (B2 b o e nb),?_⟩;rw[qag hw',List.filter_append,List.map_append];exact⟨_,qc,TupL.put (qhK (tt.same S3) tyw) (S3 _ _ ht)⟩
     · rintro σ H2 ⟨s4,s5,rfl,B2,R2⟩;rw[lz,List.take_length]at R2;refine hN _ _ ⟨_,_,_,rfl,fun b o e=>B2 b o (S1 b o (S0 b o e)) (qi e ft),R2,by have:=lenu rr.length;rw[List.take_length]at this;exact this,(qd7 can).sublist List.filter_sublist,fun n=>?_⟩;rw[List.mem_filter,mem_mos,mem];simp only[decide_eq_true_eq]
   rintro _ H2 ⟨s4,s5,us,rfl,S2,R2,l2,as2,m2⟩;refine⟨_,rfl,t,us.map dup,rfl,R2,qfS as2 l2,fun d rr H3 fd S3 R3 c3 l3 m3=>?_⟩;refine kk d rr H3 (S2.none fd) (S2.trans S3) R3 c3 (by rw[List.length_map]at l3;omega) fun n=>?_;rw[m3,qgI,m2]
end
def Has (ts:Pls) (pl:Str):Prop:=pl=""∨pl∈ts.map (·.1)
def MB (ts:Pls) (e r:Int) (b:Bk) (n:Int):Prop:=ME ts b.wd b.pl b.lo b.hi n∧(b.sf=true->n % e=r)
abbrev SpB (b:Bk):Prop:=Spc b.wd b.nm b.pl b.lo b.hi
theorem qfT {K:Frag}{mg:Str->Option Value}{a:Ad} (T:Txt K mg a) {te:TE}{ta:TA}{σ:L2.St}{H:Hp}{Q:VK}{E:XK}{b:Bk}{sv td:Addr}{e r:Int}{ts:Pls} (hte:∀ R:V->Hp->Prop,R (.ref b.x) H->te σ H R) (hta:∀ R:List V->Hp->Prop,R [.ref td] H->ta σ H R)
   (en:EnK a sv H b) (sp:SpB b) (hsv:b.sf=true->Sv H sv e r) (tq:Tq a H td ts)
   (k:(Has ts b.pl∧∀ (f:Addr) (rr:List (Int×Int)) (H':Hp),H f=none->Same H H'->Rs H' f rr->qR rr->rr.length≤1000->(∀ n,Mem rr n↔MB ts e r b n)->Q (.ref f) H')∨(b.pl≠""∧b.pl∉ts.map (·.1)∧Rz a.c_NoPlace "found" (.str b.pl) H E)):QF a.c_Entry "spans" QB [] E0 te ta σ H Q∨QF a.c_Within "spans" (qU K) [] E0 te ta σ H Q∨QF a.c_At "spans" (qU K) [] E0 te ta σ H Q∨QF a.c_Between "spans" (q9 a) [] E te ta σ H Q∨QF a.c_Read "spans" (q9 a) [] E te ta σ H Q∨QF a.c_Sifted "spans" (Qh a) [] E te ta σ H Q:=by
 cases en with
 | @one x wd nm pl lo hi en =>
   dsimp only [Bk.x,Bk.wd,Bk.nm,Bk.pl,Bk.lo,Bk.hi]at sp k hte;have mb1:∀ n,ME ts wd pl lo hi n↔MB ts e r (.one x wd nm pl lo hi) n:=fun n=>⟨fun h=>⟨h,fun z=>by cases z⟩,fun h=>h.1⟩
   cases en with
   | @any dx _ hx =>
     rcases k with ⟨_,k⟩|⟨z,_⟩
     · exact .inl (hte _ ⟨x,dx,_,rfl,hx,rfl,hta _ ⟨_,_,rfl,fun f H' ff S' R=>k f _ H' ff S' R ⟨fun w m=>by rw[List.mem_singleton.mp m];decide,List.pairwise_singleton _ _⟩ (by decide) fun n=>(Zi tq.nd (.no (.inl rfl)) n).trans (mb1 n)⟩⟩)
     · exact absurd rfl z
   | @within dx _ _ _ hx =>
     rcases k with ⟨_,k⟩|⟨z,_⟩
     · exact .inr (.inl (hte _ ⟨x,dx,_,rfl,hx,rfl,hta _ ⟨x,_,dx,_,_,_,_,rfl,hx,T.cl_Within,T.n_Within_low,T.n_Within_high,fun f r H' ff S' R c l m=>k f r H' ff S' R c (Nat.le_trans l (by decide)) fun n=>(m n).trans ((Zi tq.nd (.no (.inr (.inl rfl))) n).trans (mb1 n))⟩⟩))
     · exact absurd rfl z
   | @at_ dx _ _ hx =>
     rcases k with ⟨_,k⟩|⟨z,_⟩
     · exact .inr (.inr (.inl (hte _ ⟨x,dx,_,rfl,hx,rfl,hta _ ⟨x,_,dx,_,_,_,_,rfl,hx,T.cl_At,T.n_At_low,T.n_At_high,fun f r H' ff S' R c l m=>k f r H' ff S' R c (Nat.le_trans l (by decide)) fun n=>(m n).trans ((Zi tq.nd (.no (.inr (.inr rfl))) n).trans (mb1 n))⟩⟩)))
     · exact absurd rfl z
   | @between dx _ _ _ _ hx =>
     have okp:zc (.str pl)=true∧(-10000000000≤lo∧lo≤10000000000)∧(-10000000000≤hi∧hi≤10000000000):=by cases sp with|between _ h b1 b2=>exact⟨h,b1,b2⟩
     refine .inr <| .inr <| .inr <| .inl (hte _ ⟨x,dx,_,rfl,hx,rfl,hta _ ⟨x,_,dx,td,_,_,_,_,rfl,.inl rfl,hx,?_⟩⟩);rcases k with ⟨hp,k⟩|⟨_,no,kz⟩
     · obtain⟨t,mt,et⟩:=List.mem_map.mp (hp.resolve_left (QD okp.1));have et':t.1=pl:=et;refine .inl ⟨t.2.1,t.2.2,.inl ⟨_,.inr pl,.inl tq.ht,rfl,?_⟩,tq.tt t mt,tq.tg t mt,okp.2.1,okp.2.2,fun f r H' ff S' R c l m=>k f r H' ff S' R c (Nat.le_trans l (by decide)) fun n=>(m n).trans ((Zi tq.nd (.pl (.inl rfl) mt et') n).trans (mb1 n))⟩;rw[← et'];exact(qbv tq.nd t mt).symm
     · exact .inr ⟨.inl ⟨_,.inr pl,.inl tq.ht,rfl,(qfH no).symm⟩,kz⟩
   | @read dx _ _ _ hx =>
     have okp:zc (.str pl)=true∧(-10000000000≤lo∧lo≤10000000000)∧(-10000000000≤lo∧lo≤10000000000):=by cases sp with|read _ h b1=>exact⟨h,b1,b1⟩
     refine .inr <| .inr <| .inr <| .inr <| .inl (hte _ ⟨x,dx,_,rfl,hx,rfl,hta _ ⟨x,_,dx,td,_,_,_,_,rfl,.inr rfl,hx,?_⟩⟩);rcases k with ⟨hp,k⟩|⟨_,no,kz⟩
     · obtain⟨t,mt,et⟩:=List.mem_map.mp (hp.resolve_left (QD okp.1));have et':t.1=pl:=et;refine .inl ⟨t.2.1,t.2.2,.inl ⟨_,.inr pl,.inl tq.ht,rfl,?_⟩,tq.tt t mt,tq.tg t mt,okp.2.1,okp.2.2,fun f r H' ff S' R c l m=>k f r H' ff S' R c (Nat.le_trans l (by decide)) fun n=>(m n).trans ((Zi tq.nd (.pl (.inr rfl) mt et') n).trans (mb1 n))⟩;rw[← et'];exact(qbv tq.nd t mt).symm
     · exact .inr ⟨.inl ⟨_,.inr pl,.inl tq.ht,rfl,(qfH no).symm⟩,kz⟩
 | @sift x p f dx wd nm pl lo hi hx en hf hw =>
   refine .inr <| .inr <| .inr <| .inr <| .inr <| hte _ ⟨x,dx,_,rfl,hx,rfl,hta _ ⟨x,p,f,td,sv,wd,nm,pl,lo,hi,e,r,ts,rfl,.sift hx en hf hw,hsv rfl,sp,tq,?_⟩⟩;exact k.imp (fun⟨h,k⟩=>⟨h,fun d rr H' fd S R c l m=>k d rr H' fd S R c l fun n=>(m n).trans ⟨fun⟨z1,z2⟩=>⟨z1,fun _=>z2⟩,fun⟨z1,z2⟩=>⟨z1,z2 rfl⟩⟩⟩) id
inductive Zc (a:Ad) (vs:List V) (H:Hp) (Q:VK) (E:XK):Prop
 | mk (x dx l td sv:Addr) (nm:Str) (bs:List Bk) (e r:Int) (ts:Pls) (h1:vs=[.ref x,.ref td]) (h2:H x=some (.ins a.c_Joint dx (fsJ nm l))) (h3:H l=some (.lst (rfs (bs.map Bk.x)))) (h4:bs.length≤8) (h5:(∀ b∈bs,EnK a sv H b∧SpB b)) (h6:H sv=some (.lst [.int e,.int r])) (h7:(∀ b∈bs,b.sf=true->0 < e)) (h8:Tq a H td ts) (h9:(((∀ b∈bs,Has ts b.pl)∧∀ (d:Addr) (rr:List (Int×Int)) (H':Hp),H d=none->Same H H'->Rs H' d rr->qR rr->rr.length≤8001->(∀ n,Mem rr n↔(0≤n∧n≤1000000000)∧∀ b∈bs,MB ts e r b n)->Q (.ref d) H') ∨
  (∃ (us:List Bk) (b:Bk) (ws:List Bk),bs=us++b::ws∧(∀ u∈us,Has ts u.pl)∧b.pl≠("":Str)∧b.pl∉ts.map (·.1)∧Rz a.c_NoPlace "found" (.str b.pl) H E))):Zc a vs H Q E
def QA (a:Ad):Sp:=fun vs H Q E=>Zc a vs H Q E
theorem qe4 {α:Type}{p:α->Prop}{l:List α}{i:Nat}{x:α} (h:l[i]?=some x):(∀ y∈l.take (i+1),p y)↔(∀ y∈l.take i,p y)∧p x:=by
 rw[List.take_add_one,h];constructor
 · intro k;exact⟨fun y m=>k y (List.mem_append_left _ m),k x (List.mem_append_right _ (List.mem_singleton.mpr rfl))⟩
 · rintro⟨k1,k2⟩ y m;rcases List.mem_append.mp m with m|m
   · exact k1 y m
   · rw[show y=x from List.mem_singleton.mp m];exact k2
section
variable {P:Program}{w:World}{K:Frag}{mg:Str->Option Value}{base:Heap}
theorem ji {a:Ad} (T:Txt K mg a):qD P w K mg base (CX1 P w) 8 a.f_u a.fd_u ["self","tables"] (QA a):=by
 have G_M:=qjV (P:=P) (w:=w) (base:=base) T;have G_ab:=qbo (P:=P) (w:=w) (base:=base) T;have G_d:=Qk (P:=P) (w:=w) (base:=base) T;have G_m:=Zh (P:=P) (w:=w) (base:=base) T;have G_aj:=qaL (P:=P) (w:=w) (base:=base) T;refine T.d_u.F.okX sc_Joint_spans (fun vs H Q E h=>?_) (fun cdv A outer s H vs Q E hr h=>?_)
 · obtain⟨x,dx,l,td,sv,nm,bs,e,r,ts,rfl,hx,hl,n8,enb,hsv,he,tq,kk⟩:=h;rfl
 · obtain⟨x,dx,l,td,sv,nm,bs,e,r,ts,rfl,hx,hl,n8,enb,hsv,he,tq,kk⟩:=h;have h_M:Room (1) _:=hr.mono (by decide);have h_ab:Room (1) _:=hr.mono (by decide);have h_d:Room (5) _:=hr.mono (by decide);have h_m:Room (6) _:=hr.mono (by decide);have h_aj:Room (7) _:=hr.mono (by decide);obtain⟨t_LAST,c_LAST⟩:=T.g_LAST
   refine⟨_,(qe (qx (i:=2) sc_Joint_spans.nd rfl (Or.inl rfl) (qJ (qa (qV (qa qd (qa (zI (v:=.int 1000000000) rfl c_LAST ⟨_,rfl⟩) qb))) qb)))
     (qe (zx PassesOwn.leaving rfl (qX (zl (pv 0) rfl)) (qr (i:=3) (sc_Joint_spans.nd) rfl (Or.inl rfl))
       (qf (qx (i:=2) sc_Joint_spans.nd rfl (Or.inl rfl) (qh G_M h_M rfl T.d_M.m T.d_M.k T.d_M.b .nil qq (qa (pv 2) (qa (PE.or (zV (pv 3) T.cl_Entry T.d_ab.mt G_ab h_ab T.d_ab.b .nil qq (qa (pv 1) qb)) (PE.or (zV (pv 3) T.cl_Within T.d_d.mt G_d h_d T.d_d.b .nil qq (qa (pv 1) qb)) (PE.or (zV (pv 3) T.cl_At T.i_At_spans G_d h_d T.d_d.b .nil qq (qa (pv 1) qb)) (PE.or (zV (pv 3) T.cl_Between T.d_m.mt G_m h_m T.d_m.b .nil throws_cx.passes (qa (pv 1) qb)) (PE.or (zV (pv 3) T.cl_Read T.i_Read_spans G_m h_m T.d_m.b .nil throws_cx.passes (qa (pv 1) qb)) (zV (pv 3) T.cl_Sifted T.d_aj.mt G_aj h_aj T.d_aj.b .nil throws_cx.passes (qa (pv 1) qb))))))) qb))))))
     (qf (qt (pv 2))))),?_⟩
   try dsimp only [zb,Cx.nox]
   refine⟨qk (Nat.le_of_ble_eq_true rfl),fun t0 f0=>⟨qk (Nat.le_of_ble_eq_true rfl),fun d0 fd0=>?_⟩⟩;have S1:=Same.new (.tup [.int 0,.int 1000000000]) f0;have S2:=Same.new (.lst [.ref t0]) fd0;have R0:Rs (upd (upd H t0 (.tup [.int 0,.int 1000000000])) d0 (.lst [.ref t0])) d0 [(0,1000000000)]:=qdc (w:=(0,1000000000)) (S2 _ _ qc) qc;have S0:=S1.trans S2;have g0:H d0=none:=S1.none fd0;generalize upd (upd H t0 (.tup [.int 0,.int 1000000000])) d0 (.lst [.ref t0])=G at R0 S0 ⊢;(try unfold qK);(try dsimp only)
   obtain⟨m,hm,stop⟩:∃ m:Nat,(∀ j b,j < m->bs[j]?=some b->Has ts b.pl)∧((m=bs.length∧(∀ (d:Addr) (rr:List (Int×Int)) (H':Hp),H d=none->Same H H'->Rs H' d rr->qR rr->rr.length≤8001->(∀ n,Mem rr n↔(0≤n∧n≤1000000000)∧∀ b∈bs,MB ts e r b n)->Q (.ref d) H'))∨(m < bs.length∧∃ b,bs[m]?=some b∧b.pl≠""∧b.pl∉ts.map (·.1)∧Rz a.c_NoPlace "found" (.str b.pl) H E)):=by
     rcases kk with ⟨ha,kk⟩|⟨us,b,ws,rfl,ha,z1,z2,kz⟩
     · exact⟨bs.length,fun j b _ h=>ha b (List.mem_of_getElem? h),.inl ⟨rfl,kk⟩⟩
     · refine⟨us.length,fun j b' lt h=>?_,.inr ⟨by rw[List.length_append,List.length_cons];omega,b,?_,z1,z2,kz⟩⟩
       · rw[List.getElem?_append_left lt]at h;exact ha b' (List.mem_of_getElem? h)
       · rw[List.getElem?_append_right (Nat.le_refl _),Nat.sub_self];rfl
   refine⟨_,rfl,x,_,dx,_,_,rfl,S0 _ _ hx,T.cl_Joint,T.n_Joint_kept_parts,rfl,l,rfl,⟨_,SqL.of (S0 _ _ hl)⟩,zy (K:=K) (a:=l) (xs:=rfs (bs.map Bk.x)) (D:={ nx:=qhL (qiI 2) { nx:=fun _ H'=>Q .non H',rt:=Q },rt:=Q }) (fun j σ H'=>∃ (s3:Option V) (d:Addr) (rr:List (Int×Int)),σ=[some (.ref x),some (.ref td),some (.ref d),s3]∧Same H H'∧H d=none∧Rs H' d rr∧qR rr∧rr.length≤1+1000 * j∧j≤m∧∀ n,Mem rr n↔(0≤n∧n≤1000000000)∧∀ b∈bs.take j,MB ts e r b n) ⟨none,d0,_,rfl,S0,g0,R0,⟨fun w m=>by rw[List.mem_singleton.mp m];decide,List.pairwise_singleton _ _⟩,Nat.le_of_ble_eq_true rfl,Nat.zero_le _,fun n=>?_⟩ (fun j σ H' _ ⟨_,_,_,_,S,_⟩=>SqL.of (S _ _ hl)) ?_ ?_⟩
   · constructor
     · rintro⟨w,mw,h1,h2⟩;rw[List.mem_singleton.mp mw]at h1 h2;exact⟨⟨h1,h2⟩,fun b mb=>nomatch mb⟩
     · rintro⟨h,_⟩;exact⟨_,List.mem_singleton.mpr rfl,h.1,h.2⟩
   · rintro j z σ H2 hz ⟨s3,d,rr,rfl,S,gd,R,can,lr,jm,mem⟩;obtain⟨y,hy,rfl⟩:=zY hz;rw[List.getElem?_map]at hy;obtain⟨b,hb,rfl⟩:=Option.map_eq_some_iff.mp hy;have mb:=List.mem_of_getElem? hb;have jl:j < bs.length:=(List.getElem?_eq_some_iff.mp hb).1;obtain⟨en,sp⟩:=enb b mb;refine⟨_,rfl,qfT T (sv:=sv) (e:=e) (r:=r) (fun R h=>⟨_,rfl,h⟩) (fun R h=>⟨_,rfl,h⟩) (en.same S) sp (fun z=>⟨S _ _ hsv,he b mb z⟩) (tq.sm S) ?_⟩;by_cases jm':j < m
     · refine .inl ⟨hm j b jm' hb,fun f r2 H3 ff S3 R3 c3 l3 m3=>?_⟩;refine⟨d,f,rr,r2,rfl,R.same S3,R3,can,c3,by omega,fun d4 r4 H4 fd4 S4 R4 c4 l4 m4=>?_⟩;refine⟨_,d4,r4,rfl,(S.trans S3).trans S4,(S.trans S3).none fd4,R4,c4,by omega,jm',fun n=>?_⟩;rw[m4,mem,m3,qe4 hb];exact and_assoc
     · have ej:j=m:=by omega
       subst ej;rcases stop with ⟨z,_⟩|⟨_,b',hb',z1,z2,kz⟩
       · omega
       · rw[hb]at hb';cases hb';exact .inr ⟨z1,z2,kz.same S⟩
   · rintro σ H2 ⟨s3,d,rr,rfl,S,gd,R,can,lr,jm,mem⟩;have lb:(rfs (bs.map Bk.x)).length=bs.length:=by rw[List.length_map,List.length_map]
     rw[lb]at lr jm mem;rcases stop with ⟨_,kk⟩|⟨z,_⟩
     · rw[List.take_length]at mem;exact⟨_,rfl,kk d rr H2 gd S R can (by omega) mem⟩
     · omega
end
theorem qeO {n:Str}{ns:List Str}:inV (.str n) (ns.map V.str)=decide (n∈ns):=by
 unfold inV;rw[List.any_map,Bool.eq_iff_iff,List.any_eq_true,decide_eq_true_iff];constructor
 · rintro⟨y,m,e⟩
   have:y=n:=by simpa[eqV] using e
   exact this▸m
 · intro m;exact⟨n,m,by simp[eqV]⟩
theorem qdx (ns:List Str):(ns.map V.str).all qcB=true:=by
 rw[List.all_map,List.all_eq_true];intro x _;rfl
theorem qdN {α:Type}{p:α->Bool}{l:List α}{i:Nat}{x:α} (h:l[i]?=some x):(l.take (i+1)).filter p=(l.take i).filter p++(if p x=true then [x] else []):=by
 rw[List.take_add_one,h,List.filter_append];congr 1;by_cases c:p x=true
 · simp[c]
 · simp[c]
def qjl (ss:List Str) (pl:Str):List Str:=ss++(pls pl).filter fun s=>decide (s∉ss)
def plJ (l:List Str):List Str:=l.foldl qjl []
theorem qcj {l:List Str}{i:Nat}{x:Str} (h:l[i]?=some x):plJ (l.take (i+1))=qjl (plJ (l.take i)) x:=by
 unfold plJ;rw[List.take_add_one,h,List.foldl_append];rfl
theorem qck (l:List Str) (i:Nat):(plJ (l.take i)).length≤i:=by
 induction i with
 | zero=>exact Nat.zero_le _
 | succ i ih =>
   cases h:l[i]? with
   | none =>
     have:l.take (i+1)=l.take i:=by rw[List.take_add_one,h];simp
     rw[this];omega
   | some x =>
     rw[qcj h];unfold qjl;rw[List.length_append];have h1:=List.length_filter_le (fun s=>decide (s∉plJ (l.take i))) (pls x);have h2:(pls x).length≤1:=by unfold pls;split<;>exact Nat.le_of_ble_eq_true rfl
     omega
theorem qfe {K:Frag}{mg:Str->Option Value}{a:Ad} (T:Txt K mg a) {te:TE}{σ:L2.St}{H:Hp}{Q:VK}{b:Bk}{sv:Addr} (hte:∀ R:V->Hp->Prop,R (.ref b.x) H->te σ H R) (en:EnK a sv H b) (sp:SpB b)
   (k:∀ l,H l=none->Q (.ref l) (upd H l (.lst ((pls b.pl).map V.str)))):QF a.c_Entry "places" qN [] E0 te qfN σ H Q∨QF a.c_Within "places" qN [] E0 te qfN σ H Q∨QF a.c_At "places" qN [] E0 te qfN σ H Q∨QF a.c_Between "places" (qT K) [] E0 te qfN σ H Q∨QF a.c_Read "places" (qT K) [] E0 te qfN σ H Q∨QF a.c_Sifted "places" (Qa a) [] E0 te qfN σ H Q:=by
 cases en with
 | @one x wd nm pl lo hi en =>
   dsimp only [Bk.x,Bk.wd,Bk.nm,Bk.pl,Bk.lo,Bk.hi]at sp k hte
   cases en with
   | @any dx _ hx=>exact .inl (hte _ ⟨x,dx,_,rfl,hx,rfl,_,rfl,fun l fl=>k l fl⟩)
   | @within dx _ _ _ hx=>exact .inr (.inl (hte _ ⟨x,dx,_,rfl,hx,rfl,_,rfl,fun l fl=>k l fl⟩))
   | @at_ dx _ _ hx=>exact .inr (.inr (.inl (hte _ ⟨x,dx,_,rfl,hx,rfl,_,rfl,fun l fl=>k l fl⟩)))
   | @between dx _ _ _ _ hx =>
     have e:pls pl=[pl]:=if_neg (QD (by cases sp with|between _ h b1 b2=>exact h));rw[e]at k;exact .inr <| .inr <| .inr <| .inl (hte _ ⟨x,dx,_,rfl,hx,rfl,x,_,dx,_,_,_,_,rfl,hx,T.cl_Between,T.n_Between_place,fun l fl=>k l fl⟩)
   | @read dx _ _ _ hx =>
     have e:pls pl=[pl]:=if_neg (QD (by cases sp with|read _ h b1=>exact h));rw[e]at k;exact .inr <| .inr <| .inr <| .inr <| .inl (hte _ ⟨x,dx,_,rfl,hx,rfl,x,_,dx,_,_,_,_,rfl,hx,T.cl_Read,T.n_Read_place,fun l fl=>k l fl⟩)
 | @sift x p f dx wd nm pl lo hi hx en hf hw =>
   exact .inr <| .inr <| .inr <| .inr <| .inr <| hte _ ⟨x,dx,_,rfl,hx,rfl,x,p,f,sv,wd,nm,pl,lo,hi,rfl,.sift hx en hf hw,sp,k⟩
inductive QM (a:Ad) (vs:List V) (H:Hp) (Q:VK):Prop
 | mk (x dx l sv:Addr) (nm:Str) (bs:List Bk) (h1:vs=[.ref x]) (h2:H x=some (.ins a.c_Joint dx (fsJ nm l))) (h3:H l=some (.lst (rfs (bs.map Bk.x)))) (h4:bs.length≤8) (h5:(∀ b∈bs,EnK a sv H b∧SpB b)) (h6:∀ (d:Addr) (H':Hp),H d=none->Same H H'->H' d=some (.lst ((plJ (bs.map Bk.pl)).map V.str))->Q (.ref d) H'):QM a vs H Q
def Zy (a:Ad):Sp:=fun vs H Q _=>QM a vs H Q
section
variable {P:Program}{w:World}{K:Frag}{mg:Str->Option Value}{base:Heap}
theorem qaO {a:Ad} (T:Txt K mg a):qD P w K mg base CX0 3 a.f_ag a.fd_ag ["self"] (Zy a):=by
 have G_b:=Ql (P:=P) (w:=w) (base:=base) T;have G_e:=zW (P:=P) (w:=w) (base:=base) T;have G_ai:=JZ (P:=P) (w:=w) (base:=base) T;refine T.d_ag.F.ok sc_Joint_places (fun vs H Q E h=>?_) (fun cdv A outer s H vs Q E hr h=>?_)
 · obtain⟨x,dx,l,sv,nm,bs,rfl,hx,hl,n8,enb,kk⟩:=h;rfl
 · obtain⟨x,dx,l,sv,nm,bs,rfl,hx,hl,n8,enb,kk⟩:=h;have h_b:Room (1) _:=hr.mono (by decide);have h_e:Room (1) _:=hr.mono (by decide);have h_ai:Room (2) _:=hr.mono (by decide)
   refine⟨_,(qe (qx (i:=1) sc_Joint_places.nd rfl (Or.inr rfl) (qJ qb))
     (qe (zx PassesOwn.never rfl (qX (zl (pv 0) rfl)) (qr (i:=2) (sc_Joint_places.nd) rfl (Or.inl rfl))
       (qf (qI (ZG PySem.F.plainAttrs_list PySem.F.slot_list_extend PySem.F.type_list_extend qdi (pv 1) (qa (zJ rfl (CompOk.def ["place","told"] [none,some 1]) (qX (PE.or (qG (pv 2) T.cl_Entry T.d_b.mt G_b h_b T.d_b.b .nil qq) (PE.or (qG (pv 2) T.cl_Within T.i_Within_places G_b h_b T.d_b.b .nil qq) (PE.or (qG (pv 2) T.cl_At T.i_At_places G_b h_b T.d_b.b .nil qq) (PE.or (qG (pv 2) T.cl_Between T.d_e.mt G_e h_e T.d_e.b .nil qq) (PE.or (qG (pv 2) T.cl_Read T.i_Read_places G_e h_e T.d_e.b .nil qq) (qG (pv 2) T.cl_Sifted T.d_ai.mt G_ai h_ai T.d_ai.b .nil qq))))))) (fun _ _ _ _ _=>(qr (i:=0) (show List.Nodup (["place","told"]:List Str) by decide +kernel) rfl (Or.inl rfl))) (fun _ _ _ _ _=>(Jb (qw (r:=rIn K true) JN (pv 0) (pv 1) (by with_unfolding_all rfl)))) (fun _ _ _ _ _=>(pv 0))) qb)))))
     (qf (qt (pv 1))))),?_⟩
   try dsimp only [zb,Cx.nox]
   refine⟨qk (Nat.le_of_ble_eq_true rfl),fun t ft=>?_⟩;generalize hG:upd H t _=G;obtain⟨S0,e0⟩:=qF hG ft;clear hG;(try unfold qK);(try dsimp only);refine qL (t:=qed _ _ _) (fun σ' H'=>∃ (s2:Option V),σ'=[some (.ref x),some (.ref t),s2]∧Same H H'∧H' t=some (.lst ((plJ (bs.map Bk.pl)).map V.str))) (fun N hN=>?_) ?_
   · refine⟨_,rfl,x,_,dx,_,_,rfl,S0 _ _ hx,T.cl_Joint,T.n_Joint_kept_parts,rfl,l,rfl,⟨_,SqL.of (S0 _ _ hl)⟩,zy (K:=K) (a:=l) (xs:=rfs (bs.map Bk.x)) (D:={ nx:=N,rt:=Q }) (fun j σ H'=>∃ (s2:Option V),σ=[some (.ref x),some (.ref t),s2]∧Same H H'∧H' t=some (.lst ((plJ ((bs.map Bk.pl).take j)).map V.str))) ⟨_,rfl,S0,e0⟩ (fun j σ H' _ ⟨_,_,S,_⟩=>SqL.of (S _ _ hl)) ?_ ?_⟩
     · rintro j z σ H2 hz ⟨s2,rfl,S2,ht⟩;obtain⟨y,hy,rfl⟩:=zY hz;rw[List.getElem?_map]at hy;obtain⟨b,hb,rfl⟩:=Option.map_eq_some_iff.mp hy;have mb:=List.mem_of_getElem? hb;have jl:j < bs.length:=(List.getElem?_eq_some_iff.mp hb).1;obtain⟨en,sp⟩:=enb b mb;have hpl:(bs.map Bk.pl)[j]?=some b.pl:=by rw[List.getElem?_map,hb];rfl
       have ln:=qck (bs.map Bk.pl) j;have sn:=qcj hpl;generalize plJ ((bs.map Bk.pl).take j)=ss at ht ln sn;refine⟨_,rfl,.inl ⟨rfl,_,SqL.of ht⟩,?_⟩;refine qfe T (fun R h=>⟨_,rfl,h⟩) (en.same S2) sp fun l1 fl1=>?_;generalize hG:upd H2 l1 _=G2;obtain⟨S3,e3⟩:=qF hG fl1;clear hG;have lp:(pls b.pl).length≤1:=by unfold pls;split<;>exact Nat.le_of_ble_eq_true rfl
       refine⟨l1,rfl,⟨_,SqL.of e3⟩,fun D fD=>?_⟩;refine zM (K:=K) (a:=l1) (xs:=(pls b.pl).map V.str) (D:=D) (fun i σ H4=>∃ c0:Option V,σ=[c0,some (.ref t)]∧Same G2 H4∧H4 D=some (.lst ((((pls b.pl).take i).filter fun s=>decide (s∉ss)).map V.str))) ⟨none,rfl,Same.new _ fD,qc⟩ (fun i σ H4 _ ⟨_,_,S4,_⟩=>SqL.of (S4 _ _ e3)) ?_ ?_
       · rintro i y σ H4 hy ⟨c0,rfl,S4,hD⟩
         obtain⟨s,hs,rfl⟩:∃ s,(pls b.pl)[i]?=some s∧V.str s=y:=by
           rw[List.getElem?_map]at hy;exact Option.map_eq_some_iff.mp hy
         have tf:=qdN (p:=fun s=>decide (s∉ss)) hs;refine⟨_,rfl,_,rfl,t,_,rfl,.inl (SqL.of (S4 _ _ (S3 _ _ ht))),rfl,qdx _,_,rfl,?_⟩;rw[qeO];by_cases c:s∈ss
         · refine qS (by simp[c]) ⟨_,rfl,S4,?_⟩;rw[tf,if_neg (by simpa using c),List.append_nil];exact hD
         · refine Ji (by simp[c]) ?_;refine⟨_,rfl,_,hD,qB ?_,_,rfl,S4.put fD _,?_⟩
           · rw[List.length_map];have h1:=List.length_filter_le (fun s=>decide (s∉ss)) ((pls b.pl).take i);rw[List.length_take]at h1;omega
           · rw[qc,tf,if_pos (by simpa using c),List.map_append];rfl
       rintro σ H4 ⟨c0,rfl,S4,hD⟩;rw[List.length_map,List.take_length]at hD;have lf:=List.length_filter_le (fun s=>decide (s∉ss)) (pls b.pl);refine⟨t,D,_,_,rfl,rfl,S4 _ _ (S3 _ _ ht),hD,Nat.le_of_lt (qB (by rw[List.length_map,List.length_map];omega)),?_⟩;refine⟨_,rfl,((S2.trans S3).trans S4).put ft _,?_⟩;rw[qc,sn,← List.map_append];rfl
     · rintro σ H2 ⟨s2,rfl,S2,ht⟩;have lb:(rfs (bs.map Bk.x)).length=(bs.map Bk.pl).length:=by rw[List.length_map,List.length_map,List.length_map]
       rw[lb,List.take_length]at ht;exact hN _ _ ⟨_,rfl,S2,ht⟩
   rintro _ H2 ⟨s2,rfl,S2,ht⟩;exact⟨_,rfl,kk t H2 ft S2 ht⟩
end
def itr (a b:Int×Int):List (Int×Int):=if mx2 a.1 b.1≤mn2 a.2 b.2 then [(mx2 a.1 b.1,mn2 a.2 b.2)] else []
def com (A B:List (Int×Int)):List (Int×Int):=A.flatMap fun a=>B.flatMap (itr a)
theorem qdh (x y:Int):x≤mx2 x y∧y≤mx2 x y∧(mx2 x y=x∨mx2 x y=y):=by unfold mx2;split<;>omega
theorem qeG (x y:Int):mn2 x y≤x∧mn2 x y≤y∧(mn2 x y=x∨mn2 x y=y):=by unfold mn2;split<;>omega
theorem mem_itr {a b w:Int×Int}:w∈itr a b↔mx2 a.1 b.1≤mn2 a.2 b.2∧w=(mx2 a.1 b.1,mn2 a.2 b.2):=by
 unfold itr;split
 · rw[List.mem_singleton];exact⟨fun h=>⟨by assumption,h⟩,fun h=>h.2⟩
 · exact⟨fun h=>(nomatch h),fun h=>absurd h.1 (by assumption)⟩
theorem mem_com {A B:List (Int×Int)}{w:Int×Int}:w∈com A B↔∃ a∈A,∃ b∈B,mx2 a.1 b.1≤mn2 a.2 b.2∧w=(mx2 a.1 b.1,mn2 a.2 b.2):=by
 unfold com;rw[List.mem_flatMap];constructor
 · rintro⟨a,ma,h⟩;obtain⟨b,mb,h⟩:=List.mem_flatMap.mp h;exact⟨a,ma,b,mb,mem_itr.mp h⟩
 · rintro⟨a,ma,b,mb,h⟩;exact⟨a,ma,List.mem_flatMap.mpr ⟨b,mb,mem_itr.mpr h⟩⟩
theorem qkg {A B:List (Int×Int)} (n:Int):Mem (com A B) n↔Mem A n∧Mem B n:=by
 constructor
 · rintro⟨w,mw,h1,h2⟩;obtain⟨a,ma,b,mb,_,rfl⟩:=mem_com.mp mw;have x1:=qdh a.1 b.1;have x2:=qeG a.2 b.2;have h1':mx2 a.1 b.1≤n:=h1;have h2':n≤mn2 a.2 b.2:=h2;exact⟨⟨a,ma,by omega,by omega⟩,⟨b,mb,by omega,by omega⟩⟩
 · rintro⟨⟨a,ma,a1,a2⟩,⟨b,mb,b1,b2⟩⟩;have x1:=qdh a.1 b.1;have x2:=qeG a.2 b.2;exact⟨_,mem_com.mpr ⟨a,ma,b,mb,by omega,rfl⟩,by show mx2 a.1 b.1≤n;omega,by show n≤mn2 a.2 b.2;omega⟩
theorem qhg {B:List (Int×Int)} (cB:qR B) (a:Int×Int):(B.flatMap (itr a)).Pairwise fun u v=>u.2+1 < v.1:=by
 induction B with
 | nil=>exact List.Pairwise.nil
 | cons b B ih =>
   have c':qR B:=⟨fun u m=>cB.1 u (List.mem_cons_of_mem _ m),(List.pairwise_cons.mp cB.2).2⟩
   rw[List.flatMap_cons];refine List.pairwise_append.mpr ⟨?_,ih c',fun u mu v mv=>?_⟩
   · unfold itr;split
     · exact List.pairwise_singleton _ _
     · exact List.Pairwise.nil
   · obtain⟨_,rfl⟩:=mem_itr.mp mu;obtain⟨b',mb',h⟩:=List.mem_flatMap.mp mv;obtain⟨_,rfl⟩:=mem_itr.mp h;have g:=(List.pairwise_cons.mp cB.2).1 b' mb';have x1:=qdh a.1 b'.1;have x2:=qeG a.2 b.2;show mn2 a.2 b.2+1 < mx2 a.1 b'.1;omega
theorem qdA {A B:List (Int×Int)} (cA:qR A) (cB:qR B):qR (com A B):=by
 refine⟨fun w m=>by obtain⟨a,_,b,_,h,rfl⟩:=mem_com.mp m;exact h,?_⟩
 induction A with
 | nil=>exact List.Pairwise.nil
 | cons a A ih =>
   have c':qR A:=⟨fun u m=>cA.1 u (List.mem_cons_of_mem _ m),(List.pairwise_cons.mp cA.2).2⟩
   show (B.flatMap (itr a)++com A B).Pairwise _;refine List.pairwise_append.mpr ⟨qhg cB a,ih c',fun u mu v mv=>?_⟩;obtain⟨b,mb,h⟩:=List.mem_flatMap.mp mu;obtain⟨_,rfl⟩:=mem_itr.mp h;obtain⟨a',ma',b',mb',_,rfl⟩:=mem_com.mp mv;have g:=(List.pairwise_cons.mp cA.2).1 a' ma';have x1:=qdh a'.1 b'.1;have x2:=qeG a.2 b.2;show mn2 a.2 b.2+1 < mx2 a'.1 b'.1;omega
theorem qiD:∀ {r:List (Int×Int)},qR r->(r.map (·.1)).Nodup:=fun {r} c=>by
 refine List.Pairwise.map _ (fun u v h=>h) ?_;refine List.Pairwise.imp_of_mem (fun {u v} mu mv h=>?_) c.2
 have:=c.1 u mu
 show u.1≠v.1;omega
theorem qhd {A B:List (Int×Int)} (cA:qR A) (cB:qR B):(com A B).length≤A.length+B.length:=by
 have:=qad (m:=A.map (·.1)++B.map (·.1)) (qiD (qdA cA cB)) fun x m=>by
   obtain⟨w,mw,rfl⟩:=List.mem_map.mp m;obtain⟨a,ma,b,mb,_,rfl⟩:=mem_com.mp mw;rcases (qdh a.1 b.1).2.2 with z|z
   · exact List.mem_append_left _ (List.mem_map.mpr ⟨a,ma,z.symm⟩)
   · exact List.mem_append_right _ (List.mem_map.mpr ⟨b,mb,z.symm⟩)
 rwa [List.length_map,List.length_append,List.length_map,List.length_map]at this
inductive Jx (vs:List V) (H:Hp) (Q:VK):Prop
 | mk (p q:Addr) (A B:List (Int×Int)) (h1:vs=[.ref p,.ref q]) (h2:Rs H p A) (h3:Rs H q B) (h4:qR A) (h5:qR B) (h6:A.length+B.length≤20000) (h7:∀ (d:Addr) (H':Hp),H d=none->Same H H'->Rs H' d (com A B)->Q (.ref d) H'):Jx vs H Q
def qbF:Sp:=fun vs H Q _=>Jx vs H Q
theorem qe2 {A B:List (Int×Int)}{i:Nat}{a:Int×Int} (h:A[i]?=some a):com (A.take (i+1)) B=com (A.take i) B++B.flatMap (itr a):=by
 unfold com;rw[List.take_add_one,h,List.flatMap_append];simp
theorem qew {B:List (Int×Int)}{a b:Int×Int}{j:Nat} (h:B[j]?=some b):(B.take (j+1)).flatMap (itr a)=(B.take j).flatMap (itr a)++itr a b:=by
 rw[List.take_add_one,h,List.flatMap_append];simp
theorem qg3 {α β:Type} (f:α->List β) (l:List α) (k:Nat):((l.take k).flatMap f).length≤(l.flatMap f).length:=by
 have e:(l.take k).flatMap f++(l.drop k).flatMap f=l.flatMap f:=by rw[← List.flatMap_append,List.take_append_drop]
 rw[← e,List.length_append];omega
theorem qkf {A B:List (Int×Int)}{i j:Nat}{a:Int×Int} (h:A[i]?=some a):(com (A.take i) B++(B.take j).flatMap (itr a)).length≤(com A B).length:=by
 have h1:(com (A.take (i+1)) B).length≤(com A B).length:=qg3 _ A (i+1);rw[qe2 h]at h1;have h2:((B.take j).flatMap (itr a)).length≤(B.flatMap (itr a)).length:=qg3 _ B j;rw[List.length_append]at h1 ⊢;omega
section
variable {P:Program}{w:World}{K:Frag}{mg:Str->Option Value}{base:Heap}
theorem qfk {a:Ad} (T:Txt K mg a):qD P w K mg base CX0 1 a.f_4 a.fd_4 ["_law_one","_law_other"] qbF:=by
 refine T.d_4.F.ok sc_Lcommon (fun vs H Q E h=>?_) (fun cdv A outer s H vs Q E hr h=>?_)
 · obtain⟨p,q,A,B,rfl,⟨zp,hp,tp⟩,⟨zq,hq,tq⟩,cA,cB,few,kk⟩:=h;rfl
 · obtain⟨p,q,A,B,rfl,⟨zp,hp,tp⟩,⟨zq,hq,tq⟩,cA,cB,few,kk⟩:=h;have hu:=qH hr;have hU:=hr.units
   refine⟨_,(qe (qx (i:=2) sc_Lcommon.nd rfl (Or.inl rfl) (qJ qb))
     (qe (zx PassesOwn.never rfl (qX (pv 0)) (zR rfl (qu (qr (i:=3) (sc_Lcommon.nd) rfl (Or.inl rfl)) (qu (qr (i:=4) (sc_Lcommon.nd) rfl (Or.inl rfl)) zn)))
       (qf (zx PassesOwn.never rfl (qX (pv 1)) (zR rfl (qu (qr (i:=5) (sc_Lcommon.nd) rfl (Or.inl rfl)) (qu (qr (i:=6) (sc_Lcommon.nd) rfl (Or.inl rfl)) zn)))
         (qf (qO (qw JX (qm (zh rfl) (by rfl) T.n_max zi (qa (pv 3) (qa (pv 5) qb))) (qm (zC rfl) (by rfl) T.n_min zD (qa (pv 4) (qa (pv 6) qb))) (qC _))
           (qf (qI (ZG PySem.F.plainAttrs_list PySem.F.slot_list_append PySem.F.type_list_append qY (pv 2) (qa (qV (qa (qm (zh rfl) (by rfl) T.n_max zi (qa (pv 3) (qa (pv 5) qb))) (qa (qm (zC rfl) (by rfl) T.n_min zD (qa (pv 4) (qa (pv 6) qb))) qb))) qb))))
           qy)))))
     (qf (qt (pv 2))))),?_⟩
   try dsimp only [zb,Cx.nox]
   refine⟨qk (Nat.le_of_ble_eq_true rfl),fun t ft=>?_⟩;generalize hG:upd H t _=G;obtain⟨S0,e0⟩:=qF hG ft;clear hG;have lz:=qhd cA cB;(try unfold qK);(try dsimp only);refine⟨_,rfl,p,rfl,⟨_,SqL.of (S0 _ _ hp)⟩,zy (K:=K) (a:=p) (xs:=zp) (D:={ nx:=qhL (qiI 2) { nx:=fun _ H'=>Q .non H',rt:=Q },rt:=Q }) (fun i σ H'=>∃ (s3 s4 s5 s6:Option V),σ=[some (.ref p),some (.ref q),some (.ref t),s3,s4,s5,s6]∧Same H H'∧Rs H' t (com (A.take i) B)) ⟨none,none,none,none,rfl,S0,⟨[],e0,.nil⟩⟩ (fun i σ H' _ ⟨_,_,_,_,_,S,_⟩=>SqL.of (S _ _ hp)) ?_ ?_⟩
   · rintro i z σ H1 hz ⟨s3,s4,s5,s6,rfl,S1,R1⟩;obtain⟨a0,u,ha,rfl,hu⟩:=tp.of hz;refine⟨u,_,rfl,SqT.of (S1 _ _ hu),rfl,_,_,rfl,_,_,rfl,rfl,?_⟩;refine⟨_,rfl,q,rfl,⟨_,SqL.of (S1 _ _ hq)⟩,zy (K:=K) (a:=q) (xs:=zq) (fun j σ H'=>∃ (s5 s6:Option V),σ=[some (.ref p),some (.ref q),some (.ref t),some (.int a0.1),some (.int a0.2),s5,s6]∧Same H H'∧Rs H' t (com (A.take i) B++(B.take j).flatMap (itr a0))) ⟨s5,s6,rfl,S1,by simpa using R1⟩ (fun j σ H' _ ⟨_,_,_,S,_⟩=>SqL.of (S _ _ hq)) ?_ ?_⟩
     · rintro j y σ H2 hy ⟨s5',s6',rfl,S2,⟨zt,ht,tt⟩⟩;obtain⟨b0,v,hb,rfl,hv⟩:=tq.of hy;have ls:=qkf (B:=B) (j:=j) ha;refine⟨v,_,rfl,SqT.of (S2 _ _ hv),rfl,_,_,rfl,_,_,rfl,rfl,?_⟩;refine⟨_,rfl,_,rfl,_,_,rfl,_,rfl,_,rfl,_,_,rfl,_,_,rfl,rfl,_,rfl,zP (fun g=>?_) (fun g=>?_)⟩
       · refine⟨_,rfl,.inl ⟨rfl,_,SqL.of ht⟩,_,rfl,_,rfl,_,_,rfl,_,rfl,_,rfl,_,_,rfl,qk (Nat.le_of_ble_eq_true rfl),fun w fw=>?_⟩;have Sw:=Same.new (.tup [.int (mx2 a0.1 b0.1),.int (mn2 a0.2 b0.2)]) fw;refine⟨t,_,_,rfl,rfl,Sw _ _ ht,qaf (by rw[tt.1];omega),?_⟩;refine⟨_,_,rfl,(S2.trans Sw).put ft _,?_⟩;rw[qew hb,← List.append_assoc,show itr a0 b0=[(mx2 a0.1 b0.1,mn2 a0.2 b0.2)] from if_pos g];exact⟨_,qc,((tt.same Sw).snoc (p:=(mx2 a0.1 b0.1,mn2 a0.2 b0.2)) qc).put (Sw _ _ ht)⟩
       · refine⟨_,_,rfl,S2,?_⟩;rw[qew hb,show itr a0 b0=[] from if_neg g,List.append_nil];exact⟨zt,ht,tt⟩
     · rintro σ H2 ⟨s5',s6',rfl,S2,R2⟩;rw[tq.1,List.take_length]at R2;refine⟨_,_,_,_,rfl,S2,?_⟩;rw[qe2 ha];exact R2
   · rintro σ H2 ⟨s3,s4,s5,s6,rfl,S2,R2⟩;rw[tp.1,List.take_length]at R2;exact⟨_,rfl,kk t H2 ft S2 R2⟩
end
inductive Z1 (a:Ad) (vs:List V) (H:Hp) (Q:VK):Prop
 | mk (x dx l td sv:Addr) (nm:Str) (bs:List Bk) (e r:Int) (ts:Pls) (h1:vs=[.ref x,.ref td]) (h2:H x=some (.ins a.c_Joint dx (fsJ nm l))) (h3:H l=some (.lst (rfs (bs.map Bk.x)))) (h4:bs.length≤8) (h5:(∀ b∈bs,EnK a sv H b∧SpB b)) (h6:H sv=some (.lst [.int e,.int r])) (h7:(∀ b∈bs,b.sf=true->0 < e)) (h8:Tq a H td ts) (h9:(((∀ b∈bs,Has ts b.pl)∧∀ H',Same H H'->Q .non H')∨(∃ (us:List Bk) (b:Bk) (ws:List Bk),bs=us++b::ws∧(∀ u∈us,Has ts u.pl)∧b.pl≠("":Str)∧b.pl∉ts.map (·.1)∧∀ H',Same H H'->Q (.str b.pl) H'))):Z1 a vs H Q
def Jv (a:Ad):Sp:=fun vs H Q _=>Z1 a vs H Q
structure Sd where
 s:Addr
 wd:Str
 nm:Str
 pl:Str
 lo:Int
 hi:Int
def SdOk (H:Hp) (d:Sd):Prop:=H d.s=some (.tup (qhz d.wd d.nm d.pl d.lo d.hi))∧Spc d.wd d.nm d.pl d.lo d.hi
theorem SdOk.same {H H':Hp}{d:Sd} (h:SdOk H d) (s:Same H H'):SdOk H' d:=⟨s _ _ h.1,h.2⟩
inductive Js (vs:List V) (H:Hp) (Q:VK):Prop
 | mk (l:Addr) (ds:List Sd) (h1:vs=[.ref l]) (h2:H l=some (.lst (rfs (ds.map Sd.s)))) (h3:ds.length≤9) (h4:(∀ d∈ds,SdOk H d)) (h5:∀ (q:Addr) (H':Hp),H q=none->Same H H'->H' q=some (.lst ((plJ (ds.map Sd.pl)).map V.str))->Q (.ref q) H'):Js vs H Q
def qbB:Sp:=fun vs H Q _=>Js vs H Q
theorem qd9 {ss:List Str}{pl:Str} (h:pl=""∨pl∈ss):qjl ss pl=ss:=by
 unfold qjl pls;rcases h with h|h
 · rw[if_pos h];simp
 · split
   · simp
   · simp[h]
theorem qe5 {ss:List Str}{pl:Str} (h1:pl≠"") (h2:pl∉ss):qjl ss pl=ss++[pl]:=by
 unfold qjl pls;rw[if_neg h1];simp[h2]
section
variable {P:Program}{w:World}{K:Frag}{mg:Str->Option Value}{base:Heap}
theorem qdg {a:Ad} (T:Txt K mg a):qD P w K mg base CX0 9 a.f_B a.fd_B ["_law_entry","_law_tables"] (Jv a):=by
 have G_u:=ji (P:=P) (w:=w) (base:=base) T;refine T.d_B.F.ok sc_Lno_place (fun vs H Q E h=>?_) (fun cdv A outer s H vs Q E hr h=>?_)
 · obtain⟨x,dx,l,td,sv,nm,bs,e,r,ts,rfl,hx,hl,n8,enb,hsv,he,tq,kk⟩:=h;rfl
 · obtain⟨x,dx,l,td,sv,nm,bs,e,r,ts,rfl,hx,hl,n8,enb,hsv,he,tq,kk⟩:=h;have h_u:Room (8) _:=hr.mono (by decide)
   refine⟨_,(qe (qx (i:=2) sc_Lno_place.nd rfl (Or.inl rfl) qi2)
     (qe (qjO (i:=3) rfl rfl (by exact(qjM (qh0 (pv 0) T.cl_Joint T.d_u.mt G_u h_u T.d_u.b (qa (pv 1) qb))))
       rfl T.g_NoPlace T.X_NoPlace.c.xi sc_Lno_place.nd rfl (Or.inl rfl) rfl (fun ea=>(by exact
       (qf (qx (i:=2) sc_Lno_place.nd rfl (Or.inl rfl) (show PE _ _ (qkx K _ "found") from qjU (pv 3) rfl))))))
     (qf (qt (pv 2))))),?_⟩
   try dsimp only [zb,Cx.nox]
   try unfold qK
   try dsimp only
   refine⟨_,rfl,x,dx,_,rfl,hx,rfl,_,rfl,x,dx,l,td,sv,nm,bs,e,r,ts,rfl,hx,hl,n8,enb,hsv,he,tq,?_⟩;rcases kk with ⟨ha,kk⟩|⟨us,b,ws,eb,ha,z1,z2,kk⟩
   · exact .inl ⟨ha,fun d rr H1 fd S1 R c l m=>⟨_,rfl,kk H1 S1⟩⟩
   refine .inr ⟨us,b,ws,eb,ha,z1,z2,?_⟩;intro ea dx2 H1 S1 fe fdx hd xa;refine⟨_,ea,rfl,rfl,T.X_NoPlace.c.xi,qlF T.X_NoPlace.c.xi,?_⟩;exact⟨_,rfl,ea,_,dx2,_,_,rfl,xa,hd,T.X_NoPlace.c,T.n_NoPlace_found,rfl,_,rfl,kk H1 S1⟩
theorem qfj {a:Ad} (T:Txt K mg a):qD P w K mg base CX0 1 a.f_8 a.fd_8 ["_law_specs"] qbB:=by
 refine T.d_8.F.ok sc_Lplaces (fun vs H Q E h=>?_) (fun cdv A outer s H vs Q E hr h=>?_)
 · obtain⟨l,ds,rfl,hl,n9,ok,kk⟩:=h;rfl
 · obtain⟨l,ds,rfl,hl,n9,ok,kk⟩:=h;have hU:=hr.units
   refine⟨_,(qe (qx (i:=1) sc_Lplaces.nd rfl (Or.inl rfl) (qJ qb))
     (qe (zx PassesOwn.never rfl (qX (pv 0)) (qr (i:=2) (sc_Lplaces.nd) rfl (Or.inl rfl))
       (qf (qO (PW.pt (qaG (qw (uNe hU) (qz (r:=rIx K) qp (pv 2) qd (fun _ _=>rfl)) qE (qC _)) (Ja (qw (r:=rIn K true) JN (qz (r:=rIx K) qp (pv 2) qd (fun _ _=>rfl)) (pv 1) (by with_unfolding_all rfl)))))
         (qf (qI (ZG PySem.F.plainAttrs_list PySem.F.slot_list_append PySem.F.type_list_append qY (pv 1) (qa (qz (r:=rIx K) qp (pv 2) qd (fun _ _=>rfl)) qb))))
         qy)))
     (qf (qt (pv 1))))),?_⟩
   try dsimp only [zb,Cx.nox]
   refine⟨qk (Nat.le_of_ble_eq_true rfl),fun t ft=>?_⟩;generalize hG:upd H t _=G;obtain⟨S0,e0⟩:=qF hG ft;clear hG;(try unfold qK);(try dsimp only);refine⟨_,rfl,l,rfl,⟨_,SqL.of (S0 _ _ hl)⟩,zy (K:=K) (a:=l) (xs:=rfs (ds.map Sd.s)) (D:={ nx:=qhL (qiI 1) { nx:=fun _ H'=>Q .non H',rt:=Q },rt:=Q }) (fun j σ H'=>∃ s2:Option V,σ=[some (.ref l),some (.ref t),s2]∧Same H H'∧H' t=some (.lst ((plJ ((ds.map Sd.pl).take j)).map V.str))) ⟨none,rfl,S0,e0⟩ (fun j σ H' _ ⟨_,_,S,_⟩=>SqL.of (S _ _ hl)) ?_ ?_⟩
   · rintro j z σ H2 hz ⟨s2,rfl,S2,ht⟩;obtain⟨y,hy,rfl⟩:=zY hz;rw[List.getElem?_map]at hy;obtain⟨d,hd,rfl⟩:=Option.map_eq_some_iff.mp hy;obtain⟨hs,sp⟩:=ok d (List.mem_of_getElem? hd);have hs2:=S2 _ _ hs;have hpl:(ds.map Sd.pl)[j]?=some d.pl:=by rw[List.getElem?_map,hd];rfl
     have ln:=qck (ds.map Sd.pl) j;have jl:j < ds.length:=(List.getElem?_eq_some_iff.mp hd).1;have sn:=qcj hpl;generalize plJ ((ds.map Sd.pl).take j)=ss at ht ln sn;refine⟨_,rfl,.inr (.inl ⟨d.s,_,_,_,rfl,rfl,SqT.of hs2,rfl,.inl ⟨rfl,_,rfl,?_⟩⟩)⟩;by_cases c1:d.pl=""
     · refine qS (by rw[c1];rfl) ⟨_,rfl,S2,?_⟩;rw[sn,qd9 (.inl c1)];exact ht
     refine Ji (by rw[jk,decide_eq_false c1];rfl) ?_;refine⟨_,rfl,.inr (.inl ⟨d.s,_,_,_,rfl,rfl,SqT.of hs2,rfl,_,rfl,t,_,rfl,.inl (SqL.of ht),rfl,qdx _,_,rfl,?_⟩)⟩;rw[qeO];by_cases c2:d.pl∈ss
     · refine qS (by simp[c2]) ⟨_,rfl,S2,?_⟩;rw[sn,qd9 (.inr c2)];exact ht
     refine Ji (by simp[c2]) ?_;refine⟨_,rfl,.inl ⟨rfl,_,SqL.of ht⟩,_,rfl,.inr (.inl ⟨d.s,_,_,_,rfl,rfl,SqT.of hs2,rfl,t,_,_,rfl,rfl,ht,qB (by rw[List.length_map];omega),?_⟩)⟩;refine⟨_,rfl,S2.put ft _,?_⟩;rw[qc,sn,qe5 c1 c2,List.map_append];rfl
   · rintro σ H2 ⟨s2,rfl,S2,ht⟩;have lb:(rfs (ds.map Sd.s)).length=(ds.map Sd.pl).length:=by rw[List.length_map,List.length_map,List.length_map]
     rw[lb,List.take_length]at ht;exact⟨_,rfl,kk t H2 ft S2 ht⟩
end
inductive Q9 (vs:List V) (H:Hp) (Q:VK):Prop
 | mk (s tb sv:Addr) (wd nm pl:Str) (lo hi e r:Int) (ps:Pls) (W:List (Int×Int)) (h1:vs=[.ref s,.ref tb,.ref sv]) (h2:H s=some (.tup (qhz wd nm pl lo hi))) (h3:Spc wd nm pl lo hi) (h4:Td H tb ps) (h5:Due ps wd pl lo hi W) (h6:H sv=some (.lst [.int e,.int r])) (h7:∀ (d:Addr) (rr:List (Int×Int)) (H':Hp),H d=none->Same H H'->Rs H' d rr->qR rr->rr.length≤1000->(∀ n,Mem rr n↔Mem W n∧(isS wd lo hi e=true->n % e=r))->Q (.ref d) H'):Q9 vs H Q
def ZZ:Sp:=fun vs H Q _=>Q9 vs H Q
section
variable {P:Program}{w:World}{K:Frag}{mg:Str->Option Value}{base:Heap}
theorem qbl {a:Ad} (T:Txt K mg a):qD P w K mg base CX0 4 a.f_5 a.fd_5 ["_law_spec_here","_law_tables","_law_sieve"] ZZ:=by
 have G_1:=qgr (P:=P) (w:=w) (base:=base) T;have G_h:=Je (P:=P) (w:=w) (base:=base) T;have G_i:=Q2 (P:=P) (w:=w) (base:=base) T;refine T.d_5.F.ok sc_Lpart_spans (fun vs H Q E h=>?_) (fun cdv A outer s H vs Q E hr h=>?_)
 · obtain⟨s,tb,sv,wd,nm,pl,lo,hi,e,r,ps,W,rfl,hs,sp,td,due,hsv,kk⟩:=h;rfl
 · obtain⟨s,tb,sv,wd,nm,pl,lo,hi,e,r,ps,W,rfl,hs,sp,td,due,hsv,kk⟩:=h;have hu:=qH hr;have hU:=hr.units;have h_1:Room (3) _:=hr.mono (by decide);have h_h:Room (1) _:=hr.mono (by decide);have h_i:Room (1) _:=hr.mono (by decide)
   refine⟨_,(qe (qx (i:=3) sc_Lpart_spans.nd rfl (Or.inl rfl) (qh G_1 h_1 rfl T.d_1.m T.d_1.k T.d_1.b .nil qq (qa (pv 0) (qa (pv 1) qb))))
     (qe (qO (zu (za (qh G_i h_i rfl T.d_i.m T.d_i.k T.d_i.b .nil qq (qa (pv 0) (qa (pv 2) qb)))))
       (qf (qt (pv 3)))
       qy)
     (qe (qx (i:=4) sc_Lpart_spans.nd rfl (Or.inl rfl) (qJ qb))
     (qe (zx PassesOwn.never rfl (qX (pv 3)) (zR rfl (qu (qr (i:=5) (sc_Lpart_spans.nd) rfl (Or.inl rfl)) (qu (qr (i:=6) (sc_Lpart_spans.nd) rfl (Or.inl rfl)) zn)))
       (qf (qx (i:=4) sc_Lpart_spans.nd rfl (Or.inl rfl) (qA QT (pv 4) (zJ rfl (CompOk.def ["_law_one","_law_sieve"] [none,some 2]) (qc8 rfl T.n_range (qa (pv 5) (qa (qA QT (pv 6) qd) qb))) (fun _ _ _ _ _=>(qr (i:=0) (show List.Nodup (["_law_one","_law_sieve"]:List Str) by decide +kernel) rfl (Or.inl rfl))) (fun _ _ _ _ _=>(Jb (qw (uEq hU) (qA ZI (pv 0) (qz (r:=rIx K) qp (pv 1) qd (fun _ _=>rfl))) (qz (r:=rIx K) qp (pv 1) qd (fun _ _=>rfl)) (qC _)))) (fun _ _ _ _ _=>(pv 0)))))))
     (qf (qt (qh G_h h_h rfl T.d_h.m T.d_h.k T.d_h.b .nil qq (qa (zJ rfl (CompOk.def ["_law_one"] [none]) (qX (pv 4)) (fun _ _ _ _ _=>(qr (i:=0) (show List.Nodup (["_law_one"]:List Str) by decide +kernel) rfl (Or.inl rfl))) (fun _ _ _ _ _=>Qb) (fun _ _ _ _ _=>(qV (qa (pv 0) (qa (pv 0) qb))))) qb)))))))),?_⟩
   try dsimp only [zb,Cx.nox]
   refine⟨_,rfl,_,rfl,s,tb,wd,nm,pl,lo,hi,ps,W,rfl,hs,td,due,fun d0 r1 H1 fd S1 R1 can l21 mem=>?_⟩;(try unfold qK);(try dsimp only);refine⟨_,rfl,_,rfl,s,sv,wd,nm,pl,lo,hi,e,r,rfl,S1 _ _ hs,sp,S1 _ _ hsv,fun H2 S2=>⟨_,rfl,?_⟩⟩;have S12:=S1.trans S2
   cases hS:isS wd lo hi e with
   | false =>
     refine Ji rfl ⟨_,rfl,kk d0 r1 H2 fd S12 (R1.same S2) can (by omega) fun n=>?_⟩;rw[mem,hS];exact⟨fun h=>⟨h,fun z=>nomatch z⟩,fun h=>h.1⟩
   | true =>
   refine qS rfl ?_;obtain⟨e0,hw⟩:=qgV hS;obtain⟨L,l1k,lb,lm⟩:=qeX td.2.good sp hw due;(try unfold qK);(try dsimp only);refine⟨qk (Nat.le_of_ble_eq_true rfl),fun m0 fm0=>?_⟩;generalize hG:upd H2 m0 _=G;obtain⟨S0,em0⟩:=qF hG fm0;clear hG;obtain⟨zs,hz0,tz⟩:=id R1;have hz2:=S0 _ _ (S2 _ _ hz0);have SG:=S12.trans S0;have lenu:∀ i,((mos (r1.take i)).filter (kq e r)).length≤1000:=fun i=>Nat.le_trans (qad ((qgF (qbY can i)).filter _) fun n m=>lm n ((mem n).mp (mem_mos.mp (qgH n (List.mem_filter.mp m).1)))) l1k;(try unfold qK);(try dsimp only);refine qL (t:=qed _ _ _) (fun σ' H'=>∃ (mq:Addr) (s5 s6:Option V),σ'=[some (.ref s),some (.ref tb),some (.ref sv),some (.ref d0),some (.ref mq),s5,s6]∧Same H H'∧H' mq=some (.lst (((mos r1).filter (kq e r)).map V.int))) (fun N hN=>?_) ?_
   · refine⟨_,rfl,d0,rfl,⟨_,SqL.of hz2⟩,zy (K:=K) (a:=d0) (xs:=zs) (D:={ nx:=N,rt:=Q }) (fun j σ H'=>∃ (mq:Addr) (s5 s6:Option V),σ=[some (.ref s),some (.ref tb),some (.ref sv),some (.ref d0),some (.ref mq),s5,s6]∧Same G H'∧H' mq=some (.lst (((mos (r1.take j)).filter (kq e r)).map V.int))) ⟨m0,none,none,rfl,Same.refl _,em0⟩ (fun j σ H' _ ⟨_,_,_,_,S,_⟩=>SqL.of (S _ _ hz2)) ?_ ?_⟩
     · rintro j z σ H3 hz ⟨mq,s5,s6,rfl,S3,hmq⟩;obtain⟨w,u,hw',rfl,hu0⟩:=tz.of hz;have hu:=S3 _ _ (S0 _ _ (S2 _ _ hu0));have mw:=List.mem_of_getElem? hw';have w12:=can.1 w mw;have b1:=lb w.1 (lm _ ((mem _).mp ⟨w,mw,Int.le_refl _,w12⟩));have b2:=lb w.2 (lm _ ((mem _).mp ⟨w,mw,w12,Int.le_refl _⟩));have l0:=lenu j;have l1:=lenu (j+1);rw[qag hw',List.filter_append,List.length_append]at l1;refine⟨u,_,rfl,SqT.of hu,rfl,_,_,rfl,_,_,rfl,rfl,?_⟩;refine⟨_,rfl,_,rfl,_,rfl,.inl ⟨_,_,rfl,rfl,_,_,rfl,⟨by omega,by omega,by omega,by omega⟩,fun D fD=>?_⟩⟩;refine Jl (lo:=w.1) (n:=(w.2+1 - w.1).toNat) (D:=D) (fun i σ H4=>∃ (c0:Option V),σ=[c0,some (.ref sv)]∧Same H3 H4∧H4 D=some (.lst ((((List.range i).map fun k:Nat=>w.1+(k:Int)).filter (kq e r)).map V.int))) ⟨none,rfl,Same.new _ fD,qc⟩ ?_ ?_
       · rintro i σ H4 hi ⟨c0,rfl,S4,hD⟩
         have es:(((List.range (i+1)).map fun k:Nat=>w.1+(k:Int)).filter (kq e r))=(((List.range i).map fun k:Nat=>w.1+(k:Int)).filter (kq e r))++(if kq e r (w.1+(i:Int))=true then [w.1+(i:Int)] else []):=by
           rw[List.range_succ,List.map_append,List.filter_append];congr 1;show List.filter (kq e r) [w.1+(i:Int)]=_;rw[List.filter_cons];split<;>rfl
         have hv4:=S4 _ _ (S3 _ _ (SG _ _ hsv));refine⟨_,rfl,_,rfl,.inl ⟨sv,_,_,_,rfl,rfl,SqL.of hv4,rfl,_,_,rfl,rfl,e0,_,rfl,.inl ⟨sv,_,_,_,rfl,rfl,SqL.of hv4,rfl,.inl ⟨rfl,_,rfl,?_⟩⟩⟩⟩;rw[qgW];refine qhA (fun g=>?_) (fun g=>?_)
         · refine⟨_,rfl,_,hD,qB ?_,_,rfl,S4.put fD _,?_⟩
           · rw[List.length_map]
             have h2:(((List.range i).map fun k:Nat=>w.1+(k:Int)).filter (kq e r)).length≤((mo w).filter (kq e r)).length:=by
               refine List.Sublist.length_le (List.Sublist.filter _ ?_);unfold mo;exact List.Sublist.map _ (List.range_sublist.mpr (by omega))
             omega
           · rw[qc,es,if_pos g,List.map_append];rfl
         · refine⟨_,rfl,S4,?_⟩;rw[es,if_neg (by rw[show kq e r (w.1+(i:Int))=false from g];decide),List.append_nil];exact hD
       · rintro σ H4 ⟨c0,rfl,S4,hD⟩;have hD':H4 D=some (.lst (((mo w).filter (kq e r)).map V.int)):=hD;refine .inr (.inl ⟨mq,D,_,_,rfl,rfl,S4 _ _ hmq,hD',Nat.le_of_lt (qaf (by rw[List.length_map,List.length_map];omega)),fun k2 fk2=>?_⟩);have S5:=Same.new (.lst ((((mos (r1.take j)).filter (kq e r)).map V.int)++(((mo w).filter (kq e r)).map V.int))) fk2;refine⟨k2,_,_,rfl,(S3.trans S4).trans S5,?_⟩;rw[qc,qag hw',List.filter_append,List.map_append]
     · rintro σ H3 ⟨mq,s5,s6,rfl,S3,hmq⟩;rw[tz.1,List.take_length]at hmq;exact hN _ _ ⟨mq,s5,s6,rfl,SG.trans S3,hmq⟩
   rintro _ H3 ⟨mq,s5,s6,rfl,S3,hmq⟩;have lu:=lenu r1.length;rw[List.take_length]at lu;have asu:((mos r1).filter (kq e r)).Pairwise (· < ·):=(qd7 can).sublist List.filter_sublist
   have mu:∀ n,n∈(mos r1).filter (kq e r)↔Mem W n∧n % e=r:=fun n=>by
     rw[List.mem_filter,mem_mos,mem];simp only[decide_eq_true_eq]
   generalize (mos r1).filter (kq e r)=us at hmq lu asu mu;(try unfold qK);(try dsimp only);refine⟨_,rfl,mq,rfl,⟨_,SqL.of hmq⟩,fun D fD=>?_⟩;refine zM (K:=K) (a:=mq) (xs:=us.map V.int) (D:=D) (fun i σ H4=>∃ (c0:Option V) (ys:List V),σ=[c0]∧Same H3 H4∧H4 D=some (.lst ys)∧TupL pr H4 ys ((us.take i).map dup)) ⟨none,[],rfl,Same.new _ fD,qc,.nil⟩ (fun i σ H4 _ ⟨_,_,_,S4,_⟩=>SqL.of (S4 _ _ hmq)) ?_ ?_
   · rintro i z σ H4 hz ⟨c0,ys,rfl,S4,hD,ty⟩;obtain⟨n,hn,rfl⟩:=zY hz;have ly:=ty.1;rw[List.length_map,List.length_take]at ly;refine⟨_,rfl,_,rfl,qk (Nat.le_of_ble_eq_true rfl),fun v fv=>⟨ys,(Same.new _ fv) _ _ hD,qB (by omega),_,_,rfl,(S4.trans (Same.new _ fv)).put fD _,qc,?_⟩⟩;rw[List.take_add_one,hn,List.map_append];exact((ty.same (Same.new _ fv)).snoc (p:=dup n) qc).put ((Same.new _ fv) _ _ hD)
   rintro σ H4 ⟨c0,ys,rfl,S4,hD,ty⟩;rw[List.length_map,List.take_length]at ty;refine⟨D,us.map dup,rfl,⟨ys,hD,ty⟩,qfS asu lu,fun d rr H5 fd5 S5 R5 c5 l5 m5=>?_⟩;refine kk d rr H5 ((S3.trans S4).none fd5) ((S3.trans S4).trans S5) R5 c5 (by rw[List.length_map]at l5;omega) fun n=>?_;rw[m5,qgI,mu,hS];exact⟨fun h=>⟨h.1,fun _=>h.2⟩,fun h=>⟨h.1,h.2 rfl⟩⟩
end
inductive jB (vs:List V) (H:Hp) (Q:VK):Prop
 | mk (q:Addr) (rows:List (Int×Int)) (m:Int) (h1:vs=[.ref q,.int m]) (h2:Rs H q rows) (h3:Good rows) (h4:0≤m) (h5:∀ (n:Int) (H':Hp),Same H H'->m - 2880≤n->n≤m+2880->Q (.int n) H'):jB vs H Q
def qao:Sp:=fun vs H Q _=>jB vs H Q
inductive Jy (vs:List V) (H:Hp) (Q:VK):Prop
 | mk (p q tb:Addr) (nm:Str) (ps:Pls) (m:Int) (h1:vs=[.ref p,.str nm,.ref q,.ref tb,.int m]) (h2:PenAt H p) (h3:zc (.str nm)=true) (h4:H q=some (.lst ((ps.map (·.1)).map V.str))) (h5:Td H tb ps) (h6:(0≤m∧m≤1000000000)) (h7:∀ (s:Addr) (wd pl:Str) (lo hi:Int) (H':Hp),H s=none->But p H H'->PenAt H' p->H' s=some (.tup (qhz wd nm pl lo hi))->Spc wd nm pl lo hi->(pl=""∨pl∈ps.map (·.1))->Q (.ref s) H'):Jy vs H Q
def qbH:Sp:=fun vs H Q _=>Jy vs H Q
section
variable {P:Program}{w:World}{K:Frag}{mg:Str->Option Value}{base:Heap}
theorem qdS {a:Ad} (T:Txt K mg a):qD P w K mg base CX0 1 a.f_2 a.fd_2 ["_law_rows_here","_law_moment"] qao:=by
 refine T.d_2.F.ok qdQ (fun vs H Q E h=>?_) (fun cdv A outer s H vs Q E hr h=>?_)
 · obtain⟨q,rows,m,rfl,⟨zs,hq,tz⟩,good,m0,kk⟩:=h;rfl
 · obtain⟨q,rows,m,rfl,⟨zs,hq,tz⟩,good,m0,kk⟩:=h;have hu:=qH hr;refine⟨_,(qf (qt (qA QT (pv 1) (qz (r:=rIx K) qp (zJ rfl (CompOk.def ["_law_begin","_law_shift_here","_law_moment"] [none,none,some 1]) (qX (pv 0)) (fun _ _ _ _ _=>(show PG _ _ (qjd K 2 _) from (zR rfl (qu (qr (i:=0) (show List.Nodup (["_law_begin","_law_shift_here","_law_moment"]:List Str) by decide +kernel) rfl (Or.inl rfl)) (qu (qr (i:=1) (show List.Nodup (["_law_begin","_law_shift_here","_law_moment"]:List Str) by decide +kernel) rfl (Or.inl rfl)) zn))))) (fun _ _ _ _ _=>(Jb (qw JX (pv 0) (pv 2) (qC _)))) (fun _ _ _ _ _=>(pv 1))) (Zj zU qd) (fun _ _=>rfl))))),?_⟩;(try dsimp only [zb,Cx.nox]);obtain⟨nf,hf⟩:=good.fst;have few:=good.few;refine⟨_,rfl,_,rfl,q,rfl,⟨_,SqL.of hq⟩,fun D fD=>?_⟩;refine zM (K:=K) (a:=q) (xs:=zs) (D:=D) (fun i σ H2=>∃ (c0 c1:Option V) (ss:List Int),σ=[c0,c1,some (.int m)]∧Same H H2∧H2 D=some (.lst (ss.map V.int))∧ss.length≤i∧(∀ x∈ss,-2880≤x∧x≤2880)∧(0 < i->0 < ss.length)) ⟨none,none,[],rfl,Same.new _ fD,qc,Nat.le_refl _,(fun _ z=>nomatch z),fun z=>absurd z (Nat.lt_irrefl 0)⟩ (fun i σ H2 _ ⟨_,_,_,_,S,_⟩=>SqL.of (S _ _ hq)) ?_ ?_
   · rintro i z σ H2 hz ⟨c0,c1,ss,rfl,S,hD,ls,bd,ne⟩;obtain⟨w,u,hw,rfl,hu⟩:=tz.of hz;have ok:=good.ok w (List.mem_of_getElem? hw);have il:i < rows.length:=(List.getElem?_eq_some_iff.mp hw).1;refine⟨u,_,rfl,SqT.of (S _ _ hu),rfl,_,_,rfl,_,_,rfl,rfl,?_⟩;refine⟨_,rfl,_,rfl,_,_,rfl,rfl,_,rfl,zP (fun g=>?_) (fun g=>?_)⟩
     · refine⟨_,rfl,_,hD,qB (by rw[List.length_map];omega),_,_,ss++[w.2],rfl,S.put fD _,by rw[qc,List.map_append];rfl,by rw[List.length_append];show ss.length+1≤_;omega,fun x mx=>?_,fun _=>by rw[List.length_append];show 0 < ss.length+1;omega⟩;rcases List.mem_append.mp mx with mx|mx
       · exact bd x mx
       · rw[List.mem_singleton.mp mx];exact⟨ok.2.2.1,ok.2.2.2⟩
     · refine⟨_,_,ss,rfl,S,hD,by omega,bd,fun _=>?_⟩
       cases i with
       | zero =>
         have:w.1=0:=by
           rw[List.head?_eq_getElem?,hw]at hf;cases hf;rfl
         exact absurd g (by omega)
       | succ i=>exact ne (by omega)
   rintro σ H2 ⟨c0,c1,ss,rfl,S,hD,ls,bd,ne⟩
   have pos:0 < rows.length:=by
     cases rows with
     | nil=>cases hf
     | cons a r=>exact Nat.succ_pos _
   have sp:=ne (by rw[tz.1];exact pos)
   obtain⟨x,hx⟩:∃ x,ss.getLast?=some x:=by
     cases h:ss.getLast? with
     | none=>rw[List.getLast?_eq_none_iff]at h;subst h;cases sp
     | some x=>exact⟨x,rfl⟩
   obtain⟨b1,b2⟩:=bd x (List.mem_of_getLast? hx);refine⟨_,rfl,.inl ⟨D,_,_,_,rfl,rfl,SqL.of hD,K32.atI_last (x:=V.int x) (by rw[List.getLast?_map,hx];rfl),.inl ⟨_,_,rfl,rfl,?_⟩⟩⟩;exact kk _ H2 S (by omega) (by omega)
theorem qfl {a:Ad} (T:Txt K mg a):qD P w K mg base CX0 3 a.f_3 a.fd_3 ["_law_state","_law_name","_law_places_here","_law_tables","_law_moment"] qbH:=by
 have G_a:=Q1 (P:=P) (w:=w) (base:=base) T;have G_2:=qdS (P:=P) (w:=w) (base:=base) T;refine T.d_3.F.ok sc_Laround (fun vs H Q E h=>?_) (fun cdv A outer s H vs Q E hr h=>?_)
 · obtain⟨p,q,tb,nm,ps,m,rfl,hp,hnm,hq,td,hm,kk⟩:=h;rfl
 · obtain⟨p,q,tb,nm,ps,m,rfl,hp,hnm,hq,td,hm,kk⟩:=h;have hu:=qH hr;have hU:=hr.units;have h_a:Room (2) _:=hr.mono (by decide);have h_2:Room (1) _:=hr.mono (by decide)
   refine⟨_,(@qe _ _ _ _ _ (by exact(@qx _ _ 5 _ _ _ _ (by exact sc_Laround.nd) (by rfl) (by exact(Or.inl rfl)) (by exact(@qz _ _ _ _ _ _ (rIx K) (by exact qp) (by exact(@qJ _ _ _ _ (by exact(@qa _ _ _ _ _ (by exact qE) (by exact(@qa _ _ _ _ _ (by exact qE) (by exact(@qa _ _ _ _ _ (by exact qE) (by exact(@qa _ _ _ _ _ (by exact qE) (by exact(@qa _ _ _ _ _ (by exact qE) (by exact(@qa _ _ _ _ _ (by exact qE) (by exact(@qa _ _ _ _ _ (by exact qE) (by exact(@qa _ _ _ _ _ (by exact qE) (by exact(@qb _)) (by rfl))) (by rfl))) (by rfl))) (by rfl))) (by rfl))) (by rfl))) (by rfl))) (by rfl))))) (by exact(qh G_a h_a rfl T.d_a.m T.d_a.k T.d_a.b .nil qq (qa (pv 0) (qa qd qb)))) (by exact fun _ _=>rfl))) (by rfl) (by exact .inl rfl)))
     (by exact(@qe _ _ _ _ _ (by exact(qx (i:=6) sc_Laround.nd rfl (Or.inl rfl) (qz (r:=rIx K) qp (pv 2) (qh G_a h_a rfl T.d_a.m T.d_a.k T.d_a.b .nil qq (qa (pv 0) (qa (qm qW (by rfl) T.n_len qM (qa (pv 2) qb)) qb))) (fun _ _=>rfl))))
     (by exact(@qe _ _ _ _ _ (by exact(@qx _ _ 7 _ _ _ _ (by exact sc_Laround.nd) (by rfl) (by exact(Or.inl rfl)) (by exact(@qz _ _ _ _ _ _ (rIx K) (by exact qp) (by exact(@qJ _ _ _ _ (by exact(@qa _ _ _ _ _ (by exact qd) (by exact(@qa _ _ _ _ _ (by exact qd) (by exact(@qa _ _ _ _ _ (by exact qd) (by exact(@qa _ _ _ _ _ (by exact qd) (by exact(@qa _ _ _ _ _ (by exact qd) (by exact(@qa _ _ _ _ _ (by exact(qA zH qd qd)) (by exact(@qb _)) (by rfl))) (by rfl))) (by rfl))) (by rfl))) (by rfl))) (by rfl))))) (by exact(qh G_a h_a rfl T.d_a.m T.d_a.k T.d_a.b .nil qq (qa (pv 0) (qa qd qb)))) (by exact fun _ _=>rfl))) (by rfl) (by exact .inl rfl)))
     (by exact(@qe _ _ _ _ _ (by exact(@qx _ _ 8 _ _ _ _ (by exact sc_Laround.nd) (by rfl) (by exact(Or.inl rfl)) (by exact(@qz _ _ _ _ _ _ (rIx K) (by exact qp) (by exact(@qJ _ _ _ _ (by exact(@qa _ _ _ _ _ (by exact qd) (by exact(@qa _ _ _ _ _ (by exact qd) (by exact(@qa _ _ _ _ _ (by exact qd) (by exact(@qa _ _ _ _ _ (by exact qd) (by exact(@qa _ _ _ _ _ (by exact(qA zH qd qd)) (by exact(@qb _)) (by rfl))) (by rfl))) (by rfl))) (by rfl))) (by rfl))))) (by exact(qh G_a h_a rfl T.d_a.m T.d_a.k T.d_a.b .nil qq (qa (pv 0) (qa qd qb)))) (by exact fun _ _=>rfl))) (by rfl) (by exact .inl rfl)))
     (by exact(qe (qO (qw jQ (pv 5) (qV (qa qE (qa qE qb))) (by with_unfolding_all rfl))
       (qe (qx (i:=9) sc_Laround.nd rfl (Or.inl rfl) (qh G_2 h_2 rfl T.d_2.m T.d_2.k T.d_2.b .nil qq (qa (Jc hu (pv 3) (pv 6) (fun _ _=>rfl)) (qa (pv 4) qb))))
       (qe (qO (qw (uEq hU) (pv 5) qE (qC _))
         (qf (qt (qV (qa (pv 5) (qa (pv 1) (qa (pv 6) (qa (pv 9) (qa (pv 9) qb))))))))
         qy)
       (qf (qt (qV (qa (pv 5) (qa (pv 1) (qa (pv 6) (qa (qA zK (pv 9) (pv 7)) (qa (qA QT (pv 9) (pv 8)) qb))))))))))
       qy)
     (qe (qO (qw (uEq hU) (pv 5) qE (qC _))
       (qf (qt (qV (qa (pv 5) (qa (pv 1) (qa qE (qa qd (qa (qA zH qd qd) qb))))))))
       qy)
     (qe (qO (qw (uEq hU) (pv 5) qE (qC _))
       (qf (qt (qV (qa (pv 5) (qa (pv 1) (qa qE (qa (pv 4) (qa (pv 4) qb))))))))
       qy)
     (qf (qt (qV (qa (pv 5) (qa (pv 1) (qa qE (qa (qm (zh rfl) (by rfl) T.n_max zi (qa qd (qa (qA zK (pv 4) (pv 7)) qb))) (qa (qm (zC rfl) (by rfl) T.n_min zD (qa (qA zH qd qd) (qa (qA QT (pv 4) (pv 8)) qb))) qb))))))))))))))))))),?_⟩
   try dsimp only [zb,Cx.nox]
   have p0:PenAt H p:=hp;have t0:But p H H:=But.refl p H;have lps:=td.2.ne;have lpf:=td.2.few
   have nq:q≠p:=by
     obtain⟨c,x,y,_,e⟩:=hp;refine Qm hq e (fun z=>?_);injection z with z
     cases ps with
     | nil=>cases lps
     | cons a r=>cases z
   have lq:((ps.map (·.1)).map V.str).length=ps.length:=by rw[List.length_map,List.length_map]
   have e9:(10:Int) ^ (9:Int).toNat=1000000000:=by decide
   have e7:(10:Int) ^ (7:Int).toNat=10000000:=by decide
   refine⟨(qk (Nat.le_of_ble_eq_true rfl)),fun lw f_lw=>?_⟩;have n_lw:lw≠p:=p0.ne f_lw;have e_lw:(upd H lw (.lst [.str "within",.str "read",.str "between",.str "any",.str "at",.str "read",.str "between",.str "within"])) lw=some (.lst [.str "within",.str "read",.str "between",.str "any",.str "at",.str "read",.str "between",.str "within"]):=qc;have p1:PenAt (upd H lw (.lst [.str "within",.str "read",.str "between",.str "any",.str "at",.str "read",.str "between",.str "within"])) p:=p0.upd n_lw _;have u1:Same H (upd H lw (.lst [.str "within",.str "read",.str "between",.str "any",.str "at",.str "read",.str "between",.str "within"])):=Same.new _ f_lw;have t1:=t0.same u1;(try dsimp only);generalize upd H lw (.lst [.str "within",.str "read",.str "between",.str "any",.str "at",.str "read",.str "between",.str "within"])=G1 at e_lw p1 u1 t1 ⊢;refine⟨_,rfl,p,_,rfl,p1,by decide,by decide,fun iw G2 iw0 iw1 u2 p2=>?_⟩;have t2:=t1.trans u2;obtain⟨v,hv,mv⟩:=Qq (xs:=([.str "within",.str "read",.str "between",.str "any",.str "at",.str "read",.str "between",.str "within"]:List V)) iw0 iw1
   obtain⟨wd,rfl,hw⟩:∃ wd:Str,v=.str wd∧(wd="within"∨wd="read"∨wd="between"∨wd="any"∨wd="at"):=by
     simp only[List.mem_cons,List.not_mem_nil,or_false]at mv;rcases mv with rfl|rfl|rfl|rfl|rfl|rfl|rfl|rfl<;>exact⟨_,rfl,by decide⟩
   refine .inl ⟨lw,_,_,_,rfl,rfl,SqL.of (u2 _ _ e_lw n_lw),hv,?_⟩;refine⟨_,rfl,_,rfl,_,rfl,_,_,rfl,.inl ⟨_,SqL.of (t2 _ _ hq nq),rfl⟩,p,_,rfl,p2,by rw[lq];omega,by rw[lq];omega,fun ip G3 ip0 ip1 u3 p3=>?_⟩;have t3:=t2.trans u3;obtain⟨j,rfl⟩:=Int.eq_ofNat_of_zero_le ip0;have jl:j < ps.length:=by rw[lq]at ip1;omega
   have mx:=List.getElem_mem jl;have hx:((ps.map (·.1)).map V.str)[j]?=some (.str ps[j].1):=by rw[List.getElem?_map,List.getElem?_map,List.getElem?_eq_getElem jl];rfl
   generalize ps[j]=x at mx hx;refine .inl ⟨q,_,_,_,rfl,rfl,SqL.of (t3 _ _ hq nq),zo hx,?_⟩;refine⟨_,_,rfl,rfl,⟨by decide,by decide,by decide⟩,(qk (Nat.le_of_ble_eq_true rfl)),fun ln f_ln=>?_⟩;have n_ln:ln≠p:=p3.ne f_ln;have e_ln:(upd G3 ln (.lst [.int 0,.int 0,.int 1,.int 60,.int 3000,.int (10 ^ (7:Int).toNat)])) ln=some (.lst [.int 0,.int 0,.int 1,.int 60,.int 3000,.int (10 ^ (7:Int).toNat)]):=qc;have p4:PenAt (upd G3 ln (.lst [.int 0,.int 0,.int 1,.int 60,.int 3000,.int (10 ^ (7:Int).toNat)])) p:=p3.upd n_ln _;have u4:Same G3 (upd G3 ln (.lst [.int 0,.int 0,.int 1,.int 60,.int 3000,.int (10 ^ (7:Int).toNat)])):=Same.new _ f_ln;have t4:=t3.same u4;(try dsimp only);generalize upd G3 ln (.lst [.int 0,.int 0,.int 1,.int 60,.int 3000,.int (10 ^ (7:Int).toNat)])=G4 at e_ln p4 u4 t4 ⊢;refine⟨_,rfl,p,_,rfl,p4,by decide,by decide,fun ia G5 ia0 ia1 u5 p5=>?_⟩;have t5:=t4.trans u5;obtain⟨v,hv,mv⟩:=Qq (xs:=([.int 0,.int 0,.int 1,.int 60,.int 3000,.int (10 ^ (7:Int).toNat)]:List V)) ia0 ia1
   obtain⟨nr,rfl,nr0,nr1⟩:∃ u:Int,v=.int u∧0≤u∧u≤10000000:=by
     simp only[List.mem_cons,List.not_mem_nil,or_false]at mv;rcases mv with rfl|rfl|rfl|rfl|rfl|rfl<;>exact⟨_,rfl,by decide,by decide⟩
   refine .inl ⟨ln,_,_,_,rfl,rfl,SqL.of (u5 _ _ e_ln n_ln),hv,?_⟩;refine⟨_,_,rfl,rfl,⟨by decide,by decide,by decide⟩,(qk (Nat.le_of_ble_eq_true rfl)),fun lf f_lf=>?_⟩;have n_lf:lf≠p:=p5.ne f_lf;have e_lf:(upd G5 lf (.lst [.int 0,.int 1,.int 60,.int 3000,.int (10 ^ (7:Int).toNat)])) lf=some (.lst [.int 0,.int 1,.int 60,.int 3000,.int (10 ^ (7:Int).toNat)]):=qc;have p6:PenAt (upd G5 lf (.lst [.int 0,.int 1,.int 60,.int 3000,.int (10 ^ (7:Int).toNat)])) p:=p5.upd n_lf _;have u6:Same G5 (upd G5 lf (.lst [.int 0,.int 1,.int 60,.int 3000,.int (10 ^ (7:Int).toNat)])):=Same.new _ f_lf;have t6:=t5.same u6;(try dsimp only);generalize upd G5 lf (.lst [.int 0,.int 1,.int 60,.int 3000,.int (10 ^ (7:Int).toNat)])=G6 at e_lf p6 u6 t6 ⊢;refine⟨_,rfl,p,_,rfl,p6,by decide,by decide,fun ib G7 ib0 ib1 u7 p7=>?_⟩;have t7:=t6.trans u7;obtain⟨v,hv,mv⟩:=Qq (xs:=([.int 0,.int 1,.int 60,.int 3000,.int (10 ^ (7:Int).toNat)]:List V)) ib0 ib1
   obtain⟨fr,rfl,fr0,fr1⟩:∃ u:Int,v=.int u∧0≤u∧u≤10000000:=by
     simp only[List.mem_cons,List.not_mem_nil,or_false]at mv;rcases mv with rfl|rfl|rfl|rfl|rfl<;>exact⟨_,rfl,by decide,by decide⟩
   refine .inl ⟨lf,_,_,_,rfl,rfl,SqL.of (u7 _ _ e_lf n_lf),hv,?_⟩;refine⟨_,rfl,(qk (Nat.le_of_ble_eq_true rfl)),fun tt f_tt=>?_⟩;have n_tt:tt≠p:=p7.ne f_tt;have e_tt:(upd G7 tt (.tup [.str "between",.str "read"])) tt=some (.tup [.str "between",.str "read"]):=qc;have p8:PenAt (upd G7 tt (.tup [.str "between",.str "read"])) p:=p7.upd n_tt _;have u8:Same G7 (upd G7 tt (.tup [.str "between",.str "read"])):=Same.new _ f_tt;have t8:=t7.same u8;(try dsimp only);generalize upd G7 tt (.tup [.str "between",.str "read"])=G8 at e_tt p8 u8 t8 ⊢;refine⟨tt,_,rfl,.inr (SqT.of e_tt),rfl,rfl,_,rfl,?_⟩;have tdk:=td.bp hp t8;have good:=td.2.good x mx;have nmx:=td.2.nm x mx;have mpl:x.1∈ps.map (·.1):=List.mem_map_of_mem mx
   have fin:∀ (G:Hp) (s:Addr) (wd pl:Str) (lo hi:Int),Same G8 G->G s=none->Spc wd nm pl lo hi->(pl=""∨pl∈ps.map (·.1))->Q (.ref s) (upd G s (.tup (qhz wd nm pl lo hi))):=fun G s wd pl lo hi SG fs sp hp'=>by
     have pG:=p8.same SG;have ns:=pG.ne fs;exact kk s wd pl lo hi _ ((t8.same SG).none fs ns) ((t8.same SG).same (Same.new _ fs)) (pG.upd ns _) qc sp hp'
   rcases hw with rfl|rfl|rfl|rfl|rfl
   · refine qS (by decide) ?_;refine⟨_,rfl,.inl ⟨rfl,_,rfl,zP (fun g=>absurd g (by decide)) (fun _=>?_)⟩⟩;refine⟨_,rfl,.inl ⟨rfl,_,rfl,zP (fun g=>absurd g (by decide)) (fun _=>?_)⟩⟩;refine⟨_,rfl,_,rfl,_,rfl,_,rfl,_,_,rfl,rfl,_,_,rfl,_,_,rfl,rfl,⟨by decide,by decide,by decide⟩,_,rfl,_,rfl,.inl ⟨_,_,rfl,rfl,_,_,rfl,qk (Nat.le_of_ble_eq_true rfl),fun s fs=>?_⟩⟩;rw[e9];exact fin G8 s _ _ _ _ (Same.refl _) fs (.within hnm (by constructor<;>(split<;>omega)) (by constructor<;>(split<;>omega))) (.inl rfl)
   · refine Ji (by decide) ?_;refine⟨_,rfl,_,rfl,tb,_,rfl,tdk.get mx,_,rfl,x.2.1,x.2.2,m,rfl,tdk.2.rs x mx,good,hm.1,fun n G S n0 n1=>?_⟩;refine⟨_,rfl,.inl ⟨rfl,_,rfl,zP (fun _=>?_) (fun g=>absurd rfl g)⟩⟩;exact⟨_,rfl,_,rfl,_,rfl,_,rfl,_,rfl,qk (Nat.le_of_ble_eq_true rfl),fun s fs=>fin G s _ _ _ _ S fs (.read hnm nmx ⟨by omega,by omega⟩) (.inr mpl)⟩
   · refine Ji (by decide) ?_;refine⟨_,rfl,_,rfl,tb,_,rfl,tdk.get mx,_,rfl,x.2.1,x.2.2,m,rfl,tdk.2.rs x mx,good,hm.1,fun n G S n0 n1=>?_⟩;refine⟨_,rfl,.inl ⟨rfl,_,rfl,zP (fun g=>absurd g (by decide)) (fun _=>?_)⟩⟩;exact⟨_,rfl,_,rfl,_,rfl,_,rfl,_,rfl,_,_,rfl,rfl,_,rfl,_,rfl,.inl ⟨_,_,rfl,rfl,qk (Nat.le_of_ble_eq_true rfl),fun s fs=>fin G s _ _ _ _ S fs (.between hnm nmx ⟨by omega,by omega⟩ ⟨by omega,by omega⟩) (.inr mpl)⟩⟩
   · refine qS (by decide) ?_;refine⟨_,rfl,.inl ⟨rfl,_,rfl,zP (fun _=>?_) (fun g=>absurd rfl g)⟩⟩;refine⟨_,rfl,_,rfl,_,_,rfl,rfl,⟨by decide,by decide,by decide⟩,qk (Nat.le_of_ble_eq_true rfl),fun s fs=>?_⟩;rw[e9];exact fin G8 s _ _ _ _ (Same.refl _) fs (.any hnm) (.inl rfl)
   · refine qS (by decide) ?_;refine⟨_,rfl,.inl ⟨rfl,_,rfl,zP (fun g=>absurd g (by decide)) (fun _=>?_)⟩⟩;refine⟨_,rfl,.inl ⟨rfl,_,rfl,zP (fun _=>?_) (fun g=>absurd rfl g)⟩⟩;exact⟨_,rfl,_,rfl,_,rfl,_,rfl,qk (Nat.le_of_ble_eq_true rfl),fun s fs=>fin G8 s _ _ _ _ (Same.refl _) fs (.at_ hnm hm) (.inl rfl)⟩
end
theorem J6 (v:V):(!decide (v=v))=false:=by rw[decide_eq_true rfl];rfl
theorem qdT {{x:Str}} (h:zc (.str x)=true):PyData.strOk x=true:=by
 have hs:x.cps.toList.all sgn=true:=by
   simp only[zc,Bool.and_eq_true]at h;exact h.2
 unfold PyData.strOk;rw[← Array.all_toList];refine List.all_eq_true.mpr fun c m=>?_
 have:=List.all_eq_true.mp hs c m
 unfold sgn at this;rw[Bool.and_eq_true]at this;have h2:=this.2;rw[Bool.not_eq_true',decide_eq_false_iff_not]at h2
 have h3:¬ (122 < c):=fun z=>h2 (by
   show ([122]:List Nat) < [c]
   exact List.Lex.rel z)
 exact decide_eq_true (by omega)
theorem qfQ {H:Hp}:∀ {xs:List Str},(∀ x∈xs,PyData.strOk x=true)->DVs H (xs.map V.str) (xs.map PyData.str)∧PyData.canLayAll0 (xs.map PyData.str)=true∧PyData.depthAll (xs.map PyData.str)≤1
 | [],_=>⟨.nil,rfl,by simp[PyData.depthAll]⟩
 | x::xs,h=>by
   obtain⟨h1,h2,h3⟩:=qfQ (xs:=xs) fun z m=>h z (List.mem_cons_of_mem _ m);refine⟨.cons (.str x) h1,?_,?_⟩
   · rw[List.map_cons];simp only[PyData.canLayAll0,PyData.canLay0,h2,h x List.mem_cons_self];rfl
   · rw[List.map_cons];simp only[PyData.depthAll,PyData.depth];omega
theorem qj3 {ds:List PyData}{n:Nat} (h1:PyData.canLayAll0 ds=true) (h2:PyData.depthAll ds≤n) (hn:n≤60):PyData.canLay0 (.list ds)=true∧SeqAt.shaped (.list ds)=true:=by
 have cl:PyData.canLay0 (.list ds)=true:=by simp only[PyData.canLay0,h1]
 refine⟨cl,?_⟩;unfold SeqAt.shaped;rw[cl,Bool.true_and];refine decide_eq_true ?_;simp only[PyData.depth];omega
theorem Jf {H:Hp}{a b:Addr}{xs:List Str}{Q:VK} (ok:∀ x∈xs,PyData.strOk x=true) (h1:H a=some (.lst (xs.map V.str))) (h2:H b=some (.lst (xs.map V.str))) (q:Q (.bl false) H):qlB (.ref a) (.ref b) H Q:=by
 obtain⟨d1,d2,d3⟩:=qfQ (H:=H) ok;obtain⟨c,sh⟩:=qj3 d2 d3 (by decide);refine .inr ⟨_,_,.lst (.inl h1) d1,.lst (.inl h2) d1,sh,sh,?_⟩;rw[SeqAt.eqv_refl _ c];exact q
inductive Za (a:Ad) (vs:List V) (H:Hp) (Q:VK):Prop
 | mk (b:Bk) (s sv:Addr) (e r:Int) (h1:vs=[.ref b.x,.ref s,.ref sv]) (h2:EnK a sv H b) (h3:SpB b) (h4:H s=some (.tup (qhz b.wd b.nm b.pl b.lo b.hi))) (h5:H sv=some (.lst [.int e,.int r])) (h6:b.sf=isS b.wd b.lo b.hi e) (h7:∀ H',Same H H'->Q (.bl true) H'):Za a vs H Q
def Z0 (a:Ad):Sp:=fun vs H Q _=>Za a vs H Q
section
variable {P:Program}{w:World}{K:Frag}{mg:Str->Option Value}{base:Heap}
theorem qbm {a:Ad} (T:Txt K mg a):qD P w K mg base CX0 2 a.f_6 a.fd_6 ["_law_part_here","_law_spec_here","_law_sieve"] (Z0 a):=by
 have G_i:=Q2 (P:=P) (w:=w) (base:=base) T;have G_C:=qcs (P:=P) (w:=w) (base:=base) T;have G_D:=qbi (P:=P) (w:=w) (base:=base) T;have G_E:=qfm (P:=P) (w:=w) (base:=base) T;have G_F:=qaP (P:=P) (w:=w) (base:=base) T;have G_G:=qde (P:=P) (w:=w) (base:=base) T;have G_H:=qbj (P:=P) (w:=w) (base:=base) T;have G_b:=Ql (P:=P) (w:=w) (base:=base) T;have G_e:=zW (P:=P) (w:=w) (base:=base) T;refine T.d_6.F.ok sc_Lpart_right (fun vs H Q E h=>?_) (fun cdv A outer s H vs Q E hr h=>?_)
 · obtain⟨b,s,sv,e,r,rfl,enk,sp,hs,hsv,hsf,kk⟩:=h;rfl
 · obtain⟨b,s,sv,e,r,rfl,enk,sp,hs,hsv,hsf,kk⟩:=h;have hU:=hr.units;have h_i:Room (1) _:=hr.mono (by decide);have h_C:Room (1) _:=hr.mono (by decide);have h_D:Room (1) _:=hr.mono (by decide);have h_E:Room (1) _:=hr.mono (by decide);have h_F:Room (1) _:=hr.mono (by decide);have h_G:Room (1) _:=hr.mono (by decide);have h_H:Room (1) _:=hr.mono (by decide);have h_b:Room (1) _:=hr.mono (by decide);have h_e:Room (1) _:=hr.mono (by decide)
   refine⟨_,(qe (qx (i:=3) sc_Lpart_right.nd rfl (Or.inl rfl) (qz (r:=rIx K) qp (pv 1) qd (fun _ _=>rfl)))
     (qe (qO (za (qh G_i h_i rfl T.d_i.m T.d_i.k T.d_i.b .nil qq (qa (pv 1) (qa (pv 2) qb))))
       (qe (qO (PW.pt (jn (zu (za (qm (r:=qkm K) jX (by rfl) T.n_isinstance qv (qa (pv 0) (qa (zI (v:=.ref a.c_Sifted) rfl T.g_Sifted rfl) qb))))) (jn (qw (uNe hU) (PE.or (qG (pv 0) T.cl_Entry T.d_C.mt G_C h_C T.d_C.b .nil qq) (PE.or (qG (pv 0) T.cl_Within T.d_D.mt G_D h_D T.d_D.b .nil qq) (PE.or (qG (pv 0) T.cl_At T.d_E.mt G_E h_E T.d_E.b .nil qq) (PE.or (qG (pv 0) T.cl_Between T.d_F.mt G_F h_F T.d_F.b .nil qq) (PE.or (qG (pv 0) T.cl_Read T.d_G.mt G_G h_G T.d_G.b .nil qq) (qG (pv 0) T.cl_Sifted T.d_H.mt G_H h_H T.d_H.b .nil qq)))))) qE (qC _)) (Zg (qw (uNe hU) (zl (pv 0) rfl) (qz (r:=rIx K) qp (pv 1) qd (fun _ _=>rfl)) (qC _))))))
         (qf (qt Jd))
         qy)
       (qf (qx (i:=0) sc_Lpart_right.nd rfl (Or.inl rfl) (zl (pv 0) rfl))))
       qy)
     (qe (qO (PW.pt (jn (qw (uNe hU) (PE.or (qG (pv 0) T.cl_Entry T.d_C.mt G_C h_C T.d_C.b .nil qq) (PE.or (qG (pv 0) T.cl_Within T.d_D.mt G_D h_D T.d_D.b .nil qq) (PE.or (qG (pv 0) T.cl_At T.d_E.mt G_E h_E T.d_E.b .nil qq) (PE.or (qG (pv 0) T.cl_Between T.d_F.mt G_F h_F T.d_F.b .nil qq) (PE.or (qG (pv 0) T.cl_Read T.d_G.mt G_G h_G T.d_G.b .nil qq) (qG (pv 0) T.cl_Sifted T.d_H.mt G_H h_H T.d_H.b .nil qq)))))) (pv 3) (qC _)) (jn (qw (uNe hU) (zl (pv 0) rfl) (qz (r:=rIx K) qp (pv 1) qd (fun _ _=>rfl)) (qC _)) (Zg (qw (uNe hU) (PE.or (qG (pv 0) T.cl_Entry T.d_b.mt G_b h_b T.d_b.b .nil qq) (PE.or (qG (pv 0) T.cl_Within T.i_Within_places G_b h_b T.d_b.b .nil qq) (PE.or (qG (pv 0) T.cl_At T.i_At_places G_b h_b T.d_b.b .nil qq) (PE.or (qG (pv 0) T.cl_Between T.d_e.mt G_e h_e T.d_e.b .nil qq) (qG (pv 0) T.cl_Read T.i_Read_places G_e h_e T.d_e.b .nil qq))))) (qz (r:=rIx K) qp (qJ (qa (qJ qb) (qa (qJ (qa (qz (r:=rIx K) qp (pv 1) qd (fun _ _=>rfl)) qb)) qb))) (zB qa6 (by rfl) T.n_int jY (qa (zA (uNe hU) (qz (r:=rIx K) qp (pv 1) qd (fun _ _=>rfl)) qE (qC _)) qb)) (fun _ _=>rfl)) (qC _))))))
       (qf (qt Jd))
       qy)
     (qf (qt (qkY (zA (uEq hU) (pv 3) qE (qC _)) (je (jg (zA (uEq hU) (zl (pv 0) rfl) (qz (r:=rIx K) qp (pv 1) qd (fun _ _=>rfl)) (qC _)) (je (zA (uEq hU) (zl (pv 0) rfl) (qz (r:=rIx K) qp (pv 1) qd (fun _ _=>rfl)) (qC _))))))))))),?_⟩
   try dsimp only [zb,Cx.nox]
   refine⟨_,rfl,.inr (.inl ⟨s,_,_,_,rfl,rfl,SqT.of hs,rfl,?_⟩)⟩;(try unfold qK);(try dsimp only);refine qL (t:=qiJ _ _ _) (fun σ' H'=>∃ x:Addr,σ'=[some (.ref x),some (.ref s),some (.ref sv),some (.str b.wd)]∧Same H H'∧En a H' x b.wd b.nm b.pl b.lo b.hi) (fun N hN=>?_) ?_
   · refine⟨_,rfl,_,rfl,s,sv,b.wd,b.nm,b.pl,b.lo,b.hi,e,r,rfl,hs,sp,hsv,fun H1 S1=>⟨_,rfl,?_⟩⟩;rw[← hsf];have hs1:=S1 _ _ hs
     cases enk with
     | @one x wd nm pl lo hi en=>exact qbt (hN _ _ ⟨x,rfl,S1,en.same S1⟩)
     | @sift x p f dx wd nm pl lo hi hx en hf hw =>
       have hx1:=S1 _ _ hx;refine qfy ?_;refine⟨_,rfl,_,_,_,_,rfl,T.io_Sifted.ty hx1,J9 T,true,rfl,qS rfl ?_⟩;refine Or.inr <| Or.inr <| Or.inr <| Or.inr <| Or.inr <| ⟨_,rfl,x,dx,_,rfl,hx1,rfl,_,rfl,.inl ⟨rfl,_,rfl,qS (by decide) ?_⟩⟩;refine⟨_,rfl,x,_,dx,_,_,rfl,hx1,T.cl_Sifted,T.n_Sifted_name,rfl,_,rfl,.inr (.inl ⟨s,_,_,_,rfl,rfl,SqT.of hs1,rfl,.inl ⟨rfl,_,rfl,qS (J6 _) ?_⟩⟩)⟩;exact⟨_,rfl,x,_,dx,_,_,rfl,hx1,T.cl_Sifted,T.n_Sifted_part,rfl,hN _ _ ⟨p,rfl,S1,en.same S1⟩⟩
   rintro _ H1 ⟨x,rfl,S1,en⟩;have hs1:=S1 _ _ hs;have sp:Spc b.wd b.nm b.pl b.lo b.hi:=sp;generalize b.wd=wd at *;generalize b.nm=nm at *;generalize b.pl=pl at *;generalize b.lo=lo at *;generalize b.hi=hi at *;(try unfold qK);(try dsimp only)
   cases en with
   | @any dx _ hx =>
     refine Or.inl ⟨_,rfl,x,dx,_,rfl,hx,rfl,_,rfl,_,rfl,.inl ⟨rfl,_,rfl,qS (by decide) ?_⟩⟩;refine⟨_,rfl,x,_,dx,_,_,rfl,hx,T.cl_Entry,T.n_Entry_name,rfl,_,rfl,.inr (.inl ⟨s,_,_,_,rfl,rfl,SqT.of hs1,rfl,.inl ⟨rfl,_,rfl,qS (J6 _) ?_⟩⟩)⟩;refine Or.inl ⟨_,rfl,x,dx,_,rfl,hx,rfl,_,rfl,fun l1 f1=>?_⟩;generalize hG:upd H1 l1 _=A1;obtain⟨z1,y1⟩:=qF hG f1;clear hG;refine⟨Nat.zero_le _,fun l2 f2=>?_⟩;generalize hG:upd A1 l2 _=A2;obtain⟨z2,y2⟩:=qF hG f2;clear hG;refine⟨_,rfl,.inr (.inl ⟨s,_,_,_,rfl,rfl,SqT.of ((z1.trans z2) _ _ hs1),rfl,qk (Nat.le_of_ble_eq_true rfl),fun l3 f3=>?_⟩)⟩;generalize hG:upd A2 l3 _=A3;obtain⟨z3,y3⟩:=qF hG f3;clear hG;refine⟨qk (Nat.le_of_ble_eq_true rfl),fun l4 f4=>?_⟩;generalize hG:upd A3 l4 _=A4;obtain⟨z4,y4⟩:=qF hG f4;clear hG;have Z:=z1.trans (z2.trans (z3.trans z4));refine⟨_,rfl,.inr (.inl ⟨s,_,_,_,rfl,rfl,SqT.of (Z _ _ hs1),rfl,.inl ⟨rfl,?_⟩⟩)⟩;rw[show (!decide (V.str ""=V.str ""))=false from J6 _];refine .inr ⟨false,rfl,.inl ⟨l4,_,_,_,rfl,rfl,SqL.of y4,rfl,Jf (xs:=[]) (fun x m=>nomatch m) ((z2.trans (z3.trans z4)) _ _ y1) ((z3.trans z4) _ _ y2) ⟨_,rfl,qbt ?_⟩⟩⟩;(try unfold qK);(try dsimp only);exact⟨_,rfl,.inl ⟨rfl,_,rfl,Ji rfl (kk _ (S1.trans Z))⟩⟩
   | @within dx _ _ _ hx =>
     refine Or.inr <| Or.inl ⟨_,rfl,x,dx,_,rfl,hx,rfl,_,rfl,_,rfl,.inl ⟨rfl,_,rfl,qS (by decide) ?_⟩⟩;refine⟨_,rfl,x,_,dx,_,_,rfl,hx,T.cl_Within,T.n_Within_name,rfl,_,rfl,.inr (.inl ⟨s,_,_,_,rfl,rfl,SqT.of hs1,rfl,.inl ⟨rfl,_,rfl,qS (J6 _) ?_⟩⟩)⟩;refine Or.inr <| Or.inl ⟨_,rfl,x,dx,_,rfl,hx,rfl,_,rfl,fun l1 f1=>?_⟩;generalize hG:upd H1 l1 _=A1;obtain⟨z1,y1⟩:=qF hG f1;clear hG;refine⟨Nat.zero_le _,fun l2 f2=>?_⟩;generalize hG:upd A1 l2 _=A2;obtain⟨z2,y2⟩:=qF hG f2;clear hG;refine⟨_,rfl,.inr (.inl ⟨s,_,_,_,rfl,rfl,SqT.of ((z1.trans z2) _ _ hs1),rfl,qk (Nat.le_of_ble_eq_true rfl),fun l3 f3=>?_⟩)⟩;generalize hG:upd A2 l3 _=A3;obtain⟨z3,y3⟩:=qF hG f3;clear hG;refine⟨qk (Nat.le_of_ble_eq_true rfl),fun l4 f4=>?_⟩;generalize hG:upd A3 l4 _=A4;obtain⟨z4,y4⟩:=qF hG f4;clear hG;have Z:=z1.trans (z2.trans (z3.trans z4));refine⟨_,rfl,.inr (.inl ⟨s,_,_,_,rfl,rfl,SqT.of (Z _ _ hs1),rfl,.inl ⟨rfl,?_⟩⟩)⟩;rw[show (!decide (V.str ""=V.str ""))=false from J6 _];refine .inr ⟨false,rfl,.inl ⟨l4,_,_,_,rfl,rfl,SqL.of y4,rfl,Jf (xs:=[]) (fun x m=>nomatch m) ((z2.trans (z3.trans z4)) _ _ y1) ((z3.trans z4) _ _ y2) ⟨_,rfl,qbt ?_⟩⟩⟩;(try unfold qK);(try dsimp only);refine⟨_,rfl,.inl ⟨rfl,_,rfl,qS rfl ?_⟩⟩;refine⟨_,rfl,x,_,dx,_,_,rfl,(Z _ _ hx),T.cl_Within,T.n_Within_low,rfl,_,rfl,.inr (.inl ⟨s,_,_,_,rfl,rfl,SqT.of (Z _ _ hs1),rfl,.inl ⟨rfl,_,rfl,zP (fun _=>?_) (fun g=>absurd rfl g)⟩⟩)⟩;refine⟨_,rfl,x,_,dx,_,_,rfl,(Z _ _ hx),T.cl_Within,T.n_Within_high,rfl,_,rfl,.inr (.inl ⟨s,_,_,_,rfl,rfl,SqT.of (Z _ _ hs1),rfl,.inl ⟨rfl,?_⟩⟩)⟩;rw[decide_eq_true rfl];exact kk _ (S1.trans Z)
   | @at_ dx _ _ hx =>
     refine Or.inr <| Or.inr <| Or.inl ⟨_,rfl,x,dx,_,rfl,hx,rfl,_,rfl,_,rfl,.inl ⟨rfl,_,rfl,qS (by decide) ?_⟩⟩;refine⟨_,rfl,x,_,dx,_,_,rfl,hx,T.cl_At,T.n_At_name,rfl,_,rfl,.inr (.inl ⟨s,_,_,_,rfl,rfl,SqT.of hs1,rfl,.inl ⟨rfl,_,rfl,qS (J6 _) ?_⟩⟩)⟩;refine Or.inr <| Or.inr <| Or.inl ⟨_,rfl,x,dx,_,rfl,hx,rfl,_,rfl,fun l1 f1=>?_⟩;generalize hG:upd H1 l1 _=A1;obtain⟨z1,y1⟩:=qF hG f1;clear hG;refine⟨Nat.zero_le _,fun l2 f2=>?_⟩;generalize hG:upd A1 l2 _=A2;obtain⟨z2,y2⟩:=qF hG f2;clear hG;refine⟨_,rfl,.inr (.inl ⟨s,_,_,_,rfl,rfl,SqT.of ((z1.trans z2) _ _ hs1),rfl,qk (Nat.le_of_ble_eq_true rfl),fun l3 f3=>?_⟩)⟩;generalize hG:upd A2 l3 _=A3;obtain⟨z3,y3⟩:=qF hG f3;clear hG;refine⟨qk (Nat.le_of_ble_eq_true rfl),fun l4 f4=>?_⟩;generalize hG:upd A3 l4 _=A4;obtain⟨z4,y4⟩:=qF hG f4;clear hG;have Z:=z1.trans (z2.trans (z3.trans z4));refine⟨_,rfl,.inr (.inl ⟨s,_,_,_,rfl,rfl,SqT.of (Z _ _ hs1),rfl,.inl ⟨rfl,?_⟩⟩)⟩;rw[show (!decide (V.str ""=V.str ""))=false from J6 _];refine .inr ⟨false,rfl,.inl ⟨l4,_,_,_,rfl,rfl,SqL.of y4,rfl,Jf (xs:=[]) (fun x m=>nomatch m) ((z2.trans (z3.trans z4)) _ _ y1) ((z3.trans z4) _ _ y2) ⟨_,rfl,qbt ?_⟩⟩⟩;(try unfold qK);(try dsimp only);refine⟨_,rfl,.inl ⟨rfl,_,rfl,qS rfl ?_⟩⟩;refine⟨_,rfl,x,_,dx,_,_,rfl,(Z _ _ hx),T.cl_At,T.n_At_low,rfl,_,rfl,.inr (.inl ⟨s,_,_,_,rfl,rfl,SqT.of (Z _ _ hs1),rfl,.inl ⟨rfl,_,rfl,zP (fun _=>?_) (fun g=>absurd rfl g)⟩⟩)⟩;refine⟨_,rfl,x,_,dx,_,_,rfl,(Z _ _ hx),T.cl_At,T.n_At_high,rfl,_,rfl,.inr (.inl ⟨s,_,_,_,rfl,rfl,SqT.of (Z _ _ hs1),rfl,.inl ⟨rfl,?_⟩⟩)⟩;rw[decide_eq_true rfl];exact kk _ (S1.trans Z)
   | @between dx _ _ _ _ hx =>
     refine Or.inr <| Or.inr <| Or.inr <| Or.inl ⟨_,rfl,x,dx,_,rfl,hx,rfl,_,rfl,_,rfl,.inl ⟨rfl,_,rfl,qS (by decide) ?_⟩⟩;refine⟨_,rfl,x,_,dx,_,_,rfl,hx,T.cl_Between,T.n_Between_name,rfl,_,rfl,.inr (.inl ⟨s,_,_,_,rfl,rfl,SqT.of hs1,rfl,.inl ⟨rfl,_,rfl,qS (J6 _) ?_⟩⟩)⟩;refine Or.inr <| Or.inr <| Or.inr <| Or.inl ⟨_,rfl,x,dx,_,rfl,hx,rfl,x,_,dx,_,_,_,_,rfl,hx,T.cl_Between,T.n_Between_place,fun l1 f1=>?_⟩;generalize hG:upd H1 l1 _=A1;obtain⟨z1,y1⟩:=qF hG f1;clear hG;refine⟨Nat.zero_le _,fun l2 f2=>?_⟩;generalize hG:upd A1 l2 _=A2;obtain⟨z2,y2⟩:=qF hG f2;clear hG;refine⟨_,rfl,.inr (.inl ⟨s,_,_,_,rfl,rfl,SqT.of ((z1.trans z2) _ _ hs1),rfl,qk (Nat.le_of_ble_eq_true rfl),fun l3 f3=>?_⟩)⟩;generalize hG:upd A2 l3 _=A3;obtain⟨z3,y3⟩:=qF hG f3;clear hG;refine⟨qk (Nat.le_of_ble_eq_true rfl),fun l4 f4=>?_⟩;generalize hG:upd A3 l4 _=A4;obtain⟨z4,y4⟩:=qF hG f4;clear hG;have Z:=z1.trans (z2.trans (z3.trans z4));refine⟨_,rfl,.inr (.inl ⟨s,_,_,_,rfl,rfl,SqT.of (Z _ _ hs1),rfl,.inl ⟨rfl,?_⟩⟩)⟩;have okp:zc (.str pl)=true:=by cases sp with|between _ h _ _=>exact h
     rw[show (!decide (V.str pl=V.str ""))=true from by rw[jk,decide_eq_false (QD okp)];rfl];refine .inr ⟨true,rfl,.inl ⟨l4,_,_,_,rfl,rfl,SqL.of y4,rfl,Jf (xs:=[pl]) (fun x m=>by rw[List.mem_singleton.mp m];exact qdT okp) ((z2.trans (z3.trans z4)) _ _ y1) (z4 _ _ y3) ⟨_,rfl,qbt ?_⟩⟩⟩;(try unfold qK);(try dsimp only);refine⟨_,rfl,.inl ⟨rfl,_,rfl,qS rfl ?_⟩⟩;refine⟨_,rfl,x,_,dx,_,_,rfl,(Z _ _ hx),T.cl_Between,T.n_Between_low,rfl,_,rfl,.inr (.inl ⟨s,_,_,_,rfl,rfl,SqT.of (Z _ _ hs1),rfl,.inl ⟨rfl,_,rfl,zP (fun _=>?_) (fun g=>absurd rfl g)⟩⟩)⟩;refine⟨_,rfl,x,_,dx,_,_,rfl,(Z _ _ hx),T.cl_Between,T.n_Between_high,rfl,_,rfl,.inr (.inl ⟨s,_,_,_,rfl,rfl,SqT.of (Z _ _ hs1),rfl,.inl ⟨rfl,?_⟩⟩)⟩;rw[decide_eq_true rfl];exact kk _ (S1.trans Z)
   | @read dx _ _ _ hx =>
     refine Or.inr <| Or.inr <| Or.inr <| Or.inr <| Or.inl ⟨_,rfl,x,dx,_,rfl,hx,rfl,_,rfl,_,rfl,.inl ⟨rfl,_,rfl,qS (by decide) ?_⟩⟩;refine⟨_,rfl,x,_,dx,_,_,rfl,hx,T.cl_Read,T.n_Read_name,rfl,_,rfl,.inr (.inl ⟨s,_,_,_,rfl,rfl,SqT.of hs1,rfl,.inl ⟨rfl,_,rfl,qS (J6 _) ?_⟩⟩)⟩;refine Or.inr <| Or.inr <| Or.inr <| Or.inr <| ⟨_,rfl,x,dx,_,rfl,hx,rfl,x,_,dx,_,_,_,_,rfl,hx,T.cl_Read,T.n_Read_place,fun l1 f1=>?_⟩;generalize hG:upd H1 l1 _=A1;obtain⟨z1,y1⟩:=qF hG f1;clear hG;refine⟨Nat.zero_le _,fun l2 f2=>?_⟩;generalize hG:upd A1 l2 _=A2;obtain⟨z2,y2⟩:=qF hG f2;clear hG;refine⟨_,rfl,.inr (.inl ⟨s,_,_,_,rfl,rfl,SqT.of ((z1.trans z2) _ _ hs1),rfl,qk (Nat.le_of_ble_eq_true rfl),fun l3 f3=>?_⟩)⟩;generalize hG:upd A2 l3 _=A3;obtain⟨z3,y3⟩:=qF hG f3;clear hG;refine⟨qk (Nat.le_of_ble_eq_true rfl),fun l4 f4=>?_⟩;generalize hG:upd A3 l4 _=A4;obtain⟨z4,y4⟩:=qF hG f4;clear hG;have Z:=z1.trans (z2.trans (z3.trans z4));refine⟨_,rfl,.inr (.inl ⟨s,_,_,_,rfl,rfl,SqT.of (Z _ _ hs1),rfl,.inl ⟨rfl,?_⟩⟩)⟩;have okp:zc (.str pl)=true:=by cases sp with|read _ h _=>exact h
     rw[show (!decide (V.str pl=V.str ""))=true from by rw[jk,decide_eq_false (QD okp)];rfl];refine .inr ⟨true,rfl,.inl ⟨l4,_,_,_,rfl,rfl,SqL.of y4,rfl,Jf (xs:=[pl]) (fun x m=>by rw[List.mem_singleton.mp m];exact qdT okp) ((z2.trans (z3.trans z4)) _ _ y1) (z4 _ _ y3) ⟨_,rfl,qbt ?_⟩⟩⟩;(try unfold qK);(try dsimp only);refine⟨_,rfl,.inl ⟨rfl,_,rfl,qS rfl ?_⟩⟩;refine⟨_,rfl,x,_,dx,_,_,rfl,(Z _ _ hx),T.cl_Read,T.n_Read_low,rfl,_,rfl,.inr (.inl ⟨s,_,_,_,rfl,rfl,SqT.of (Z _ _ hs1),rfl,.inl ⟨rfl,_,rfl,zP (fun _=>?_) (fun g=>absurd rfl g)⟩⟩)⟩;refine⟨_,rfl,x,_,dx,_,_,rfl,(Z _ _ hx),T.cl_Read,T.n_Read_high,rfl,_,rfl,.inr (.inl ⟨s,_,_,_,rfl,rfl,SqT.of (Z _ _ hs1),rfl,.inl ⟨rfl,?_⟩⟩)⟩;rw[decide_eq_true rfl];exact kk _ (S1.trans Z)
end
structure Pr (b:Bk) (d:Sd):Prop where
 wd:b.wd=d.wd
 nm:b.nm=d.nm
 pl:b.pl=d.pl
 lo:b.lo=d.lo
 hi:b.hi=d.hi
structure Jt (a:Ad) (H:Hp) (x dx l ql sv:Addr) (nm:Str) (bs:List Bk) (ds:List Sd) (e r:Int):Prop where
 hx:H x=some (.ins a.c_Joint dx (fsJ nm l))
 hl:H l=some (.lst (rfs (bs.map Bk.x)))
 hq:H ql=some (.lst (rfs (ds.map Sd.s)))
 n8:bs.length≤8
 ln:bs.length=ds.length
 en:∀ b∈bs,EnK a sv H b∧SpB b
 ok:∀ d∈ds,SdOk H d
 pr:∀ (i:Nat) (b:Bk) (d:Sd),bs[i]?=some b->ds[i]?=some d->Pr b d∧b.sf=isS d.wd d.lo d.hi e
 hv:H sv=some (.lst [.int e,.int r])
theorem Jt.same {a:Ad}{H H':Hp}{x dx l ql sv:Addr}{nm:Str}{bs:List Bk}{ds:List Sd}{e r:Int} (h:Jt a H x dx l ql sv nm bs ds e r) (s:Same H H'):Jt a H' x dx l ql sv nm bs ds e r :=
 ⟨s _ _ h.hx,s _ _ h.hl,s _ _ h.hq,h.n8,h.ln,fun b m=>⟨(h.en b m).1.same s,(h.en b m).2⟩,fun d m=>(h.ok d m).same s,h.pr,s _ _ h.hv⟩
inductive QL (a:Ad) (vs:List V) (H:Hp) (Q:VK):Prop
 | mk (x dx l ql sv:Addr) (nm:Str) (bs:List Bk) (ds:List Sd) (e r:Int) (h1:vs=[.ref x,.ref ql,.ref sv]) (h2:Jt a H x dx l ql sv nm bs ds e r) (h3:∀ H',Same H H'->Q (.bl true) H'):QL a vs H Q
def Zw (a:Ad):Sp:=fun vs H Q _=>QL a vs H Q
section
variable {P:Program}{w:World}{K:Frag}{mg:Str->Option Value}{base:Heap}
theorem qaN {a:Ad} (T:Txt K mg a):qD P w K mg base CX0 3 a.f_7 a.fd_7 ["_law_entry","_law_specs","_law_sieve"] (Zw a):=by
 have G_af:=qbn (P:=P) (w:=w) (base:=base) T;have G_ae:=qcq (P:=P) (w:=w) (base:=base) T;have G_6:=qbm (P:=P) (w:=w) (base:=base) T;refine T.d_7.F.ok sc_Lparts_right (fun vs H Q E h=>?_) (fun cdv A outer s H vs Q E hr h=>?_)
 · obtain⟨x,dx,l,ql,sv,nm,bs,ds,e,r,rfl,J,kk⟩:=h;rfl
 · obtain⟨x,dx,l,ql,sv,nm,bs,ds,e,r,rfl,J,kk⟩:=h;have hu:=qH hr;have hU:=hr.units;have h_af:Room (1) _:=hr.mono (by decide);have h_ae:Room (1) _:=hr.mono (by decide);have h_6:Room (2) _:=hr.mono (by decide)
   refine⟨_,(qe (zx PassesOwn.never rfl (zZ rfl T.n_range (qa qd qb)) (qr (i:=3) (sc_Lparts_right.nd) rfl (Or.inl rfl))
       (qe (qx (i:=4) sc_Lparts_right.nd rfl (Or.inl rfl) (qG (pv 0) T.cl_Joint T.d_af.mt G_af h_af T.d_af.b .nil qq))
       (qe (qO (PW.pt (jn (zu (za (qm zN (by rfl) T.n_isinstance qv (qa (pv 4) (qa (Qc (v:=.ty "list") rfl T.n_list zj rfl) qb))))) (Zg (qw (uNe hU) (qm qW (by rfl) T.n_len qM (qa (pv 4) qb)) (qm qW (by rfl) T.n_len qM (qa (pv 1) qb)) (qC _)))))
         (qf (qt Jd))
         qy)
       (qe (zx PassesOwn.never rfl (qgk rfl T.n_zip (qa (pv 4) (qa (pv 1) qb))) (zR rfl (qu (qr (i:=5) (sc_Lparts_right.nd) rfl (Or.inl rfl)) (qu (qr (i:=6) (sc_Lparts_right.nd) rfl (Or.inl rfl)) zn)))
         (qf (qO (zu (za (qh G_6 h_6 rfl T.d_6.m T.d_6.k T.d_6.b .nil qq (qa (pv 5) (qa (pv 6) (qa (pv 2) qb))))))
           (qf (qt Jd))
           qy)))
       (qf (qI (qk1 PySem.F.plainAttrs_list PySem.F.slot_list_clear PySem.F.type_list_clear qih (pv 4))))))))
     (qf (qt (zA (uEq hU) (qG (pv 0) T.cl_Joint T.d_ae.mt G_ae h_ae T.d_ae.b .nil qq) qE (qC _))))),?_⟩
   try dsimp only [zb,Cx.nox]
   have lb:(rfs (bs.map Bk.x)).length=bs.length:=by rw[List.length_map,List.length_map]
   have ld:(rfs (ds.map Sd.s)).length=ds.length:=by rw[List.length_map,List.length_map]
   have lbd:(rfs (bs.map Bk.x)).length=(rfs (ds.map Sd.s)).length:=by rw[lb,ld];exact J.ln
   refine qL (t:=qed _ _ _) (fun σ' H'=>∃ s3 s4 s5 s6:Option V,σ'=[some (.ref x),some (.ref ql),some (.ref sv),s3,s4,s5,s6]∧Same H H') (fun N hN=>?_) ?_
   · refine⟨2,rfl,by decide,by decide,Qo (lo:=0) (fun i σ H'=>∃ s3 s4 s5 s6:Option V,σ=[some (.ref x),some (.ref ql),some (.ref sv),s3,s4,s5,s6]∧Same H H') ⟨none,none,none,none,rfl,Same.refl H⟩ ?_ ?_⟩
     · rintro i σ H1 _ ⟨s3,s4,s5,s6,rfl,S1⟩;have J1:=J.same S1;refine⟨_,rfl,x,dx,_,rfl,J1.hx,rfl,x,dx,l,nm,_,rfl,J1.hx,J1.hl,fun q fq=>?_⟩;generalize hG:upd H1 q _=H2;obtain⟨S2,eq⟩:=qF hG fq;clear hG;have J2:=J1.same S2;have ty:tyN H2 (.ref q)=some "list":=by simp only[tyN];rw[eq]
       try unfold qK
       try dsimp only
       refine⟨_,rfl,_,_,_,rfl,(by decide),ty,true,rfl,qS rfl ?_⟩;refine⟨_,rfl,_,_,rfl,.inl ⟨_,SqL.of eq,rfl⟩,_,rfl,_,_,rfl,.inl ⟨_,SqL.of J2.hq,rfl⟩,.inl ⟨rfl,_,rfl,qS (by rw[lbd];exact J6 _) ?_⟩⟩;(try unfold qK);(try dsimp only);refine qL (t:=qed _ _ _) (fun σ' H'=>∃ s5 s6:Option V,σ'=[some (.ref x),some (.ref ql),some (.ref sv),some (.int (0+(i:Int))),some (.ref q),s5,s6]∧Same H2 H') (fun N2 hN2=>?_) ?_
       · refine⟨_,rfl,_,rfl,false,q,ql,rfl,⟨_,SqL.of eq⟩,⟨_,SqL.of J2.hq⟩,qj8 (K:=K) (t:=false) (a:=q) (b:=ql) (xs:=rfs (bs.map Bk.x)) (ys:=rfs (ds.map Sd.s)) (fun j σ H'=>∃ s5 s6:Option V,σ=[some (.ref x),some (.ref ql),some (.ref sv),some (.int (0+(i:Int))),some (.ref q),s5,s6]∧Same H2 H') lbd ⟨s5,s6,rfl,Same.refl _⟩ (fun j σ H' _ ⟨_,_,_,S⟩=>⟨SqL.of (S _ _ eq),SqL.of (S _ _ J2.hq)⟩) ?_ ?_⟩
         · rintro j u v σ H3 t hu hv ⟨s5',s6',rfl,S3⟩ ft;obtain⟨y,hy,rfl⟩:=zY hu;rw[List.getElem?_map]at hy;obtain⟨b,hb,rfl⟩:=Option.map_eq_some_iff.mp hy;obtain⟨w,hw,rfl⟩:=zY hv;rw[List.getElem?_map]at hw;obtain⟨d,hd,rfl⟩:=Option.map_eq_some_iff.mp hw;have St:=Same.new (.tup [.ref b.x,.ref d.s]) ft;have J3:=(J2.same S3).same St;obtain⟨pr,hsf⟩:=J3.pr j b d hb hd;obtain⟨en,sp⟩:=J3.en b (List.mem_of_getElem? hb);obtain⟨hs,_⟩:=J3.ok d (List.mem_of_getElem? hd);refine⟨t,_,rfl,SqT.of qc,rfl,_,_,rfl,_,_,rfl,rfl,?_⟩;refine⟨_,rfl,_,rfl,_,rfl,b,d.s,sv,e,r,rfl,en,sp,by rw[pr.wd,pr.nm,pr.pl,pr.lo,pr.hi];exact hs,J3.hv,by rw[pr.wd,pr.lo,pr.hi];exact hsf,fun H4 S4=>⟨true,rfl,qS rfl ⟨_,_,rfl,S3.trans (St.trans S4)⟩⟩⟩
         · rintro σ H3 ⟨s5',s6',rfl,S3⟩;exact hN2 _ _ ⟨s5',s6',rfl,S3⟩
       rintro _ H3 ⟨s5',s6',rfl,S3⟩;have fqH:H q=none:=S1.none fq;(try unfold qK);(try dsimp only);refine⟨_,rfl,.inl ⟨rfl,_,SqL.of (S3 _ _ eq)⟩,q,_,rfl,rfl,S3 _ _ eq,?_⟩;exact⟨_,_,_,_,rfl,((S1.trans S2).trans S3).put fqH _⟩
     · rintro σ H1 ⟨s3,s4,s5,s6,rfl,S1⟩;exact hN _ _ ⟨s3,s4,s5,s6,rfl,S1⟩
   rintro _ H1 ⟨s3,s4,s5,s6,rfl,S1⟩;refine⟨_,rfl,x,dx,_,rfl,S1 _ _ J.hx,rfl,_,rfl,.inl ⟨rfl,?_⟩⟩;rw[decide_eq_true rfl];exact kk H1 S1
end
theorem qjS (l:List Str) (x:Str):plJ (l++[x])=qjl (plJ l) x:=by unfold plJ;rw[List.foldl_append];rfl
theorem qaI (l:List Str):∀ k (h:k < (plJ l).length),∃ us ws,l=us++(plJ l)[k]::ws∧(∀ u∈us,u=""∨u∈(plJ l).take k)∧(plJ l)[k]≠""∧(plJ l)[k]∉(plJ l).take k:=by
 suffices H:∀ n,(∀ u∈l.take n,u=""∨u∈plJ (l.take n))∧∀ k (h:k < (plJ (l.take n)).length),∃ us ws,l.take n=us++(plJ (l.take n))[k]::ws∧(∀ u∈us,u=""∨u∈(plJ (l.take n)).take k)∧(plJ (l.take n))[k]≠""∧(plJ (l.take n))[k]∉(plJ (l.take n)).take k by
   have:=(H l.length).2
   rwa [List.take_length]at this
 intro n
 induction n with
 | zero=>exact⟨fun u m=>(nomatch m),fun k h=>absurd h (Nat.not_lt_zero _)⟩
 | succ n ih =>
   cases hx:l[n]? with
   | none =>
     have e:l.take (n+1)=l.take n:=by rw[List.take_add_one,hx];simp
     rw[e];exact ih
   | some x =>
     have e:l.take (n+1)=l.take n++[x]:=by rw[List.take_add_one,hx];rfl
     rw[e,qjS];generalize l.take n=t at ih;by_cases c:x=""∨x∈plJ t
     · rw[qd9 c];refine⟨fun u m=>?_,fun k h=>?_⟩
       · rcases List.mem_append.mp m with m|m
         · exact ih.1 u m
         · rw[List.mem_singleton.mp m];exact c
       · obtain⟨us,ws,e1,e2,e3,e4⟩:=ih.2 k h;refine⟨us,ws++[x],?_,e2,e3,e4⟩
         calc t++[x]=(us++(plJ t)[k]::ws)++[x]:=by rw[← e1]
           _=us++(plJ t)[k]::(ws++[x]):=by simp
     · have c1:x≠"":=fun z=>c (.inl z);have c2:x∉plJ t:=fun z=>c (.inr z);rw[qe5 c1 c2];refine⟨fun u m=>?_,fun k h=>?_⟩
       · rcases List.mem_append.mp m with m|m
         · exact(ih.1 u m).imp id fun z=>List.mem_append_left _ z
         · rw[List.mem_singleton.mp m];exact .inr (List.mem_append_right _ (List.mem_singleton.mpr rfl))
       · by_cases lt:k < (plJ t).length
         · obtain⟨us,ws,e1,e2,e3,e4⟩:=ih.2 k lt;have g:(plJ t++[x])[k]=(plJ t)[k]:=List.getElem_append_left lt;have tk:(plJ t++[x]).take k=(plJ t).take k:=List.take_append_of_le_length (Nat.le_of_lt lt);rw[g,tk];refine⟨us,ws++[x],?_,e2,e3,e4⟩
           calc t++[x]=(us++(plJ t)[k]::ws)++[x]:=by rw[← e1]
             _=us++(plJ t)[k]::(ws++[x]):=by simp
         · have ek:k=(plJ t).length:=by rw[List.length_append]at h;simp at h;omega
           subst ek;have g:(plJ t++[x])[(plJ t).length]=x:=by simp
           have tk:(plJ t++[x]).take (plJ t).length=plJ t:=by simp
           rw[g,tk];exact⟨t,[],rfl,ih.1,c1,c2⟩
theorem qgj {l:List Str}{x:Str} (h:x∈plJ l):x∈l∧x≠"":=by
 obtain⟨k,hk,rfl⟩:=List.mem_iff_getElem.mp h;obtain⟨us,ws,e1,_,e3,_⟩:=qaI l k hk;refine⟨?_,e3⟩
 have:(plJ l)[k]∈us++(plJ l)[k]::ws:=List.mem_append_right _ List.mem_cons_self
 rwa [← e1]at this
theorem qkU (l:List Str):(plJ l).Nodup:=by
 refine List.pairwise_iff_getElem.mpr fun i j hi hj lt=>?_;obtain⟨_,_,_,_,_,e4⟩:=qaI l j hj;intro z;exact e4 (List.mem_iff_getElem.mpr ⟨i,by rw[List.length_take];omega,by rw[List.getElem_take];exact z⟩)
theorem qix {ss:List Str}{i:Nat} (h:i≤ss.length):qfz (ss.map V.str) (some (i:Int)) none=(ss.drop i).map V.str:=by
 unfold qfz;rw[HT.sIx_nat,HT.sIx_none,List.length_map,Nat.min_eq_left h,← List.map_drop];exact List.take_of_length_le (by rw[List.length_map,List.length_drop];omega)
theorem qis (ts:Pls) (s:Str):qd2 (dkv ts) (.inr s)=dkv (ts.filter fun t=>decide (t.1≠s)):=by
 unfold qd2 dkv;rw[List.filter_map];congr 1;refine List.filter_congr fun t _=>?_;show decide (¬ (Sum.inr t.1=(Sum.inr s:Key)))=decide (¬ t.1=s);exact decide_eq_decide.mpr ⟨fun h z=>h (by rw[z]),fun h z=>h (by injection z)⟩
inductive qaq (a:Ad) (vs:List V) (H:Hp) (Q:VK):Prop
 | mk (x dx l td sv pq:Addr) (nm:Str) (bs:List Bk) (e r:Int) (ts:Pls) (h1:vs=[.ref x,.ref td,.ref pq]) (h2:H x=some (.ins a.c_Joint dx (fsJ nm l))) (h3:H l=some (.lst (rfs (bs.map Bk.x)))) (h4:bs.length≤8) (h5:(∀ b∈bs,EnK a sv H b∧SpB b)) (h6:H sv=some (.lst [.int e,.int r])) (h7:(∀ b∈bs,b.sf=true->0 < e)) (h8:Tq a H td ts) (h9:(∀ b∈bs,Has ts b.pl)) (h10:H pq=some (.lst ((plJ (bs.map Bk.pl)).map V.str))) (h11:∀ H',Same H H'->Q (.bl true) H'):qaq a vs H Q
def qcQ (a:Ad):Sp:=fun vs H Q _=>qaq a vs H Q
section
variable {P:Program}{w:World}{K:Frag}{mg:Str->Option Value}{base:Heap}
theorem qgw {a:Ad} (T:Txt K mg a):qD P w K mg base CX0 10 a.f_9 a.fd_9 ["_law_entry","_law_tabled","_law_places_here"] (qcQ a):=by
 have G_B:=qdg (P:=P) (w:=w) (base:=base) T;refine T.d_9.F.ok sc_Llacks (fun vs H Q E h=>?_) (fun cdv A outer s H vs Q E hr h=>?_)
 · obtain⟨x,dx,l,td,sv,pq,nm,bs,e,r,ts,rfl,hx,hl,n8,enb,hsv,he,tq,has,hpq,kk⟩:=h;rfl
 · obtain⟨x,dx,l,td,sv,pq,nm,bs,e,r,ts,rfl,hx,hl,n8,enb,hsv,he,tq,has,hpq,kk⟩:=h;have hu:=qH hr;have hU:=hr.units;have h_B:Room (9) _:=hr.mono (by decide)
   refine⟨_,(qe (zx PassesOwn.never rfl (zZ rfl T.n_range (qa (qm qW (by rfl) T.n_len qM (qa (pv 2) qb)) qb)) (qr (i:=3) (sc_Llacks.nd) rfl (Or.inl rfl))
       (qe (qx (i:=4) sc_Llacks.nd rfl (Or.inl rfl) (zB (r:=qiY) qfv (by rfl) T.n_dict qb1 (qa (pv 1) qb)))
       (qe (zx PassesOwn.never rfl (qX (ZN uSl (pv 2) (jo (pv 3)) qaH)) (qr (i:=5) (sc_Llacks.nd) rfl (Or.inl rfl))
         (qf (qI (qh3 (pv 4) (pv 5) ⟨rfl,rfl,rfl,rfl⟩))))
       (qf (qO (qw (uNe hU) (qh G_B h_B rfl T.d_B.m T.d_B.k T.d_B.b .nil qq (qa (pv 0) (qa (pv 4) qb))) (qz (r:=rIx K) qp (pv 2) (pv 3) (fun _ _=>rfl)) (qC _))
         (qf (qt Jd))
         qy)))))
     (qf (qt (zA qk3 (qh G_B h_B rfl T.d_B.m T.d_B.k T.d_B.b .nil qq (qa (pv 0) (qa (pv 1) qb))) qi2 (qC _))))),?_⟩
   try dsimp only [zb,Cx.nox]
   have plm:∀ s∈plJ (bs.map Bk.pl),s∈ts.map (·.1):=fun s m=>by
     obtain⟨m1,m2⟩:=qgj m;obtain⟨b,mb,rfl⟩:=List.mem_map.mp m1;exact(has b mb).resolve_left m2
   have pnd:=qkU (bs.map Bk.pl);have psp:=qaI (bs.map Bk.pl);have pln:=qck (bs.map Bk.pl) (bs.map Bk.pl).length;rw[List.take_length,List.length_map]at pln;generalize plJ (bs.map Bk.pl)=ss at hpq plm pnd psp pln;have lss:(ss.map V.str).length=ss.length:=List.length_map _;refine qL (t:=qed _ _ _) (fun σ' H'=>∃ s3 s4 s5:Option V,σ'=[some (.ref x),some (.ref td),some (.ref pq),s3,s4,s5]∧Same H H') (fun N hN=>?_) ?_
   · refine⟨_,rfl,_,_,rfl,.inl ⟨_,SqL.of hpq,rfl⟩,_,rfl,?_,?_,Qo (lo:=0) (fun i σ H'=>∃ s3 s4 s5:Option V,σ=[some (.ref x),some (.ref td),some (.ref pq),s3,s4,s5]∧Same H H') ⟨none,none,none,rfl,Same.refl H⟩ ?_ ?_⟩
     · omega
     · rw[lss];omega
     · rintro k σ H1 hk ⟨s3,s4,s5,rfl,S1⟩;rw[lss,Int.toNat_natCast]at hk;have m0:(0:Int)+(k:Nat)=(k:Int):=by omega
       rw[m0];refine⟨_,rfl,td,_,rfl,.inl (S1 _ _ tq.ht),fun d fd=>?_⟩;generalize hG:upd H1 d _=H2;obtain⟨S2,ed⟩:=qF hG fd;clear hG;have S12:=S1.trans S2;have fdH:H d=none:=S1.none fd;(try unfold qK);(try dsimp only);refine qL (t:=qed _ _ _) (fun σ' H'=>∃ s5:Option V,σ'=[some (.ref x),some (.ref td),some (.ref pq),some (.int (k:Int)),some (.ref d),s5]∧Same H H'∧H' d=some (.dK (dkv (ts.filter fun t=>decide (t.1∉ss.drop k))))) (fun N2 hN2=>?_) ?_
       · refine⟨_,rfl,_,rfl,_,rfl,.inl ⟨pq,_,rfl,SqL.of (S12 _ _ hpq),fun sl fsl=>?_⟩⟩;rw[qix (Nat.le_of_lt hk)];generalize hG:upd H2 sl _=H3;obtain⟨S3,esl⟩:=qF hG fsl;clear hG;have nsd:sl≠d:=(qi ed fsl).symm;refine⟨sl,rfl,⟨_,SqL.of esl⟩,zy (K:=K) (a:=sl) (xs:=(ss.drop k).map V.str) (D:={ nx:=N2,rt:=Q }) (fun j σ H'=>∃ s5:Option V,σ=[some (.ref x),some (.ref td),some (.ref pq),some (.int (k:Int)),some (.ref d),s5]∧But d H3 H'∧H' d=some (.dK (dkv (ts.filter fun t=>decide (t.1∉(ss.drop k).take j))))) ⟨s5,rfl,But.refl _ _,?_⟩ (fun j σ H' _ ⟨_,_,B,_⟩=>SqL.of (B _ _ esl nsd)) ?_ ?_⟩
         · have:(ts.filter fun t=>decide (t.1∉(ss.drop k).take 0))=ts:=List.filter_eq_self.mpr fun t _=>by simp
           rw[this];exact S3 _ _ ed
         · rintro j z σ H4 hz ⟨s5',rfl,B4,hd4⟩;obtain⟨s,hs,rfl⟩:=zY hz;have ms:s∈ss:=List.mem_of_mem_drop (List.mem_of_getElem? hs);obtain⟨t,mt,et⟩:=List.mem_map.mp (plm s ms);have et':t.1=s:=et
           have sn:s∉(ss.drop k).take j:=fun z=>by
             have nd':(ss.drop k).Nodup:=List.Pairwise.sublist (List.drop_sublist _ _) pnd;obtain⟨i',hi',e'⟩:=List.mem_iff_getElem.mp z;rw[List.length_take]at hi';rw[List.getElem_take]at e';obtain⟨hj,ej⟩:=List.getElem?_eq_some_iff.mp hs
             have:=(List.getElem_inj nd').mp (e'.trans ej.symm)
             omega
           have mt':t∈ts.filter fun t=>decide (t.1∉(ss.drop k).take j):=List.mem_filter.mpr ⟨mt,by rw[et'];simpa using sn⟩;have nd2:((ts.filter fun t=>decide (t.1∉(ss.drop k).take j)).map (·.1)).Nodup:=List.Pairwise.sublist (List.Sublist.map _ List.filter_sublist) tq.nd;have hv:=qbv nd2 t mt';rw[et']at hv;refine⟨_,rfl,d,rfl,.inl ⟨_,.inl hd4⟩,_,rfl,_,.inr s,_,hd4,rfl,hv,?_⟩;refine⟨_,rfl,fun b o eb nb=>by rw[qj nb];exact B4 b o eb nb,?_⟩;rw[qc,qis,List.filter_filter];congr 4;funext t';rw[List.take_add_one,hs];simp only[Option.toList,List.mem_append,List.mem_singleton,not_or];rw[Bool.decide_and,Bool.and_comm]
         · rintro σ H4 ⟨s5',rfl,B4,hd4⟩;rw[List.length_map,List.take_length]at hd4;exact hN2 _ _ ⟨s5',rfl,fun b o eb=>B4 b o (S3 _ _ (S12 _ _ eb)) (qi eb fdH),hd4⟩
       rintro _ H4 ⟨s5',rfl,S4,hd4⟩;(try unfold qK);(try dsimp only);obtain⟨us,ws,e1,e2,e3,e4⟩:=psp k hk;obtain⟨us',bw,eb,eu,ebw⟩:=List.map_eq_append_iff.mp e1;obtain⟨b,ws',ebb,ebp,_⟩:=List.map_eq_cons_iff.mp ebw;subst ebb;have tq4:Tq a H4 d (ts.filter fun t=>decide (t.1∉ss.drop k)):=⟨hd4,fun t m=>(tq.tt t (List.mem_filter.mp m).1).sm S4,fun t m=>tq.tg t (List.mem_filter.mp m).1,List.Pairwise.sublist (List.Sublist.map _ List.filter_sublist) tq.nd⟩
       have hat:atI (ss.map V.str) (k:Int)=some (.str ss[k]):=zo (by rw[List.getElem?_map,List.getElem?_eq_getElem hk];rfl);refine⟨_,rfl,_,rfl,x,dx,l,d,sv,nm,bs,e,r,_,rfl,S4 _ _ hx,S4 _ _ hl,n8,fun b m=>⟨(enb b m).1.same S4,(enb b m).2⟩,S4 _ _ hsv,he,tq4,.inr ⟨us',b,ws',eb,fun u mu=>?_,by rw[ebp];exact e3,fun z=>?_,fun H5 S5=>?_⟩⟩
       · have hu:=has u (by rw[eb];exact List.mem_append_left _ mu);rcases e2 u.pl (by rw[← eu];exact List.mem_map_of_mem mu) with z|z
         · exact .inl z
         · refine .inr ?_;have mz:u.pl∈ss:=List.mem_of_mem_take z;obtain⟨t,mt,et⟩:=List.mem_map.mp (plm _ mz);have et':t.1=u.pl:=et;refine List.mem_map.mpr ⟨t,List.mem_filter.mpr ⟨mt,?_⟩,et⟩;rw[et',decide_eq_true_eq];intro zd;have q:(ss.take k++ss.drop k).Nodup:=by rw[List.take_append_drop];exact pnd
           exact(List.nodup_append.mp q).2.2 _ z _ zd rfl
       · rw[ebp]at z;obtain⟨t,mt,et⟩:=List.mem_map.mp z;have et':t.1=ss[k]:=et
         have:=(List.mem_filter.mp mt).2
         rw[et',decide_eq_true_eq]at this;exact this (by rw[List.drop_eq_getElem_cons hk];exact List.mem_cons_self)
       · refine⟨_,rfl,_,rfl,.inl ⟨pq,_,_,_,rfl,rfl,SqL.of ((S4.trans S5) _ _ hpq),hat,.inl ⟨rfl,_,rfl,?_⟩⟩⟩;rw[ebp];exact qS (J6 _) ⟨_,_,_,rfl,S4.trans S5⟩
     · rintro σ H1 ⟨s3,s4,s5,rfl,S1⟩;exact hN _ _ ⟨s3,s4,s5,rfl,S1⟩
   rintro _ H1 ⟨s3,s4,s5,rfl,S1⟩;refine⟨_,rfl,_,rfl,x,dx,l,td,sv,nm,bs,e,r,ts,rfl,S1 _ _ hx,S1 _ _ hl,n8,fun b m=>⟨(enb b m).1.same S1,(enb b m).2⟩,S1 _ _ hsv,he,tq.sm S1,.inl ⟨has,fun H2 S2=>⟨rfl,?_⟩⟩⟩;rw[decide_eq_true rfl];exact kk H2 (S1.trans S2)
end
def Kx (H H':Hp):Prop:=∀ b o,H b=some o->((∃ C d fs,o=.ins C d fs)∨∃ φ,o=.ext φ)->H' b=some o
theorem Kx.of {H H':Hp} (s:Same H H'):Kx H H':=fun b o e _=>s b o e
theorem Kx.up {H:Hp}{q:Addr}{ys:List V} (h:H q=some (.lst ys)) (o:HO):Kx H (upd H q o):=fun b u e k=>by
 rw[qj (fun z=>by rw[z,h]at e;cases e;rcases k with ⟨_,_,_,k⟩|⟨_,k⟩<;>cases k)];exact e
theorem Kx.tb {H H':Hp}{t:Addr}{ps:Array Value} (h:H t=some (.tbl ps)) (b:But t H H'):Kx H H':=fun c u e k=>b c u e fun z=>by rw[z,h]at e;cases e;rcases k with ⟨_,_,_,k⟩|⟨_,k⟩<;>cases k
theorem EnK.kx {a:Ad}{sv:Addr}{H H':Hp}{b:Bk} (h:EnK a sv H b) (k:Kx H H'):EnK a sv H' b:=by
 cases h with
 | one h=>exact .one (h.mp fun _ _ _ e _=>k _ _ e (.inl ⟨_,_,_,rfl⟩))
 | sift h1 h2 h3 h4=>exact .sift (k _ _ h1 (.inl ⟨_,_,_,rfl⟩)) (h2.mp fun _ _ _ e _=>k _ _ e (.inl ⟨_,_,_,rfl⟩)) (Clo.mp h3 fun _ _ e=>k _ _ e (.inr ⟨_,rfl⟩)) h4
theorem TbD.up {a:Ad}{H:Hp}{q:Addr}{ys:List V} (h:TbD a H) (hq:H q=some (.lst ys)) (o:HO):TbD a (upd H q o):=by
 obtain⟨ps,h1,h2,h3⟩:=h;refine⟨ps,?_,h2,h3.imp id fun⟨c,e1,e2⟩=>⟨c,e1,?_⟩⟩
 · rw[qj (fun z=>by rw[z,hq]at h1;cases h1)];exact h1
 · rw[qj (fun z=>by rw[z,hq]at e2;cases e2)];exact e2
def Mds (a:Ad) (sv:Addr) (H:Hp) (bs:List Bk) (ds:List Sd) (e:Int):Prop:=∀ (j:Nat) (b:Bk) (d:Sd),bs[j]?=some b->ds[j]?=some d->EnK a sv H b∧Pr b d∧b.sf=isS d.wd d.lo d.hi e
theorem Mds.kx {a:Ad}{sv:Addr}{H H':Hp}{bs:List Bk}{ds:List Sd}{e:Int} (h:Mds a sv H bs ds e) (k:Kx H H'):Mds a sv H' bs ds e:=fun j b d e1 e2=>let ⟨x,y⟩:=h j b d e1 e2;⟨x.kx k,y⟩
theorem Mds.snoc {a:Ad}{sv:Addr}{H:Hp}{bs:List Bk}{ds:List Sd}{e:Int} (h:Mds a sv H bs ds e) {b:Bk}{d:Sd} (hd:ds[bs.length]?=some d) (en:EnK a sv H b) (pr:Pr b d) (sf:b.sf=isS d.wd d.lo d.hi e):Mds a sv H (bs++[b]) ds e:=fun j b' d' e1 e2=>by
 by_cases lt:j < bs.length
 · rw[List.getElem?_append_left lt]at e1;exact h j b' d' e1 e2
 · have jl:=(List.getElem?_eq_some_iff.mp e1).1;rw[List.length_append]at jl
   have:j=bs.length:=by simp at jl;omega
   subst this;rw[List.getElem?_append_right (Nat.le_refl _),Nat.sub_self]at e1;cases e1;rw[hd]at e2;cases e2;exact⟨en,pr,sf⟩
theorem qlo {a:Ad}{sv:Addr}{H:Hp}{b:Bk} (h:EnK a sv H b):Pt a H b.x:=by
 cases h with
 | one h=>exact .en h
 | sift h1 _ _ _=>exact .sf ⟨_,_,_,h1⟩
theorem qk8:zc (.str "z")=true:=by decide +kernel
theorem Rs.kn {H H':Hp}{q:Addr}{rows:List (Int×Int)} (h:Rs H q rows) (k:∀ b o,H b=some o->(∀ p,o≠.tbl p)->H' b=some o):Rs H' q rows:=by
 obtain⟨zs,h1,h2⟩:=h;exact⟨zs,k _ _ h1 (by intro p z;cases z),h2.1,fun j z y e1 e2=>let ⟨t,e,ht⟩:=h2.2 j z y e1 e2;⟨t,e,k _ _ ht (by intro p z;cases z)⟩⟩
theorem Td.kn {H H':Hp}{d:Addr}{ps:Pls} (h:Td H d ps) (k:∀ b o,H b=some o->(∀ p,o≠.tbl p)->H' b=some o):Td H' d ps :=
 ⟨h.1.imp (fun z=>k _ _ z (by intro p z;cases z)) (fun⟨o,z⟩=>⟨o,k _ _ z (by intro p z;cases z)⟩),⟨fun x m=>(h.2.rs x m).kn k,h.2.good,h.2.nm,h.2.nd,h.2.ne,h.2.few⟩⟩
abbrev prT (x:Str×Addr×List (Int×Int)):List V:=[.str x.1,.ref x.2.1]
structure Tt (a:Ad) (H:Hp) (ps qs:Pls):Prop where
 tb:∀ x∈qs,Tb a H x.2.1 x.2.2
 nm:qs.map (fun x=>(x.1,x.2.2))=ps.map (fun x=>(x.1,x.2.2))
 good:∀ x∈qs,Good x.2.2
theorem qkT {H:Hp}{C:Addr}{cs ws:List V}{qs:Pls}{rows:List (Int×Int)} (h1:H C=some (.lst cs)) (t1:TupL prT H cs qs) (g:0 < rows.length) (t2:TupL pr H ws rows):H C≠some (.lst ws):=fun e=>by
 rw[h1]at e;cases e
 cases rows with
 | nil=>cases g
 | cons r rs =>
   obtain⟨t,hz,ht⟩:=t2.at_ (i:=0) (p:=r) rfl;obtain⟨q,u,hq,eu,hu⟩:=t1.of hz;cases eu;rw[ht]at hu;cases hu
theorem Tt.sm {a:Ad}{H H':Hp}{ps qs:Pls} (h:Tt a H ps qs) (s:Same H H'):Tt a H' ps qs:=⟨fun x m=>Tb.sm (h.tb x m) s,h.nm,h.good⟩
theorem Tt.keys {a:Ad}{H:Hp}{ps qs:Pls} (h:Tt a H ps qs):qs.map (·.1)=ps.map (·.1):=by
 have:=congrArg (List.map Prod.fst) h.nm
 rw[List.map_map,List.map_map]at this;exact this
theorem Tb.put {a:Ad}{H:Hp}{x c:Addr}{rows:List (Int×Int)}{o:HO} (h:Tb a H x rows) (n:∀ k dx,H c≠some (.ins a.c_Table dx (qkn k))) (n2:∀ zs,TupL pr H zs rows->H c≠some (.lst zs)) (n3:∀ t,H c≠some (.tup t)):Tb a (upd H c o) x rows:=by
 obtain⟨k,dx,zs,h1,h2,h3⟩:=h;have e1:x≠c:=fun e=>n k dx (e▸h1);have e2:k≠c:=fun e=>n2 zs h3 (e▸h2);refine⟨k,dx,zs,by rw[qj e1];exact h1,by rw[qj e2];exact h2,h3.1,fun j z y e1 e2=>?_⟩;obtain⟨t,e,ht⟩:=h3.2 j z y e1 e2;exact⟨t,e,by rw[qj (fun e'=>n3 _ (e'▸ht))];exact ht⟩
theorem qi1 {K:Frag}{H:Hp}:∀ {zs:List V}{qs:Pls},TupL prT H zs qs->Prs K H zs (dkv qs)
 | [],[],_=>.nil
 | z::zs,q::qs,h=>by
   obtain⟨t,e,ht⟩:=h.2 0 z q rfl rfl;subst e;exact .cons (SqT.of ht) (qi1 ⟨by simpa using h.1,fun i z p e1 e2=>h.2 (i+1) z p (by simpa using e1) (by simpa using e2)⟩)
 | [],_::_,h=>by simp[TupL]at h
 | _::_,[],h=>by simp[TupL]at h
def skv (ps:Pls):List (Str×V):=ps.map fun x=>(x.1,V.ref x.2.1)
theorem qkc (ps:Pls):dkv ps=(skv ps).map fun p=>((.inr p.1:Key),p.2):=by
 unfold dkv skv;rw[List.map_map];rfl
theorem qhO (ps:Pls):(skv ps).map (·.1)=ps.map (·.1):=by
 unfold skv;rw[List.map_map];rfl
theorem qlq {ps:Pls} (h:(ps.map (·.1)).Nodup):((dkv ps).map (·.1)).Nodup:=by
 rw[qkc,List.map_map];rw[← qhO]at h;generalize skv ps=l at h
 induction l with
 | nil=>exact List.nodup_nil
 | cons a r ih =>
   rw[List.map_cons,List.nodup_cons]at h ⊢;refine⟨fun m=>?_,ih h.2⟩;obtain⟨b,mb,e⟩:=List.mem_map.mp m;injection e with e;exact h.1 (e▸List.mem_map_of_mem mb)
theorem qlp {ps:Pls}{wd nm pl:Str}{lo hi:Int} (sp:Spc wd nm pl lo hi) (h:pl=""∨pl∈ps.map (·.1)):∃ W,Due ps wd pl lo hi W:=by
 have go:∀ pl:Str,zc (.str pl)=true->(pl=""∨pl∈ps.map (·.1))->∃ x∈ps,x.1=pl:=fun pl ok h=>by
   obtain⟨t,mt,et⟩:=List.mem_map.mp (h.resolve_left (QD ok));exact⟨t,mt,et⟩
 cases sp with
 | any _=>exact⟨_,.no (.inl rfl)⟩
 | within _ _ _=>exact⟨_,.no (.inr (.inl rfl))⟩
 | at_ _ _=>exact⟨_,.no (.inr (.inr rfl))⟩
 | between _ ok _ _=>obtain⟨x,mx,ex⟩:=go _ ok h;exact⟨_,.pl (.inl rfl) mx ex⟩
 | read _ ok _=>obtain⟨x,mx,ex⟩:=go _ ok h;exact⟨_,.pl (.inr rfl) mx ex⟩
theorem qi6 {ps qs:Pls} (h:qs.map (fun x=>(x.1,x.2.2))=ps.map (fun x=>(x.1,x.2.2))) {wd pl:Str}{lo hi n:Int} (m:ME qs wd pl lo hi n):ME ps wd pl lo hi n:=by
 obtain⟨W,d,mw⟩:=m
 cases d with
 | @pl x hw mx ex =>
   have:(x.1,x.2.2)∈ps.map (fun x=>(x.1,x.2.2)):=by rw[← h];exact List.mem_map_of_mem mx
   obtain⟨y,my,ey⟩:=List.mem_map.mp this;obtain⟨e1,e2⟩:=Prod.mk.inj ey;exact⟨_,.pl hw my (e1.trans ex),by rw[e2];exact mw⟩
 | no hw=>exact⟨_,.no hw,mw⟩
theorem qkH {wd nm pl:Str}{lo hi:Int} (h:Spc wd nm pl lo hi):pl=""∨zc (.str pl)=true:=by
 cases h with
 | any _=>exact .inl rfl
 | within _ _ _=>exact .inl rfl
 | at_ _ _=>exact .inl rfl
 | between _ h _ _=>exact .inr h
 | read _ h _=>exact .inr h
def MD (ps:Pls) (e r:Int) (d:Sd) (n:Int):Prop:=ME ps d.wd d.pl d.lo d.hi n∧(isS d.wd d.lo d.hi e=true->n % e=r)
theorem qlb {bs:List Bk}{ds:List Sd} (l:bs.length=ds.length) (h:∀ (j:Nat) (b:Bk) (d:Sd),bs[j]?=some b->ds[j]?=some d->Pr b d):bs.map Bk.pl=ds.map Sd.pl:=by
 refine List.ext_getElem (by rw[List.length_map,List.length_map,l]) fun j h1 h2=>?_;rw[List.getElem_map,List.getElem_map];rw[List.length_map]at h1 h2;exact(h j _ _ (List.getElem?_eq_getElem h1) (List.getElem?_eq_getElem h2)).pl
theorem ql5 {ps qs:Pls} (hq:qs.map (fun x=>(x.1,x.2.2))=ps.map (fun x=>(x.1,x.2.2))) {bs:List Bk}{ds:List Sd}{e r n:Int} (l:bs.length=ds.length) (h:∀ (j:Nat) (b:Bk) (d:Sd),bs[j]?=some b->ds[j]?=some d->Pr b d∧b.sf=isS d.wd d.lo d.hi e):(∀ b∈bs,MB qs e r b n)↔∀ d∈ds,MD ps e r d n:=by
 constructor
 · intro k d md;obtain⟨j,hj,rfl⟩:=List.mem_iff_getElem.mp md;obtain⟨pr,sf⟩:=h j bs[j] ds[j] (List.getElem?_eq_getElem (by omega)) (List.getElem?_eq_getElem hj);obtain⟨k1,k2⟩:=k bs[j] (List.getElem_mem (by omega));rw[pr.wd,pr.pl,pr.lo,pr.hi]at k1;exact⟨qi6 hq k1,fun z=>k2 (sf.trans z)⟩
 · intro k b mb;obtain⟨j,hj,rfl⟩:=List.mem_iff_getElem.mp mb;obtain⟨pr,sf⟩:=h j bs[j] ds[j] (List.getElem?_eq_getElem hj) (List.getElem?_eq_getElem (by omega));obtain⟨k1,k2⟩:=k ds[j] (List.getElem_mem (by omega));refine⟨?_,fun z=>k2 (sf.symm.trans z)⟩;rw[pr.wd,pr.pl,pr.lo,pr.hi];exact qi6 hq.symm k1
inductive qan (a:Ad) (vs:List V) (H:Hp) (Q:VK):Prop
 | mk (ql tb sv:Addr) (nm:Str) (ds:List Sd) (e r:Int) (ps:Pls) (ob:Obj) (h1:vs=[.str nm,.ref ql,.ref tb,.ref sv]) (h2:zc (.str nm)=true) (h3:H ql=some (.lst (rfs (ds.map Sd.s)))) (h4:0 < ds.length) (h5:ds.length≤8) (h6:(∀ d∈ds,SdOk H d∧(d.pl=""∨d.pl∈ps.map (·.1)))) (h7:H tb=some (.frz ob (.dK (dkv ps)))) (h8:Td H tb ps) (h9:H sv=some (.lst [.int e,.int r])) (h10:TbD a H) (h11:∀ H',But a.t_Lpart H H'->TbD a H'->Q (.bl true) H'):qan a vs H Q
def qcN (a:Ad):Sp:=fun vs H Q _=>qan a vs H Q
section
variable {P:Program}{w:World}{K:Frag}{mg:Str->Option Value}{base:Heap}
theorem qgu {a:Ad} (T:Txt K mg a) (hB:qhD mg base):qD P w K mg base CX0 11 a.f_aa a.fd_aa ["_law_name","_law_specs","_law_tables","_law_sieve"] (qcN a):=by
 have G_ad:=qcr (P:=P) (w:=w) (base:=base) T;have G_8:=qfj (P:=P) (w:=w) (base:=base) T;have G_I:qD P w K mg base CX0 10 a.f_I a.fd_I ["_law_spec_here","_law_sieve"] (qej a):=qh9 T hB;have G_v:=qbS (P:=P) (w:=w) (base:=base) T;have G_4:=qfk (P:=P) (w:=w) (base:=base) T;have G_u:=ji (P:=P) (w:=w) (base:=base) T;have G_ag:=qaO (P:=P) (w:=w) (base:=base) T;have G_7:=qaN (P:=P) (w:=w) (base:=base) T;have G_9:=qgw (P:=P) (w:=w) (base:=base) T;have G_5:=qbl (P:=P) (w:=w) (base:=base) T;have G_ak:=qcp (P:=P) (w:=w) (base:=base) T;have G_Y:=qh7 (P:=P) (w:=w) (base:=base) T;refine T.d_aa.F.ok sc_Lright (fun vs H Q E h=>?_) (fun cdv A outer s H vs Q E hr h=>?_)
 · obtain⟨ql,tb,sv,nm,ds,e,r,ps,ob,rfl,okn,hql,n0,n8,ok,hfz,td,hsv,tD,kk⟩:=h;rfl
 · obtain⟨ql,tb,sv,nm,ds,e,r,ps,ob,rfl,okn,hql,n0,n8,ok,hfz,td,hsv,tD,kk⟩:=h;have hu:=qH hr;have hU:=hr.units;have h_ad:Room (5+1) _:=hr.mono (by decide);have h_8:Room (1) _:=hr.mono (by decide);have h_I:Room (10) _:=hr.mono (by decide);have h_v:Room (7+1) _:=hr.mono (by decide);have h_4:Room (1) _:=hr.mono (by decide);have h_u:Room (8) _:=hr.mono (by decide);have h_ag:Room (3) _:=hr.mono (by decide);have h_7:Room (3) _:=hr.mono (by decide);have h_9:Room (10) _:=hr.mono (by decide);have h_5:Room (4) _:=hr.mono (by decide);have h_ak:Room (6+1) _:=hr.mono (by decide);have h_Y:Room (1) _:=hr.mono (by decide)
   refine⟨_,(qe (qgh (i:=4) sc_Lright.nd rfl (Or.inl rfl) rfl (CompOk.def ["_law_spec_here","_law_sieve"] [none,some 3]) (qX (pv 1)) (fun _ _ _ _ _=>(qr (i:=0) (show List.Nodup (["_law_spec_here","_law_sieve"]:List Str) by decide +kernel) rfl (Or.inl rfl))) (fun _ _ _ _ _=>Qb) (fun _ _ _ _ _=>(qh G_I h_I rfl T.d_I.m T.d_I.k T.d_I.b .nil qq (qa (pv 0) (qa (pv 1) qb)))))
     (qe (qx (i:=5) sc_Lright.nd rfl (Or.inl rfl) (QY T.M_Joint G_ad h_ad rfl T.g_Joint T.d_ad.b .nil qq (qa (pv 0) (qa (pv 4) qb))))
     (qe (qI (ZG PySem.F.plainAttrs_list PySem.F.slot_list_append PySem.F.type_list_append qY (pv 4) (qa (QY T.M_At G_v h_v rfl T.g_At T.d_v.b .nil qq (qa qE (qa qd qb))) qb)))
     (qe (qx (i:=6) sc_Lright.nd rfl (Or.inl rfl) (zB (r:=qiX K) (qfu rfl) (by rfl) T.n_dict qb1 (qa (zJ rfl (CompOk.def ["_law_place","_law_tables"] [none,some 2]) (qjT (pv 2)) (fun _ _ _ _ _=>(qr (i:=0) (show List.Nodup (["_law_place","_law_tables"]:List Str) by decide +kernel) rfl (Or.inl rfl))) (fun _ _ _ _ _=>Qb) (fun _ _ _ _ _=>(qV (qa (pv 0) (qa (QY T.M_Table G_ak h_ak rfl T.g_Table T.d_ak.b .nil qq (qa (zB (r:=qlC K) Qy (by rfl) T.n_list zj (qa (Jc hu (pv 1) (pv 0) (fun _ _=>rfl)) qb)) qb)) qb))))) qb)))
     (qe (qx (i:=7) sc_Lright.nd rfl (Or.inl rfl) (qJ (qa (qV (qa qd (qa (qA zH qd qd) qb))) qb)))
     (qe (zx PassesOwn.never rfl (qX (pv 1)) (qr (i:=8) (sc_Lright.nd) rfl (Or.inl rfl))
       (qf (qx (i:=7) sc_Lright.nd rfl (Or.inl rfl) (qh G_4 h_4 rfl T.d_4.m T.d_4.k T.d_4.b .nil qq (qa (pv 7) (qa (qh G_5 h_5 rfl T.d_5.m T.d_5.k T.d_5.b .nil qq (qa (pv 8) (qa (pv 2) (qa (pv 3) qb)))) qb))))))
     (qe (qx (i:=9) sc_Lright.nd rfl (Or.inl rfl) (qh G_8 h_8 rfl T.d_8.m T.d_8.k T.d_8.b .nil qq (qa (pv 1) qb)))
     (qe (zx PassesOwn.never rfl (zZ rfl T.n_range (qa qd qb)) (qr (i:=10) (sc_Lright.nd) rfl (Or.inl rfl))
       (qe (qx (i:=11) sc_Lright.nd rfl (Or.inl rfl) (zV (pv 5) T.cl_Joint T.d_u.mt G_u h_u T.d_u.b .nil qmk (qa (pv 6) qb)))
       (qe (qx (i:=12) sc_Lright.nd rfl (Or.inl rfl) (qG (pv 5) T.cl_Joint T.d_ag.mt G_ag h_ag T.d_ag.b .nil qq))
       (qe (qO (PW.pt (jn (zu (za (qh G_Y h_Y rfl T.d_Y.m T.d_Y.k T.d_Y.b .nil qq (qa (pv 11) (qa (pv 7) qb))))) (jn (qw (uNe hU) (pv 12) (pv 9) (qC _)) (Zg (qw (uNe hU) (zl (pv 5) rfl) (pv 0) (qC _))))))
         (qf (qt Jd))
         qy)
       (qe (qI (ZG PySem.F.plainAttrs_list PySem.F.slot_list_append PySem.F.type_list_append qY (pv 11) (qa (qV (qa qd (qa qd qb))) qb)))
       (qf (qI (ZG PySem.F.plainAttrs_list PySem.F.slot_list_append PySem.F.type_list_append qY (pv 12) (qa qE qb)))))))))
     (qf (qt (jg (qh G_7 h_7 rfl T.d_7.m T.d_7.k T.d_7.b .nil qq (qa (pv 5) (qa (pv 1) (qa (pv 3) qb)))) (je (qh G_9 h_9 rfl T.d_9.m T.d_9.k T.d_9.b .nil qq (qa (pv 5) (qa (pv 6) (qa (pv 9) qb)))))))))))))))),?_⟩
   try dsimp only [zb,Cx.nox]
   obtain⟨pt,hpt⟩:=tD.at_;have nT:∀ b o,H b=some o->(∀ p,o≠.tbl p)->b≠a.t_Lpart:=fun b o e n z=>by rw[z,hpt]at e;cases e;exact n _ rfl
   have ld:(rfs (ds.map Sd.s)).length=ds.length:=by rw[List.length_map,List.length_map]
   refine⟨_,rfl,ql,rfl,⟨_,SqL.of hql⟩,fun D fD=>?_⟩;have nD:D≠a.t_Lpart:=fun z=>by rw[z,hpt]at fD;cases fD
   refine zM (K:=K) (a:=ql) (xs:=rfs (ds.map Sd.s)) (D:=D) (fun i σ H2=>∃ (c0:Option V) (bs:List Bk),σ=[c0,some (.ref sv)]∧But a.t_Lpart H H2∧TbD a H2∧H2 D=some (.lst (rfs (bs.map Bk.x)))∧bs.length=i∧Mds a sv H2 bs ds e) ⟨none,[],rfl,Same.but _ (Same.new _ fD),tD.same (Same.new _ fD),qc,rfl,fun _ _ _ z=>nomatch z⟩ (fun i σ H2 _ ⟨_,_,_,B,_⟩=>SqL.of (B _ _ hql (nT _ _ hql (by intro p z;cases z)))) ?_ ?_
   · rintro i z σ H2 hz ⟨c0,bs,rfl,B2,t2,hD,lb,md⟩;obtain⟨y,hy,rfl⟩:=zY hz;rw[List.getElem?_map]at hy;obtain⟨d,hd,rfl⟩:=Option.map_eq_some_iff.mp hy;obtain⟨⟨hs,sp⟩,_⟩:=ok d (List.mem_of_getElem? hd);have il:i < ds.length:=(List.getElem?_eq_some_iff.mp hd).1;obtain⟨p2,hp2⟩:=t2.at_;refine⟨_,rfl,_,rfl,d.s,sv,d.wd,d.nm,d.pl,d.lo,d.hi,e,r,rfl,B2 _ _ hs (nT _ _ hs (by intro p z;cases z)),sp,B2 _ _ hsv (nT _ _ hsv (by intro p z;cases z)),t2,fun b H3 B3 t3 en hsf h1 h2 h3 h4 h5=>?_⟩;have hD3:H3 D=some (.lst (rfs (bs.map Bk.x))):=B3 _ _ hD nD;refine⟨_,hD3,qB (by rw[List.length_map,List.length_map];omega),_,bs++[b],rfl,fun c o ec nc=>?_,t3.up hD3 _,?_,by rw[List.length_append,lb];rfl,?_⟩
     · rw[qj (qi ec fD)];exact B3 _ _ (B2 _ _ ec nc) nc
     · rw[qc];show _=some (HO.lst (List.map V.ref (List.map Bk.x (bs++[b]))));rw[List.map_append,List.map_append];rfl
     · exact((md.kx (Kx.tb hp2 B3)).kx (Kx.up hD3 _)).snoc (by rw[lb];exact hd) (en.kx (Kx.up hD3 _)) ⟨h1,h2,h3,h4,h5⟩ hsf
   rintro σ H2 ⟨c0,bs,rfl,B2,t2,hD,lb,md⟩;rw[ld]at lb;(try unfold qK);(try dsimp only)
   have enb:∀ b∈bs,EnK a sv H2 b∧SpB b:=fun b m=>by
     obtain⟨j,hj,rfl⟩:=List.mem_iff_getElem.mp m;have hjd:j < ds.length:=by omega
     obtain⟨en,pr,_⟩:=md j bs[j] ds[j] (List.getElem?_eq_getElem hj) (List.getElem?_eq_getElem hjd);refine⟨en,?_⟩;unfold SpB;rw[pr.wd,pr.nm,pr.pl,pr.lo,pr.hi];exact(ok _ (List.getElem_mem hjd)).1.2
   refine⟨_,rfl,_,rfl,fun x dx f1 f2 ne=>⟨x,dx,D,nm,bs.map Bk.x,rfl,qc,okn,up2 f1 f2 _ _ hD,by rw[List.length_map];omega,by rw[List.length_map];omega,fun z mz=>?_,fun l H3 fl B3 hx hl=>⟨rfl,?_⟩⟩⟩
   · obtain⟨b,mb,rfl⟩:=List.mem_map.mp mz;exact qlo ((enb b mb).1.same (up2 f1 f2))
   have S3:=zL f1 f2 B3;have nlD:l≠D:=(qi hD ((up2 f1 f2).none fl)).symm;(try unfold qK);(try dsimp only);refine⟨_,rfl,.inl ⟨rfl,_,SqL.of (S3 _ _ hD)⟩,fun y dy g1 g2 ne=>⟨y,dy,"z",0,rfl,qc,qk8,⟨by decide,by decide⟩,fun H4 B4 h4=>⟨rfl,?_⟩⟩⟩;have S4:=zL g1 g2 B4;have hD4:=(S3.trans S4) _ _ hD;refine⟨D,_,_,rfl,rfl,hD4,qB (by rw[List.length_map,List.length_map];omega),?_⟩;have k5:∀ b o,H4 b=some o->b≠D->(upd H4 D (.lst (rfs (bs.map Bk.x)++[.ref y]))) b=some o:=fun b o e n=>by rw[qj n];exact e
   have x5:Kx H4 (upd H4 D (.lst (rfs (bs.map Bk.x)++[.ref y]))):=Kx.up hD4 _;have t5:TbD a (upd H4 D (.lst (rfs (bs.map Bk.x)++[.ref y]))):=((t2.same S3).same S4).up hD4 _;generalize upd H4 D (.lst (rfs (bs.map Bk.x)++[.ref y]))=H5 at k5 x5 t5 ⊢;have S24:=S3.trans S4;have kH:∀ b o,H b=some o->(∀ p,o≠.tbl p)->H5 b=some o:=fun b o e n=>k5 _ _ (S24 _ _ (B2 _ _ e (nT _ _ e n))) (qi e fD);have bH:But a.t_Lpart H H5:=fun b o e n=>k5 _ _ (S24 _ _ (B2 _ _ e n)) (qi e fD);have hx5:=k5 _ _ (S4 _ _ hx) (fun z=>by rw[z]at hx;rw[S3 _ _ hD]at hx;cases hx);have hl5:=k5 _ _ (S4 _ _ hl) nlD;have md5:=(md.kx (Kx.of S24)).kx x5;have enb5:∀ b∈bs,EnK a sv H5 b∧SpB b:=fun b m=>⟨((enb b m).1.same S24).kx x5,(enb b m).2⟩
   have hql5:=kH _ _ hql (by intro p z;cases z);have hsv5:=kH _ _ hsv (by intro p z;cases z);have hfz5:=kH _ _ hfz (by intro p z;cases z);have td5:=td.kn kH;have ok5:∀ d∈ds,SdOk H5 d:=fun d m=>⟨kH _ _ (ok d m).1.1 (by intro p z;cases z),(ok d m).1.2⟩
   have kk5:∀ H',Same H5 H'->Q (.bl true) H':=fun H' s=>kk H' (bH.same s) (t5.same s);clear md enb hx hl h4 hD hD4 k5 x5 S24 S3 S4 B3 B4 kH f1 f2 g1 g2 fl;(try unfold qK);(try dsimp only);refine⟨_,rfl,tb,ob,_,rfl,hfz5,fun C fC=>?_⟩;refine qhc (a:=tb) (ob:=ob) (kvs:=dkv ps) (D:=C) (fun i σ H2=>∃ (c0:Option V) (cs:List V) (qs:Pls),σ=[c0,some (.ref tb)]∧Same H5 H2∧H2 C=some (.lst cs)∧TupL prT H2 cs qs∧Tt a H2 (ps.take i) qs∧qs.length=(ps.take i).length) ⟨none,[],[],rfl,Same.new _ fC,qc,.nil,⟨(fun x m=>nomatch m),rfl,(fun x m=>nomatch m)⟩,rfl⟩ (fun i σ H2 _ ⟨_,_,_,_,S,_⟩=>S _ _ hfz5) ?_ ?_
   · rintro i k y σ H2 hk ⟨c0,cs,qs,rfl,S,hC,tc,tt,lq⟩
     obtain⟨p0,hp0,ek⟩:∃ p0,ps[i]?=some p0∧((.inr p0.1:Key),V.ref p0.2.1)=(k,y):=by
       unfold dkv at hk;rw[List.getElem?_map]at hk;exact Option.map_eq_some_iff.mp hk
     cases ek;have m0:=List.mem_of_getElem? hp0;have td2:=td5.sm S;obtain⟨zs,hq,tz⟩:=td2.2.rs p0 m0;have good:=td.2.good p0 m0;have few:=td.2.few;have hi:i < ps.length:=(List.getElem?_eq_some_iff.mp hp0).1;have et:ps.take (i+1)=ps.take i++[p0]:=by rw[List.take_add_one,hp0];rfl
     refine⟨_,rfl,_,rfl,_,rfl,tb,_,rfl,td2.get m0,p0.2.1,zs,rfl,.inl (SqL.of hq),fun l fl t dt f1 f2 ne=>?_⟩;have Sl:=Same.new (.lst zs) fl;have Sm:=zL (C:=a.c_Table) f1 f2 (But.refl _ _);refine⟨t,dt,l,p0.2.2,rfl,qc,Rs.same ⟨zs,qc,tz.same Sl⟩ Sm,good,fun G B tbl=>⟨rfl,qk (Nat.le_of_ble_eq_true rfl),fun u fu=>?_⟩⟩;have SG:=Sl.trans (zL f1 f2 B);generalize hG:upd G u _=Gu;obtain⟨Su,eu0⟩:=qF hG fu;have eu:Gu u=some (.tup (prT (p0.1,t,p0.2.2))):=eu0;clear hG eu0;have hCu:=Su _ _ (SG _ _ hC)
     have lc:cs.length≤4:=by
       rw[tc.1,lq,List.length_take];omega
     refine⟨_,hCu,qB (by omega),_,cs++[.ref u],qs++[(p0.1,t,p0.2.2)],rfl,((S.trans SG).trans Su).put fC _,qc,(((TupL.same tc SG).same Su).snoc (p:=(p0.1,t,p0.2.2)) eu).put hCu,?_,?_⟩
     · have gz:∀ z∈qs++[(p0.1,t,p0.2.2)],Good z.2.2:=fun z m=>by
         rcases List.mem_append.mp m with m|m
         · exact tt.good z m
         · rw[List.mem_singleton.mp m];exact good
       refine⟨fun z m=>?_,?_,gz⟩
       · have tz0:Tb a Gu z.2.1 z.2.2:=by
           rcases List.mem_append.mp m with m|m
           · exact Tb.sm (Tb.sm (tt.tb z m) SG) Su
           · rw[List.mem_singleton.mp m];exact Tb.sm tbl Su
         exact Tb.put tz0 (fun k dx e=>by rw[hCu]at e;cases e) (fun ws tw=>qkT hCu ((TupL.same tc SG).same Su) (ZP (gz z m)) tw) (fun ws e=>by rw[hCu]at e;cases e)
       · rw[et,List.map_append,List.map_append,tt.nm];rfl
     · rw[et,List.length_append,List.length_append,lq];rfl
   rintro σ H2 ⟨c0,cs,qs,rfl,S,hC,tc,tt,lq⟩;rw[show (dkv ps).length=ps.length by unfold dkv;rw[List.length_map],List.take_length]at tt lq;have ndq:(qs.map (·.1)).Nodup:=by rw[tt.keys];exact td.2.nd
   refine⟨C,cs,dkv qs,rfl,SqL.of hC,qi1 tc,qlq ndq,fun d fd=>?_⟩;have fdH:H5 d=none:=S.none fd;generalize hG:upd H2 d _=G3;obtain⟨Sdd,ed⟩:=qF hG fd;clear hG;have tt3:=tt.sm Sdd;have tq3:Tq a G3 d qs:=⟨ed,tt3.tb,tt3.good,ndq⟩
   have S53:=S.trans Sdd;clear tc hC;(try unfold qK);(try dsimp only);have e9:(10:Int) ^ (9:Int).toNat=1000000000:=by decide
   refine⟨_,_,rfl,rfl,⟨by decide,by decide,by decide⟩,qk (Nat.le_of_ble_eq_true rfl),fun t0 g0=>⟨qk (Nat.le_of_ble_eq_true rfl),fun q0 fq0=>?_⟩⟩;rw[e9]at fq0 ⊢;have Sa:=Same.new (.tup [.int 0,.int 1000000000]) g0;have Sb:=Same.new (.lst [.ref t0]) fq0;have R0:Rs (upd (upd G3 t0 (.tup [.int 0,.int 1000000000])) q0 (.lst [.ref t0])) q0 [(0,1000000000)]:=qdc (w:=(0,1000000000)) (Sb _ _ qc) qc;have S6:=S53.trans (Sa.trans Sb);have tq6:=(tq3.sm Sa).sm Sb;generalize upd (upd G3 t0 (.tup [.int 0,.int 1000000000])) q0 (.lst [.ref t0])=G6 at R0 S6 tq6 ⊢;have nmq:=tt.nm;have kys:=tt.keys;clear Sa Sb tq3 tt3 tt ed;(try unfold qK);(try dsimp only);refine qL (t:=qed _ _ _) (fun σ' H'=>∃ (s8:Option V) (q:Addr) (rr:List (Int×Int)),σ'=[some (.str nm),some (.ref ql),some (.ref tb),some (.ref sv),some (.ref D),some (.ref x),some (.ref d),some (.ref q),s8,none,none,none,none]∧Same G6 H'∧Rs H' q rr∧qR rr∧rr.length≤8001∧∀ n,Mem rr n↔(0≤n∧n≤1000000000)∧∀ z∈ds,MD ps e r z n) (fun N hN=>?_) ?_
   · refine⟨_,rfl,ql,rfl,⟨_,SqL.of (S6 _ _ hql5)⟩,zy (K:=K) (a:=ql) (xs:=rfs (ds.map Sd.s)) (D:={ nx:=N,rt:=Q }) (fun j σ H'=>∃ (s8:Option V) (q:Addr) (rr:List (Int×Int)),σ=[some (.str nm),some (.ref ql),some (.ref tb),some (.ref sv),some (.ref D),some (.ref x),some (.ref d),some (.ref q),s8,none,none,none,none]∧Same G6 H'∧Rs H' q rr∧qR rr∧rr.length≤1+1000 * j∧∀ n,Mem rr n↔(0≤n∧n≤1000000000)∧∀ z∈ds.take j,MD ps e r z n) ⟨none,q0,_,rfl,Same.refl _,R0,⟨fun w m=>by rw[List.mem_singleton.mp m];decide,List.pairwise_singleton _ _⟩,Nat.le_of_ble_eq_true rfl,fun n=>?_⟩ (fun j σ H' _ ⟨_,_,_,_,S',_⟩=>SqL.of (S' _ _ (S6 _ _ hql5))) ?_ ?_⟩
     · constructor
       · rintro⟨w,mw,h1,h2⟩;rw[List.mem_singleton.mp mw]at h1 h2;exact⟨⟨h1,h2⟩,fun z mz=>nomatch mz⟩
       · rintro⟨h,_⟩;exact⟨_,List.mem_singleton.mpr rfl,h.1,h.2⟩
     · rintro j z σ H6 hz ⟨s8,q,rr,rfl,S7,R7,can,lr,mem⟩;obtain⟨y',hy,rfl⟩:=zY hz;rw[List.getElem?_map]at hy;obtain⟨c,hc,rfl⟩:=Option.map_eq_some_iff.mp hy;have mc:=List.mem_of_getElem? hc;have jl:j < ds.length:=(List.getElem?_eq_some_iff.mp hc).1;have S57:=S6.trans S7;obtain⟨W,due⟩:=qlp (ok c mc).1.2 (ok c mc).2;refine⟨_,rfl,_,rfl,_,rfl,_,rfl,c.s,tb,sv,c.wd,c.nm,c.pl,c.lo,c.hi,e,r,ps,W,rfl,S57 _ _ (ok5 c mc).1,(ok c mc).1.2,td5.sm S57,due,S57 _ _ hsv5,fun f2 r2 H7 ff S8 R8 c8 l8 m8=>?_⟩;refine⟨q,f2,rr,r2,rfl,R7.same S8,R8,can,c8,by omega,fun d4 H8 fd4 S9 R9=>?_⟩;have lc:=qhd can c8;refine⟨_,d4,com rr r2,rfl,(S7.trans S8).trans S9,R9,qdA can c8,by omega,fun n=>?_⟩;rw[qkg,mem,m8,qe4 hc,Zi td.2.nd due];exact and_assoc
     · rintro σ H6 ⟨s8,q,rr,rfl,S7,R7,can,lr,mem⟩;rw[ld]at lr mem;rw[List.take_length]at mem;exact hN _ _ ⟨s8,q,rr,rfl,S7,R7,can,by omega,mem⟩
   rintro _ H6 ⟨s8,q,rr,rfl,S7,R7,can,lr,mem⟩;have S57:=S6.trans S7;(try unfold qK);(try dsimp only);refine⟨_,rfl,ql,ds,rfl,S57 _ _ hql5,by omega,fun c m=>(ok5 c m).same S57,fun pq H7 fpq S8 hpq=>?_⟩;have S58:=S57.trans S8;have mpl:=qlb lb fun j b c h1 h2=>(md5 j b c h1 h2).2.1;rw[← mpl]at hpq
   have oks:∀ s∈plJ (bs.map Bk.pl),PyData.strOk s=true:=fun s ms=>by
     obtain⟨m1,m2⟩:=qgj ms;obtain⟨b,mb,rfl⟩:=List.mem_map.mp m1;exact qdT ((qkH (enb5 b mb).2).resolve_left m2)
   have hasb:∀ b∈bs,Has qs b.pl:=fun b mb=>by
     have:b.pl∈ds.map Sd.pl:=by rw[← mpl];exact List.mem_map_of_mem mb
     obtain⟨c,mc,ec⟩:=List.mem_map.mp this
     have:=(ok c mc).2
     rw[ec]at this;exact this.imp id fun z=>by rw[kys];exact z
   have heb:∀ b∈bs,b.sf=true->0 < e:=fun b mb z=>by
     obtain⟨j,hj,rfl⟩:=List.mem_iff_getElem.mp mb
     have:=(md5 j bs[j] ds[j] (List.getElem?_eq_getElem hj) (List.getElem?_eq_getElem (by omega))).2.2
     rw[z]at this;exact(qgV this.symm).1
   have tq8:=(tq6.sm S7).sm S8;have R8:=R7.same S8;(try unfold qK);(try dsimp only);refine qL (t:=qed _ _ _) (fun σ' H'=>∃ s10 s11 s12:Option V,σ'=[some (.str nm),some (.ref ql),some (.ref tb),some (.ref sv),some (.ref D),some (.ref x),some (.ref d),some (.ref q),s8,some (.ref pq),s10,s11,s12]∧Same H7 H') (fun N hN=>?_) ?_
   · refine⟨2,rfl,by decide,by decide,Qo (lo:=0) (fun i σ H'=>∃ s10 s11 s12:Option V,σ=[some (.str nm),some (.ref ql),some (.ref tb),some (.ref sv),some (.ref D),some (.ref x),some (.ref d),some (.ref q),s8,some (.ref pq),s10,s11,s12]∧Same H7 H') ⟨none,none,none,rfl,Same.refl _⟩ ?_ ?_⟩
     · rintro i σ H8 _ ⟨s10,s11,s12,rfl,S9⟩;have S59:=S58.trans S9;refine⟨_,rfl,x,dx,_,rfl,S59 _ _ hx5,rfl,_,rfl,x,dx,l,d,sv,nm,bs,e,r,qs,rfl,S59 _ _ hx5,S59 _ _ hl5,by omega,fun b m=>⟨(enb5 b m).1.same S59,(enb5 b m).2⟩,S59 _ _ hsv5,heb,tq8.sm S9,.inl ⟨hasb,fun fq fr H9 ff Sx Rx cx lx mx=>?_⟩⟩;have efr:fr=rr:=qdB cx can fun n=>(mx n).trans ((and_congr_right fun _=>ql5 nmq lb fun j b c h1 h2=>(md5 j b c h1 h2).2).trans (mem n).symm);subst efr;have S5x:=S59.trans Sx;(try unfold qK);(try dsimp only);refine⟨_,rfl,x,dx,_,rfl,S5x _ _ hx5,rfl,x,dx,l,sv,nm,bs,rfl,S5x _ _ hx5,S5x _ _ hl5,by omega,fun b m=>⟨(enb5 b m).1.same S5x,(enb5 b m).2⟩,fun tl H10 ft Sy hty=>?_⟩;(try unfold qK);(try dsimp only);refine⟨_,rfl,_,rfl,fq,q,fr,rfl,Rx.same Sy,(R8.same S9).same (Sx.trans Sy),by omega,fun H11 Sz=>⟨true,rfl,qS rfl ?_⟩⟩;have S7z:=S9.trans (Sx.trans (Sy.trans Sz));refine⟨_,rfl,_,rfl,Jf oks (Sz _ _ hty) (S7z _ _ hpq) ⟨_,rfl,qbt ?_⟩⟩;have S5z:=S58.trans S7z;refine⟨_,rfl,x,_,dx,_,_,rfl,(S5z _ _ hx5),T.cl_Joint,T.n_Joint_name,rfl,_,rfl,.inl ⟨rfl,_,rfl,qS (J6 _) ?_⟩⟩;obtain⟨zf,hzf,tzf⟩:=(Rx.same Sy).same Sz;have lzf:=tzf.1
       have nft:fq≠tl:=by
         obtain⟨zf0,hzf0,_⟩:=Rx;exact qi hzf0 ft
       try unfold qK
       try dsimp only
       refine⟨_,rfl,.inl ⟨rfl,_,SqL.of hzf⟩,qk (Nat.le_of_ble_eq_true rfl),fun u fu=>?_⟩;have Su:=Same.new (.tup [.int 1,.int 1]) fu;refine⟨fq,_,_,rfl,rfl,Su _ _ hzf,qaf (by omega),?_⟩;have ff7:H7 fq=none:=S9.none ff;have ft7:H7 tl=none:=(S9.trans Sx).none ft;have hty2:(upd (upd H11 u (.tup [.int 1,.int 1])) fq (.lst (zf++[.ref u]))) tl=some (.lst ((plJ (bs.map Bk.pl)).map V.str)):=by rw[qj nft.symm];exact Su _ _ (Sz _ _ hty)
       have lpj:=qck (bs.map Bk.pl) (bs.map Bk.pl).length;rw[List.take_length,List.length_map]at lpj;refine⟨_,rfl,.inl ⟨rfl,_,SqL.of hty2⟩,tl,_,_,rfl,rfl,hty2,qB (by rw[List.length_map];omega),?_⟩;exact⟨_,_,_,rfl,((S7z.trans Su).put ff7 _).put ft7 _⟩
     · rintro σ H8 ⟨s10,s11,s12,rfl,S9⟩;exact hN _ _ ⟨s10,s11,s12,rfl,S9⟩
   rintro _ H8 ⟨s10,s11,s12,rfl,S9⟩;have S59:=S58.trans S9;(try unfold qK);(try dsimp only);refine⟨_,rfl,_,rfl,_,rfl,x,dx,l,ql,sv,nm,bs,ds,e,r,rfl,⟨S59 _ _ hx5,S59 _ _ hl5,S59 _ _ hql5,by omega,lb,fun b m=>⟨(enb5 b m).1.same S59,(enb5 b m).2⟩,fun c m=>(ok5 c m).same S59,fun j b c h1 h2=>(md5 j b c h1 h2).2,S59 _ _ hsv5⟩,fun H9 Sx=>⟨true,rfl,qfy ?_⟩⟩;have S5x:=S59.trans Sx;refine⟨_,rfl,_,rfl,_,rfl,x,dx,l,d,sv,pq,nm,bs,e,r,qs,rfl,S5x _ _ hx5,S5x _ _ hl5,by omega,fun b m=>⟨(enb5 b m).1.same S5x,(enb5 b m).2⟩,S5x _ _ hsv5,heb,(tq8.sm S9).sm Sx,hasb,(S9.trans Sx) _ _ hpq,fun H10 Sy=>?_⟩;exact kk5 H10 (S5x.trans Sy)
end
theorem Rs.putD {H:Hp}{q tb:Addr}{rows:List (Int×Int)}{o u:HO} (h:Rs H q rows) (e:H tb=some u) (n1:∀ zs,u≠.lst zs) (n2:∀ zs,u≠.tup zs):Rs (upd H tb o) q rows:=by
 obtain⟨zs,hq,tz⟩:=h;refine⟨zs,?_,tz.1,fun j z y e1 e2=>?_⟩
 · rw[qj (fun z=>by subst z;rw[e]at hq;injection hq with hq;exact n1 zs hq)];exact hq
 · obtain⟨t,et,ht⟩:=tz.2 j z y e1 e2;refine⟨t,et,?_⟩;rw[qj (fun z=>by subst z;rw[e]at ht;injection ht with ht;exact n2 _ ht)];exact ht
theorem qlr (ps:Pls):((dkv ps).map fun p=>kV p.1)=(ps.map (·.1)).map V.str:=by
 unfold dkv;rw[List.map_map,List.map_map];rfl
theorem qgE:∀ {l:List Str}{j:Nat}{x:Str},l.Nodup->l[j]?=some x->x∉l.take j
 | [],_,_,_,h=>by cases h
 | y::r,0,x,_,h=>by simp
 | y::r,j+1,x,nd,h=>by
   rw[List.nodup_cons]at nd;rw[List.take_succ_cons,List.mem_cons,not_or];have h':r[j]?=some x:=h;exact⟨fun e=>nd.1 (e▸List.mem_of_getElem? h'),qgE nd.2 h'⟩
structure Tp (H:Hp) (ps:Pls):Prop where
 rs:∀ x∈ps,Rs H x.2.1 x.2.2
 good:∀ x∈ps,Good x.2.2
theorem qlW {K:Frag}{H H':Hp}{a T:Addr}{xs:List V}{ps:Array Value} (h:SqL K H a xs) (t:H T=some (.tbl ps)) (B:But T H H'):SqL K H' a xs:=by
 rcases h with h|h
 · refine .inl ?_;rcases h with e|⟨o,e⟩
   · exact .inl (B _ _ e fun z=>by rw[z,t]at e;cases e)
   · exact .inr ⟨o,B _ _ e fun z=>by rw[z,t]at e;cases e⟩
 · exact .inr h
theorem qgD {ns:List Str}{n:Int} (i:Nat) (nms:Nms ns) (h:(ns.length:Int)=n) (lt:(i:Int) < n):∃ x,ns[i]?=some x∧atI (ns.map V.str) (i:Int)=some (.str x)∧zc (.str x)=true:=by
 have hi:i < ns.length:=by omega
 exact⟨ns[i],List.getElem?_eq_getElem hi,zo (by rw[List.getElem?_map,List.getElem?_eq_getElem hi];rfl),nms.nm _ (List.getElem_mem hi)⟩
structure Lw (H2 H:Hp) (p q tb:Addr) (nsm:List Str) (ps:Pls) (ob:Obj):Prop where
 s:Same H2 H
 p:PenAt H p
 q:H q=some (.lst (nsm.map V.str))
 f:H tb=some (.frz ob (.dK (dkv ps)))
 t:Td H tb ps
theorem Lw.bp {H2 H H':Hp}{p q tb:Addr}{nsm:List Str}{ps:Pls}{ob:Obj} (h:Lw H2 H p q tb nsm ps ob) (B:But p H H') (p':PenAt H' p) (fp:H2 p=none) (nq:q≠p) (nt:tb≠p):Lw H2 H' p q tb nsm ps ob :=
 ⟨fun b o e=>B b o (h.s b o e) (qi e fp),p',B _ _ h.q nq,B _ _ h.f nt,h.t.bp h.p B⟩
theorem Lw.sm {H2 H H':Hp}{p q tb:Addr}{nsm:List Str}{ps:Pls}{ob:Obj} (h:Lw H2 H p q tb nsm ps ob) (S:Same H H'):Lw H2 H' p q tb nsm ps ob :=
 ⟨h.s.trans S,PenAt.sm h.p S,S _ _ h.q,S _ _ h.f,h.t.sm S⟩
structure Sps (H:Hp) (ql:Addr) (ds:List Sd) (ps:Pls):Prop where
 q:H ql=some (.lst (rfs (ds.map Sd.s)))
 ok:∀ d∈ds,SdOk H d∧(d.pl=""∨d.pl∈ps.map (·.1))
theorem qjF {H H':Hp}{p:Addr}{d:Sd} (h:SdOk H d) (hp:PenAt H p) (B:But p H H'):SdOk H' d:=by
 obtain⟨c,x,y,_,e⟩:=hp;exact⟨B _ _ h.1 (Qm h.1 e (by intro z;cases z)),h.2⟩
theorem Sps.bp {H H':Hp}{p ql:Addr}{ds:List Sd}{ps:Pls} (h:Sps H ql ds ps) (hp:PenAt H p) (B:But p H H') (n:ql≠p):Sps H' ql ds ps:=⟨B _ _ h.q n,fun d m=>⟨qjF (h.ok d m).1 hp B,(h.ok d m).2⟩⟩
theorem Sps.sm {H H':Hp}{ql:Addr}{ds:List Sd}{ps:Pls} (h:Sps H ql ds ps) (S:Same H H'):Sps H' ql ds ps:=⟨S _ _ h.q,fun d m=>⟨(h.ok d m).1.same S,(h.ok d m).2⟩⟩
theorem Sps.snoc {H:Hp}{ql:Addr}{ds:List Sd}{ps:Pls} (h:Sps H ql ds ps) {d:Sd} (k:SdOk H d∧(d.pl=""∨d.pl∈ps.map (·.1))):Sps (upd H ql (.lst (rfs (ds.map Sd.s)++[.ref d.s]))) ql (ds++[d]) ps:=by
 have go:∀ d':Sd,SdOk H d'->SdOk (upd H ql (.lst (rfs (ds.map Sd.s)++[.ref d.s]))) d':=fun d' e=>⟨by rw[qj (Qm e.1 h.q (by intro z;cases z))];exact e.1,e.2⟩
 refine⟨?_,fun d' m=>?_⟩
 · rw[qc];show _=some (HO.lst (List.map V.ref (List.map Sd.s (ds++[d]))));rw[List.map_append,List.map_append];rfl
 · rcases List.mem_append.mp m with m|m
   · exact⟨go d' (h.ok d' m).1,(h.ok d' m).2⟩
   · rw[List.mem_singleton.mp m];exact⟨go d k.1,k.2⟩
theorem Lw.up {H2 H:Hp}{p q tb ql:Addr}{nsm:List Str}{ps:Pls}{ob:Obj}{o:HO}{ds:List Sd} (h:Lw H2 H p q tb nsm ps ob) (f:H2 ql=none) (n:ql≠p) (nq:q≠ql) (sp:Sps H ql ds ps) (nr:∀ x∈ps,x.2.1≠ql):Lw H2 (upd H ql o) p q tb nsm ps ob:=by
 have hf:(upd H ql o) tb=some (.frz ob (.dK (dkv ps))):=by rw[qj (Qm h.f sp.q (by intro z;cases z))];exact h.f
 refine⟨h.s.put f _,h.p.upd n _,?_,hf,.inr ⟨ob,hf⟩,⟨fun x m=>?_,h.t.2.good,h.t.2.nm,h.t.2.nd,h.t.2.ne,h.t.2.few⟩⟩
 · rw[qj nq];exact h.q
 · obtain⟨zs,h1,h2⟩:=h.t.2.rs x m;refine⟨zs,?_,h2.1,fun j z y e1 e2=>let ⟨t,e,ht⟩:=h2.2 j z y e1 e2;⟨t,e,?_⟩⟩
   · rw[qj (nr x m)];exact h1
   · rw[qj (Qm ht sp.q (by intro z;cases z))];exact ht
def qhM (K:Frag) (t:Addr):Sp:=fun vs H Q _=>∃ (sa:Addr) (ns:List Int),vs=[.ref sa]∧SqL K H sa (ns.map V.int)∧ns.length≤63∧qlE H t qi7 ql6∧∀ H',Q (.bl true) H'
section
variable {P:Program}{w:World}{K:Frag}{mg:Str->Option Value}{base:Heap}
theorem qic {a:Ad} (T:Txt K mg a):qD P w K mg base CX0 1 a.f_T a.fd_T ["_law_script","_law_k"] (qem K):=by
 refine T.d_T.F.ok qhR (fun vs H Q E h=>?_) (fun cdv A outer s H vs Q E hr h=>?_)
 · obtain⟨b,ns,j,rfl,hS,j0,k⟩:=h;rfl
 · obtain⟨b,ns,j,rfl,hS,j0,k⟩:=h;have hU:=hr.units
   refine⟨_,(qe (qO (qw qfg (pv 1) (qm qW (by rfl) T.n_len qM (qa (pv 0) qb)) (qC _))
       (qf (qt (qz (r:=rIx K) qp (pv 0) (pv 1) (fun _ _=>rfl))))
       qy)
     (qf (qt (qA QT (qA ZH qd (pv 1)) qd)))),?_⟩
   try dsimp only [zb,Cx.nox]
   refine⟨_,rfl,_,rfl,_,_,rfl,.inl ⟨_,hS,rfl⟩,_,_,rfl,rfl,_,rfl,?_⟩;refine zP (fun hj=>?_) (fun hj=>?_)
   · obtain⟨n,rfl⟩:=Int.eq_ofNat_of_zero_le j0;rw[List.length_map]at hj;have hn:n < ns.length:=by omega
     refine⟨_,rfl,_,rfl,.inl ⟨b,_,_,.int ns[n],rfl,rfl,hS,zo (by rw[List.getElem?_map,List.getElem?_eq_getElem hn];rfl),?_⟩⟩;exact k _
   · exact⟨_,rfl,_,_,rfl,rfl,.inl ⟨by decide,by decide⟩,.inl ⟨_,_,rfl,rfl,k _⟩⟩
theorem qk5 {a:Ad} (T:Txt K mg a) (hB:qhD mg base):qD P w K mg base CX0 12 a.f_ap a.fd_ap ["_law_script"] (qhM K a.t_Lpart):=by
 have G_U:=qgx (P:=P) (w:=w) (base:=base) T;have G_V:=qgv (P:=P) (w:=w) (base:=base) T;have G_a:=Q1 (P:=P) (w:=w) (base:=base) T;have G_T:=qic (P:=P) (w:=w) (base:=base) T;have G_W:=qh8 (P:=P) (w:=w) (base:=base) T;have G_aa:qD P w K mg base CX0 11 a.f_aa a.fd_aa ["_law_name","_law_specs","_law_tables","_law_sieve"] (qcN a):=qgu T hB;have G_3:=qfl (P:=P) (w:=w) (base:=base) T;have G_0:=qh6 (P:=P) (w:=w) (base:=base) T;refine T.d_ap.F.ok sc_law (fun vs H Q E h=>?_) (fun cdv A outer s H vs Q E hr h=>?_)
 · obtain⟨sa,ns,rfl,hS,l63,tD,kk⟩:=h;rfl
 · obtain⟨sa,ns,rfl,hS,l63,tD,kk⟩:=h;have hu:=qH hr;have hU:=hr.units;have h_U:Room (1) _:=hr.mono (by decide);have h_V:Room (3) _:=hr.mono (by decide);have h_a:Room (2) _:=hr.mono (by decide);have h_T:Room (1) _:=hr.mono (by decide);have h_W:Room (4) _:=hr.mono (by decide);have h_aa:Room (11) _:=hr.mono (by decide);have h_3:Room (3) _:=hr.mono (by decide);have h_0:Room (4) _:=hr.mono (by decide)
   refine⟨_,(qe (zx PassesOwn.never rfl (zZ rfl T.n_range (qa (qm (zh rfl) (by rfl) T.n_max zi (qa qd (qa (qm (zC rfl) (by rfl) T.n_min zD (qa qd (qa (qm qW (by rfl) T.n_len qM (qa (pv 0) qb)) qb))) qb))) qb)) (qr (i:=1) (sc_law.nd) rfl (Or.inl rfl))
       (qe (qx (i:=2) sc_law.nd rfl (Or.inl rfl) (qh G_U h_U rfl T.d_U.m T.d_U.k T.d_U.b .nil qq (qa (qh G_T h_T rfl T.d_T.m T.d_T.k T.d_T.b .nil qq (qa (pv 0) (qa (pv 1) qb))) qb)))
       (qe (qx (i:=3) sc_law.nd rfl (Or.inl rfl) (qh G_V h_V rfl T.d_V.m T.d_V.k T.d_V.b .nil qq (qa (pv 2) (qa qd qb))))
       (qe (qx (i:=4) sc_law.nd rfl (Or.inl rfl) qcl)
       (qe (zx PassesOwn.never rfl (qX (ZN uSl (pv 3) qaH (jo (qA QT qd (qh G_a h_a rfl T.d_a.m T.d_a.k T.d_a.b .nil qq (qa (pv 2) (qa qd qb))))))) (qr (i:=5) (sc_law.nd) rfl (Or.inl rfl))
         (qf (qjQ hu (pv 4) (pv 5) (qh G_W h_W rfl T.d_W.m T.d_W.k T.d_W.b .nil qq (qa (pv 2) qb)) rfl)))
       (qe (PS.frz (qx (i:=6) sc_law.nd rfl (Or.inl rfl) (qm (zC rfl) (by rfl) T.n_min zD (qa (qA zH qd qd) (qa (qA QT (qz (r:=rIx K) qp (qz (r:=rIx K) qp (Jc hu (pv 4) (qz (r:=rIx K) qp (pv 3) qd (fun _ _=>rfl)) (fun _ _=>rfl)) (Zj zU qd) (fun _ _=>rfl)) qd (fun _ _=>rfl)) (qh G_a h_a rfl T.d_a.m T.d_a.k T.d_a.b .nil qq (qa (pv 2) (qa qd qb)))) qb)))))
       (qe (qx (i:=7) sc_law.nd rfl (Or.inl rfl) (zA (uEq hU) (qh G_a h_a rfl T.d_a.m T.d_a.k T.d_a.b .nil qq (qa (pv 2) (qa qd qb))) qd (qC _)))
       (qe (qx (i:=8) sc_law.nd rfl (Or.inl rfl) (qJ qb))
       (qe (zx PassesOwn.never rfl (zZ rfl T.n_range (qa (qA QT qd (qh G_a h_a rfl T.d_a.m T.d_a.k T.d_a.b .nil qq (qa (pv 2) (qa (qz (r:=rIx K) qp (qJ (qa qd (qa qd qb))) (qh G_a h_a rfl T.d_a.m T.d_a.k T.d_a.b .nil qq (qa (pv 2) (qa qd qb))) (fun _ _=>rfl)) qb)))) qb)) (qr (i:=9) (sc_law.nd) rfl (Or.inl rfl))
         (qf (qO (qeC (pv 7) (fun _=>rfl))
           (qf (qI (ZG PySem.F.plainAttrs_list PySem.F.slot_list_append PySem.F.type_list_append qY (pv 8) (qa (qh G_3 h_3 rfl T.d_3.m T.d_3.k T.d_3.b .nil qq (qa (pv 2) (qa (qz (r:=rIx K) qp (pv 3) (qA QT qd (pv 9)) (fun _ _=>rfl)) (qa (zB (r:=qge) (qb0 rfl) (by rfl) T.n_list zj (qa (pv 4) qb)) (qa (pv 4) (qa (pv 6) qb)))))) qb))))
           (qf (qI (ZG PySem.F.plainAttrs_list PySem.F.slot_list_append PySem.F.type_list_append qY (pv 8) (qa (qh G_0 h_0 rfl T.d_0.m T.d_0.k T.d_0.b .nil qq (qa (pv 2) (qa (qz (r:=rIx K) qp (pv 3) (qA QT qd (pv 9)) (fun _ _=>rfl)) (qa (zB (r:=qge) (qb0 rfl) (by rfl) T.n_list zj (qa (pv 4) qb)) (qa (pv 4) qb))))) qb)))))))
       (qe (qO (PW.pt (qaG (qw (uEq hU) (qh G_a h_a rfl T.d_a.m T.d_a.k T.d_a.b .nil qq (qa (pv 2) (qa qd qb))) qd (qC _)) (Ja (qw qfg (qm qW (by rfl) T.n_len qM (qa (pv 8) qb)) qd (qC _)))))
         (qf (qI (ZG PySem.F.plainAttrs_list PySem.F.slot_list_append PySem.F.type_list_append qY (pv 8) (qa (qz (r:=rIx K) qp (pv 8) qd (fun _ _=>rfl)) qb))))
         qy)
       (qe (qx (i:=10) sc_law.nd rfl (Or.inl rfl) (qh G_a h_a rfl T.d_a.m T.d_a.k T.d_a.b .nil qq (qa (pv 2) (qa qd qb))))
       (qe (qx (i:=11) sc_law.nd rfl (Or.inl rfl) (qJ (qa (pv 10) (qa qd qb))))
       (qe (qO (qw qdb (pv 10) qd (qC _))
         (qf (qx (i:=11) sc_law.nd rfl (Or.inl rfl) (qJ (qa (pv 10) (qa (qA ZI (qz (r:=rIx K) qp (qJ (qa (pv 6) (qa (qh G_a h_a rfl T.d_a.m T.d_a.k T.d_a.b .nil qq (qa (pv 2) (qa qd qb))) qb))) (qh G_a h_a rfl T.d_a.m T.d_a.k T.d_a.b .nil qq (qa (pv 2) (qa qd qb))) (fun _ _=>rfl)) (pv 10)) qb)))))
         qy)
       (qf (qO (zu (za (qh G_aa h_aa rfl T.d_aa.m T.d_aa.k T.d_aa.b .nil qq (qa (qz (r:=rIx K) qp (pv 3) qd (fun _ _=>rfl)) (qa (pv 8) (qa (pv 4) (qa (pv 11) qb)))))))
         (qf (qt Jd))
         qy)))))))))))))))
     (qf (qt Jd))),?_⟩
   try dsimp only [zb,Cx.nox]
   refine⟨_,rfl,_,_,rfl,.inl ⟨_,hS,rfl⟩,_,_,rfl,_,_,rfl,_,rfl,?_,?_,Qo (lo:=0) (D:={ nx:=qhL (tC (.bl true)) { nx:=fun _ H'=>Q .non H',rt:=Q },rt:=Q }) (fun i σ H2=>∃ s1 s2 s3 s4 s5 s6 s7 s8 s9 s10 s11:Option V,σ=[some (.ref sa),s1,s2,s3,s4,s5,s6,s7,s8,s9,s10,s11]∧SqL K H2 sa (ns.map V.int)∧TbD a H2) ⟨_,_,_,_,_,_,_,_,_,_,_,rfl,hS,tD⟩ ?_ ?_⟩
   · rw[List.length_map];split<;>split<;>omega
   · rw[List.length_map];split<;>split<;>omega
   · rintro i σ H2 hi ⟨s1,s2,s3,s4,s5,s6,s7,s8,s9,s10,s11,rfl,hS2,tD2⟩;refine⟨_,rfl,_,rfl,sa,ns,_,rfl,hS2,(by omega),fun c=>⟨c,rfl,fun p A B fp A0=>?_⟩⟩;generalize hG:upd H2 p _=G1;obtain⟨S1,e1⟩:=qF hG fp;clear hG;have p1:PenAt G1 p:=⟨A,B,0,A0,e1⟩
     try unfold qK
     try dsimp only
     refine⟨_,rfl,p,12,rfl,p1,by decide,by decide,fun q nsm G2 fq B2 p2 hq lq nms=>?_⟩;have nq:q≠p:=p1.ne fq;have S2:Same H2 G2:=fun b o e=>B2 b o (S1 b o e) (qi e fp);clear e1 B2 p1;(try unfold qK);(try dsimp only);refine fun tb ftb=>?_;generalize hG:upd G2 tb _=G3;obtain⟨S3,e3⟩:=qF hG ftb;clear hG;have p3:=PenAt.sm p2 S3;have hq3:=S3 _ _ hq;have ftb2:H2 tb=none:=S2.none ftb;have ntp:tb≠p:=p2.ne ftb;have SH3:=S2.trans S3;clear hq S2 S3 p2 ftb;(try unfold qK);(try dsimp only);refine qL (t:=qed _ _ _) (fun σ' H'=>∃ (s5:Option V) (ps:Pls) (n:Nat),σ'=[some (.ref sa),some (.int (0+(i:Int))),some (.ref p),some (.ref q),some (.ref tb),s5,s6,s7,s8,s9,s10,s11]∧Same H2 H'∧PenAt H' p∧H' q=some (.lst (nsm.map V.str))∧H' tb=some (.dK (dkv ps))∧Tp H' ps∧ps.map (·.1)=nsm.take n∧0 < n∧n≤3) (fun N hN=>?_) ?_
     · refine⟨_,rfl,_,rfl,p,_,rfl,p3,by decide,by decide,fun m G4 m0 m1 B4 p4=>.inl ⟨_,_,rfl,rfl,_,rfl,.inl ⟨q,_,rfl,SqL.of (B4 _ _ hq3 nq),fun l fl=>?_⟩⟩⟩;rw[qeY _ (1+m).toNat _ (by omega),← List.map_take];generalize hG:upd G4 l _=G5;obtain⟨S5,e5⟩:=qF hG fl;clear hG;have p5:=PenAt.sm p4 S5;have nl:l≠p:=p4.ne fl;have hq5:=S5 _ _ (B4 _ _ hq3 nq);have e35:=S5 _ _ (B4 _ _ e3 ntp);have SH5:Same H2 G5:=fun b o e=>S5 b o (B4 b o (SH3 b o e) (qi e fp));generalize hnn:(1+m).toNat=n at e5;have n0':0 < n:=by omega
       have n3':n≤3:=by omega
       clear S5 B4 e3 p3 hq3 SH3 p4;refine⟨l,rfl,⟨_,SqL.of e5⟩,zy (D:={ nx:=N,rt:=Q }) (K:=K) (a:=l) (xs:=(nsm.take n).map V.str) (fun j σ H'=>∃ (s5:Option V) (ps:Pls),σ=[some (.ref sa),some (.int (0+(i:Int))),some (.ref p),some (.ref q),some (.ref tb),s5,s6,s7,s8,s9,s10,s11]∧Same H2 H'∧PenAt H' p∧H' q=some (.lst (nsm.map V.str))∧H' l=some (.lst ((nsm.take n).map V.str))∧H' tb=some (.dK (dkv ps))∧Tp H' ps∧ps.map (·.1)=(nsm.take n).take j) ⟨_,[],rfl,SH5,p5,hq5,e5,e35,⟨(fun x m=>nomatch m),(fun x m=>nomatch m)⟩,rfl⟩ (fun j σ H' _ ⟨_,_,_,_,_,_,h,_⟩=>SqL.of h) ?_ ?_⟩
       · rintro j z σ H6 hz ⟨s5,ps,rfl,S6,p6,hq6,hl6,ht6,tp6,ek⟩
         obtain⟨x,hx,rfl⟩:∃ x,(nsm.take n)[j]?=some x∧V.str x=z:=by
           rw[List.getElem?_map]at hz;exact Option.map_eq_some_iff.mp hz
         refine⟨_,rfl,p,rfl,p6,fun rq rows H7 frq B7 p7 R7 good=>?_⟩;have ht7:=B7 _ _ ht6 ntp;have nd:=nms.nd
         have hxk:x∉ps.map (·.1):=by
           rw[ek];exact qgE (nd.sublist (List.take_sublist _ _)) hx
         have lps:ps.length≤5:=by
           have:=congrArg List.length ek
           rw[List.length_map,List.length_take,List.length_take]at this;omega
         have ep:qeB (dkv ps) (.inr x) (V.ref rq)=dkv (ps++[(x,rq,rows)]):=by
           rw[qhT _ (qfH hxk)];unfold dkv;rw[List.map_append];rfl
         refine⟨_,rfl,_,rfl,tb,_,rfl,DPut.k (k:=.inr x) ht7 (by unfold dkv;rw[List.length_map];exact Nat.lt_of_lt_of_le (by omega:ps.length < 60) (qk (by decide:60≤1000))),?_⟩;rw[ep];refine⟨_,ps++[(x,rq,rows)],rfl,?_,p7.upd ntp _,?_,?_,qc,⟨fun y m=>?_,fun y m=>?_⟩,?_⟩
         · intro b o e;rw[qj (qi e ftb2)];exact B7 b o (S6 b o e) (qi e fp)
         · rw[qj (Qm (B7 _ _ hq6 nq) ht7 (by intro z;cases z))];exact B7 _ _ hq6 nq
         · rw[qj (Qm (B7 _ _ hl6 nl) ht7 (by intro z;cases z))];exact B7 _ _ hl6 nl
         · refine Rs.putD ?_ ht7 (fun _ z=>by cases z) (fun _ z=>by cases z);rcases List.mem_append.mp m with m|m
           · exact(tp6.rs y m).bp p6 B7
           · rw[List.mem_singleton.mp m];exact R7
         · rcases List.mem_append.mp m with m|m
           · exact tp6.good y m
           · rw[List.mem_singleton.mp m];exact good
         · rw[List.map_append,ek,List.take_add_one (i:=j),hx];rfl
       · rintro σ H6 ⟨s5,ps,rfl,S6,p6,hq6,hl6,ht6,tp6,ek⟩;rw[List.length_map,List.take_length]at ek;exact hN _ _ ⟨s5,ps,n,rfl,S6,p6,hq6,ht6,tp6,ek,n0',n3'⟩
     rintro _ H6 ⟨s5',ps,n,rfl,S6,p6,hq6,ht6,tp6,ek,hn0,hn3⟩
     have lps:ps.length=n:=by
       have:=congrArg List.length ek
       rw[List.length_map,List.length_take]at this;omega
     have ndk:(ps.map (·.1)).Nodup:=by rw[ek];exact nms.nd.sublist (List.take_sublist _ _)
     have nmk:∀ x∈ps,zc (.str x.1)=true:=fun x m=>nms.nm _ (List.mem_of_mem_take (ek▸List.mem_map_of_mem (f:=fun x:Str×Addr×List (Int×Int)=>x.1) m));refine .inr ⟨tb,_,ht6,fun ob=>?_⟩;have td7:Td (upd H6 tb (.frz ob (.dK (dkv ps)))) tb ps:=⟨.inr ⟨ob,qc⟩,⟨fun x m=>Rs.putD (tp6.rs x m) ht6 (fun _ z=>by cases z) (fun _ z=>by cases z),tp6.good,nmk,ndk,by omega,by omega⟩⟩
     have L7:Lw H2 (upd H6 tb (.frz ob (.dK (dkv ps)))) p q tb nsm ps ob:=⟨S6.put ftb2 _,p6.upd ntp _,by rw[qj (Qm hq6 ht6 (by intro z;cases z))];exact hq6,qc,td7⟩
     generalize upd H6 tb (.frz ob (.dK (dkv ps)))=H7 at L7 ⊢;clear td7 ht6 hq6 S6 p6 tp6;obtain⟨x0,g0,h0,ok0⟩:=qgD 0 nms lq (by decide);obtain⟨x3,g3,h3,ok3⟩:=qgD 3 nms lq (by decide)
     obtain⟨w0,mw0,ew0⟩:∃ w∈ps,w.1=x0:=by
       have:x0∈ps.map (·.1):=by
         rw[ek];exact List.mem_of_getElem? (i:=0) (by rw[List.getElem?_take,if_pos hn0];exact g0)
       obtain⟨w,mw,ew⟩:=List.mem_map.mp this;exact⟨w,mw,ew⟩
     obtain⟨zw,hzw,tzw⟩:=L7.t.2.rs w0 mw0;have gw:=L7.t.2.good w0 mw0
     obtain⟨lw,elw⟩:∃ l,w0.2.2.getLast?=some l:=by
       obtain⟨n9,h9⟩:=gw.fst
       cases e:w0.2.2.getLast? with
       | none=>rw[List.getLast?_eq_none_iff.mp e]at h9;cases h9
       | some l=>exact⟨l,rfl⟩
     obtain⟨t0,hz0,ht0⟩:=TupL.last tzw elw;have bl:=gw.ok lw (List.mem_of_getLast? elw);have gt:=L7.t.get mw0;rw[ew0]at gt;have e9:(10:Int) ^ (9:Int).toNat=1000000000:=by decide
     refine⟨_,_,rfl,rfl,⟨by decide,by decide,by decide⟩,_,rfl,_,rfl,.inl ⟨q,_,_,_,rfl,rfl,SqL.of L7.q,h0,tb,_,rfl,gt,_,rfl,.inl ⟨w0.2.1,_,_,_,rfl,rfl,SqL.of hzw,atI_last hz0,.inr (.inl ⟨t0,_,_,_,rfl,rfl,SqT.of ht0,rfl,_,rfl,p,_,rfl,L7.p,by decide,by decide,fun dm G8 dm0 dm1 B8 p8=>.inl ⟨_,_,rfl,rfl,_,_,rfl,?_⟩⟩)⟩⟩⟩;have L8:=L7.bp B8 p8 fp nq ntp;rw[e9];obtain⟨mo,emo,mo0,mo1⟩:∃ mo:Int,(if lw.1+dm < 1000000000 then lw.1+dm else 1000000000)=mo∧0≤mo∧mo≤1000000000:=⟨_,rfl,by split<;>omega,by split<;>omega⟩
     have emo':=emo
     first|rw[emo]|(dsimp only;rw[emo])
     clear hzw tzw ht0 hz0 gt;(try unfold qK);(try dsimp only);refine⟨_,rfl,p,_,rfl,L8.p,by decide,by decide,fun da G9 da0 da1 B9 p9=>.inl ⟨rfl,?_⟩⟩;have L9:=L8.bp B9 p9 fp nq ntp;generalize decide (V.int da=V.int 0)=ab;(try unfold qK);(try dsimp only);refine⟨Nat.zero_le _,fun ql fql=>?_⟩;generalize hG:upd G9 ql _=G10;obtain⟨S10,e10⟩:=qF hG fql;clear hG;have L10:=L9.sm S10;have nql:ql≠p:=L9.p.ne fql;have fql2:H2 ql=none:=L9.s.none fql;have nqq:q≠ql:=fun z=>by rw[← z,L9.q]at fql;cases fql
     have nrq:∀ x∈ps,x.2.1≠ql:=fun x m z=>by
       obtain⟨zs,h1,_⟩:=L9.t.2.rs x m;rw[z,fql]at h1;cases h1
     have sp10:Sps G10 ql [] ps:=⟨e10,fun d m=>nomatch m⟩
     clear L7 L8 L9 B8 B9 p8 p9 e10 S10;(try unfold qK);(try dsimp only);refine qL (t:=qed _ _ _) (fun σ' H'=>∃ (s9:Option V) (ds:List Sd),σ'=[some (.ref sa),some (.int (0+(i:Int))),some (.ref p),some (.ref q),some (.ref tb),s5',some (.int mo),some (.bl ab),some (.ref ql),s9,s10,s11]∧Lw H2 H' p q tb nsm ps ob∧Sps H' ql ds ps∧0 < ds.length∧ds.length≤8) (fun N hN=>?_) ?_
     · refine⟨_,rfl,qk (Nat.le_of_ble_eq_true rfl),fun l3 f3=>?_⟩;generalize hG:upd G10 l3 _=G11;obtain⟨S11,e11⟩:=qF hG f3;clear hG;have L11:=L10.sm S11;have n3:l3≠p:=L10.p.ne f3;have sp11:=sp10.sm S11;refine⟨_,rfl,p,_,rfl,L11.p,by decide,by decide,fun db G12 db0 db1 B12 p12=>?_⟩;have L12:=L11.bp B12 p12 fp nq ntp;have sp12:=sp11.bp L11.p B12 nql;obtain⟨v,hv,mv⟩:=Qq (xs:=([.int 3,.int 8]:List V)) db0 db1
       obtain⟨m,rfl,m0,m1⟩:∃ u:Int,v=.int u∧0 < u∧u≤8:=by
         simp only[List.mem_cons,List.not_mem_nil,or_false]at mv;rcases mv with rfl|rfl<;>exact⟨_,rfl,by decide,by decide⟩
       refine .inl ⟨l3,_,_,_,rfl,rfl,SqL.of (B12 _ _ e11 n3),hv,?_⟩;refine⟨p,_,rfl,L12.p,m0,by omega,fun dn G13 dn0 dn1 B13 p13=>.inl ⟨_,_,rfl,rfl,?_⟩⟩;have L13:=L12.bp B13 p13 fp nq ntp;have sp13:=sp12.bp L12.p B13 nql;refine⟨_,rfl,by omega,by omega,Qo (lo:=0) (D:={ nx:=N,rt:=Q }) (fun j σ H'=>∃ (s9:Option V) (ds:List Sd),σ=[some (.ref sa),some (.int (0+(i:Int))),some (.ref p),some (.ref q),some (.ref tb),s5',some (.int mo),some (.bl ab),some (.ref ql),s9,s10,s11]∧Lw H2 H' p q tb nsm ps ob∧Sps H' ql ds ps∧ds.length=j) ⟨_,[],rfl,L13,sp13,rfl⟩ ?_ ?_⟩
       · rintro j σ H8 hj ⟨s9,ds,rfl,L,sp,ld⟩;obtain⟨xj,gj,hj',okj⟩:=qgD (4+j) nms lq (by omega)
         have hjj:atI (nsm.map V.str) (4+(0+(j:Int)))=some (.str xj):=by
           rw[show (4+(0+(j:Int)))=((4+j:Nat):Int) from by omega];exact hj'
         refine⟨_,rfl,ab,rfl,qhA (fun _=>?_) (fun _=>?_)⟩
         all_goals
           refine⟨_,rfl,.inl ⟨rfl,_,SqL.of sp.q⟩,?_⟩;refine⟨_,rfl,_,rfl,_,rfl,.inl ⟨_,_,rfl,rfl,.inl ⟨q,_,_,_,rfl,rfl,SqL.of L.q,hjj,_,rfl,tb,_,rfl,.inr ⟨ob,L.f⟩,fun l fl=>?_⟩⟩⟩;rw[qlr];generalize hG:upd H8 l _=H9;obtain⟨S9,e9'⟩:=qF hG fl;clear hG;have L9:=L.sm S9;have sp9:=sp.sm S9
         · refine⟨_,rfl,_,rfl,p,l,tb,xj,ps,mo,rfl,L9.p,okj,e9',L9.t,⟨mo0,mo1⟩,fun s wd pl lo hi G fs B pG hs spc hpl=>?_⟩;have LG:=L9.bp B pG fp nq ntp;have spG:=sp9.bp L9.p B nql;refine⟨ql,_,_,rfl,rfl,spG.q,qB (by rw[List.length_map,List.length_map];omega),?_⟩;exact⟨_,ds++[⟨s,wd,xj,pl,lo,hi⟩],rfl,LG.up fql2 nql nqq spG nrq,spG.snoc (d:=⟨s,wd,xj,pl,lo,hi⟩) ⟨⟨hs,spc⟩,hpl⟩,by rw[List.length_append,ld];rfl⟩
         · refine⟨_,rfl,p,l,tb,xj,ps,rfl,L9.p,okj,e9',L9.t,fun s wd pl lo hi G fs B pG hs spc hpl=>?_⟩;have LG:=L9.bp B pG fp nq ntp;have spG:=sp9.bp L9.p B nql;refine⟨ql,_,_,rfl,rfl,spG.q,qB (by rw[List.length_map,List.length_map];omega),?_⟩;exact⟨_,ds++[⟨s,wd,xj,pl,lo,hi⟩],rfl,LG.up fql2 nql nqq spG nrq,spG.snoc (d:=⟨s,wd,xj,pl,lo,hi⟩) ⟨⟨hs,spc⟩,hpl⟩,by rw[List.length_append,ld];rfl⟩
       · rintro σ H8 ⟨s9,ds,rfl,L,sp,ld⟩;exact hN _ _ ⟨s9,ds,rfl,L,sp,by omega,by omega⟩
     rintro _ H8 ⟨s9',ds,rfl,L8,sp8,n0,n8⟩;clear L10 sp10;(try unfold qK);(try dsimp only);refine qL (t:=qiJ _ _ _) (fun σ' H'=>∃ ds:List Sd,σ'=[some (.ref sa),some (.int (0+(i:Int))),some (.ref p),some (.ref q),some (.ref tb),s5',some (.int mo),some (.bl ab),some (.ref ql),s9',s10,s11]∧Lw H2 H' p q tb nsm ps ob∧Sps H' ql ds ps∧0 < ds.length∧ds.length≤8) (fun N hN=>?_) ?_
     · refine⟨_,rfl,p,_,rfl,L8.p,by decide,by decide,fun d G d0 d1 B pG=>?_⟩;have LG:=L8.bp B pG fp nq ntp;have spG:=sp8.bp L8.p B nql;refine .inl ⟨rfl,_,rfl,zP (fun g1=>?_) (fun g1=>qbt (hN _ _ ⟨ds,rfl,LG,spG,n0,n8⟩))⟩;refine⟨_,rfl,_,_,rfl,.inl ⟨_,SqL.of spG.q,rfl⟩,_,_,rfl,rfl,_,rfl,zP (fun g2=>?_) (fun g2=>hN _ _ ⟨ds,rfl,LG,spG,n0,n8⟩)⟩;rw[List.length_map,List.length_map]at g2
       have h1:(rfs (ds.map Sd.s))[0]?=some (.ref ds[0].s):=by
         rw[List.getElem?_map,List.getElem?_map,List.getElem?_eq_getElem n0];rfl
       refine⟨_,rfl,.inl ⟨rfl,_,SqL.of spG.q⟩,_,rfl,.inl ⟨ql,_,_,_,rfl,rfl,SqL.of spG.q,zo (j:=0) h1,ql,_,_,rfl,rfl,spG.q,qB (by rw[List.length_map,List.length_map];omega),?_⟩⟩;exact hN _ _ ⟨ds++[ds[0]],rfl,LG.up fql2 nql nqq spG nrq,spG.snoc (d:=ds[0]) (spG.ok _ (List.getElem_mem n0)),by rw[List.length_append];omega,by rw[List.length_append];simp only[List.length_cons,List.length_nil];omega⟩
     clear n0 n8 sp8 L8 ds H8;rintro _ H8 ⟨ds,rfl,L8,sp8,n0,n8⟩;(try unfold qK);(try dsimp only);refine⟨_,rfl,p,_,rfl,L8.p,by decide,by decide,fun ev G9 ev0 ev1 B9 p9=>?_⟩;have L9:=L8.bp B9 p9 fp nq ntp;have sp9:=sp8.bp L8.p B9 nql;(try unfold qK);(try dsimp only);refine⟨_,rfl,qk (Nat.le_of_ble_eq_true rfl),fun sv fsv=>?_⟩;generalize hG:upd G9 sv _=G10;obtain⟨S10,e10⟩:=qF hG fsv;clear hG;have L10:=L9.sm S10;have sp10:=sp9.sm S10;(try unfold qK);(try dsimp only);refine qL (t:=qiJ _ _ _) (fun σ' H'=>∃ (sv:Addr) (r:Int),σ'=[some (.ref sa),some (.int (0+(i:Int))),some (.ref p),some (.ref q),some (.ref tb),s5',some (.int mo),some (.bl ab),some (.ref ql),s9',some (.int ev),some (.ref sv)]∧Lw H2 H' p q tb nsm ps ob∧Sps H' ql ds ps∧H' sv=some (.lst [.int ev,.int r])) (fun N hN=>?_) ?_
     · refine⟨_,rfl,_,_,rfl,rfl,_,rfl,zP (fun g=>?_) (fun g=>hN _ _ ⟨sv,0,rfl,L10,sp10,e10⟩)⟩;refine⟨_,rfl,_,rfl,_,rfl,p,_,rfl,L10.p,by decide,by decide,fun d1 G11 d10 d11 B11 p11=>⟨qk (Nat.le_of_ble_eq_true rfl),fun l fl=>?_⟩⟩;have L11:=L10.bp B11 p11 fp nq ntp;have sp11:=sp10.bp L10.p B11 nql;generalize hG:upd G11 l _=G12;obtain⟨S12,e12⟩:=qF hG fl;clear hG;have L12:=L11.sm S12;have sp12:=sp11.sm S12;have nlp:l≠p:=L11.p.ne fl;refine⟨_,rfl,p,_,rfl,L12.p,by decide,by decide,fun d2 G13 d20 d21 B13 p13=>?_⟩;have L13:=L12.bp B13 p13 fp nq ntp;have sp13:=sp12.bp L12.p B13 nql;obtain⟨v,hv,mv⟩:=Qq (xs:=([.int mo,.int d1]:List V)) d20 d21
       obtain⟨u,rfl⟩:∃ u:Int,v=.int u:=by
         simp only[List.mem_cons,List.not_mem_nil,or_false]at mv;rcases mv with rfl|rfl<;>exact⟨_,rfl⟩
       refine .inl ⟨l,_,_,_,rfl,rfl,SqL.of (B13 _ _ e12 nlp),hv,_,rfl,_,_,rfl,rfl,(by omega),qk (Nat.le_of_ble_eq_true rfl),fun s2 f2=>?_⟩;generalize hG:upd G13 s2 _=G14;obtain⟨S14,e14⟩:=qF hG f2;clear hG;exact hN _ _ ⟨s2,_,rfl,L13.sm S14,sp13.sm S14,e14⟩
     clear L10 sp10 e10 fsv S10;rintro _ H9 ⟨sv,r,rfl,LF,spF,hsv⟩;obtain⟨pt,hpt⟩:=tD2.at_;(try unfold qK);(try dsimp only);refine⟨_,rfl,.inl ⟨q,_,_,_,rfl,rfl,SqL.of LF.q,h3,_,rfl,_,rfl,_,rfl,ql,tb,sv,x3,ds,ev,r,ps,ob,rfl,ok3,spF.q,n0,n8,spF.ok,LF.f,LF.t,hsv,tD2.same LF.s,fun H10 B10 tD10=>⟨true,rfl,qS rfl ?_⟩⟩⟩;exact⟨_,_,_,_,_,_,_,_,_,_,_,rfl,qlW (LF.s.seq hS2) (LF.s _ _ hpt) B10,tD10⟩
   · rintro σ H2 ⟨s1,s2,s3,s4,s5,s6,s7,s8,s9,s10,s11,rfl,_,_⟩;exact kk H2
end
theorem len_0 {p:List Value->Prop} (h:p []):∀ us:List Value,us.length=0->p us:=fun us hl=>by
 cases us with
 | nil=>exact h
 | cons a t=>cases hl
theorem len_1 {p:List Value->Prop} (h:∀ a,p [a]):∀ us:List Value,us.length=1->p us:=fun us hl=>by
 cases us with
 | nil=>cases hl
 | cons a t=>exact len_0 (p:=fun t=>p (a::t)) (h a) t (Nat.succ.inj hl)
theorem len_2 {p:List Value->Prop} (h:∀ a b,p [a,b]):∀ us:List Value,us.length=2->p us:=fun us hl=>by
 cases us with
 | nil=>cases hl
 | cons a t=>exact len_1 (p:=fun t=>p (a::t)) (h a) t (Nat.succ.inj hl)
theorem len_3 {p:List Value->Prop} (h:∀ a b c,p [a,b,c]):∀ us:List Value,us.length=3->p us:=fun us hl=>by
 cases us with
 | nil=>cases hl
 | cons a t=>exact len_2 (p:=fun t=>p (a::t)) (h a) t (Nat.succ.inj hl)
theorem len_4 {p:List Value->Prop} (h:∀ a b c d,p [a,b,c,d]):∀ us:List Value,us.length=4->p us:=fun us hl=>by
 cases us with
 | nil=>cases hl
 | cons a t=>exact len_3 (p:=fun t=>p (a::t)) (h a) t (Nat.succ.inj hl)
theorem len_5 {p:List Value->Prop} (h:∀ a b c d e,p [a,b,c,d,e]):∀ us:List Value,us.length=5->p us:=fun us hl=>by
 cases us with
 | nil=>cases hl
 | cons a t=>exact len_4 (p:=fun t=>p (a::t)) (h a) t (Nat.succ.inj hl)
theorem mkDf {K:Frag}{h:Heap}{mg:Str->Option Value} (X:K.In h) (G:h.Ns mainGlobals mg) {x:Str}{st:Stmt}{ps:List Str}{f:Addr}{oc:Value}{od an:Option Addr}{osl:Array (Option Value)}{kV doc pm cdv ct:Value} (a:nsIn K mainGlobals x=some (some (.ref f))) (l:K.lookup f=some ⟨oc,od,.func (fnOf x x (QE st) (zT st) (qg st) .none kV doc pm an cdv ct),osl⟩) (c:codeIn K cdv x=true) (k:keepIn K (.ref f)=true) (hb:∀ (kV doc pm:Value) (an:Option Addr) (cdv ct:Value) (us:List Value),us.length=ps.length->bindArgs (fnOf x x (QE st) (zT st) (qg st) .none kV doc pm an cdv ct) ⟨us,[]⟩=pure (ps.zip us)):Df K mg x st ps f (fnOf x x (QE st) (zT st) (qg st) .none kV doc pm an cdv ct):=⟨qeR l c k,(qeR l c k).binds hb,PySem.W.mg_of X G a,k⟩
theorem mkDm {K:Frag}{C:Addr}{x q:Str}{st:Stmt}{ps:List Str}{f:Addr}{oc:Value}{od an:Option Addr}{osl:Array (Option Value)}{kV doc pm cdv ct:Value} (m:qhw K C x f) (l:K.lookup f=some ⟨oc,od,.func (fnOf x q (QE st) (zT st) (qg st) .none kV doc pm an cdv ct),osl⟩) (c:codeIn K cdv q=true) (k:keepIn K (.ref f)=true) (hb:∀ (kV doc pm:Value) (an:Option Addr) (cdv ct:Value) (us:List Value),us.length=ps.length->bindArgs (fnOf x q (QE st) (zT st) (qg st) .none kV doc pm an cdv ct) ⟨us,[]⟩=pure (ps.zip us)):DfM K C x q st ps f (fnOf x q (QE st) (zT st) (qg st) .none kV doc pm an cdv ct):=⟨qeR l c k,(qeR l c k).binds hb,m⟩
theorem all2 {l:PySem.W.OpenLaw}{w:World}{K:Frag}{h:Heap}{mg:Str->Option Value}{fa:Addr} (X:K.In h) (G:h.Ns mainGlobals mg) (hfa:mg "law"=some (.ref fa)) {a:Ad} (T:Txt K mg a)
   : ∃ fd:FuncData,(∀ (s:Shared) (v:Value),BindsTo s fd ⟨[v],[]⟩ [("_law_script",v)])∧∀ base:Heap,K.In base->base.Ns mainGlobals mg->qhD mg base->qD l.prog w K mg base CX0 12 fa fd ["_law_script"] (qhM K a.t_Lpart):=by
 have e:=hfa.symm.trans T.d_ap.m;obtain⟨oc,od,kV,doc,pm,an,cdv,ct,osl,e2,lk,hcd⟩:=T.d_ap.F.ex;cases e;exact⟨a.fd_ap,fun s v=>by rw[e2];exact .of_eq rfl,fun base _ _ hB=>qk5 T hB⟩
theorem walk {l:PySem.W.OpenLaw}{q:Program}{loose:List Str}{XP:(Str->Option Value)->Heap->Prop}{YP:World->Heap->Prop}{d:DefRec}{K:Params->Frag}{t:Addr} (hn:l.most=some 63) (hdf:d.params.defaults=[])
   (hY:∀ (w:World) (h:Heap),YP w h->(K w.params).In h∧(∀ u∈[t],h.get? u=some (PySem.W.tabObj #[]))∧(∀ u∈[t],isCodeTable h u)∧∀ u∈[t],(K w.params).lookup u=none)
   (F:∀ (w:World) (mg:Str->Option Value) (fa:Addr) (h:Heap),(K w.params).In h->h.Ns mainGlobals mg->mg d.name=some (.ref fa) ->
     ∃ fd:FuncData,(∀ (s:Shared) (u:Value),BindsTo s fd ⟨[u],[]⟩ [("_law_script",u)])∧∀ base:Heap,(K w.params).In base->base.Ns mainGlobals mg->qhD mg base->qD l.prog w (K w.params) mg base CX0 12 fa fd ["_law_script"] (qhM (K w.params) t)) :
   PySem.W.WalkO q loose XP YP l.row.toRowW d [] (fun f vs=>PySem.call f vs) :=
 L2.walk_ofT (ts:=[t]) (n:=63) (k:=12) (x:="_law_script") (CX:=fun _=>CX0) (sp:=fun w=>qhM (K w.params) t) hn (by decide) hdf ⟨rfl,by decide,by decide,rfl⟩ hY F (fun _ _ a ns hl _ hT hS=>⟨a,ns,rfl,hS,hl,⟨#[],hT t List.mem_cons_self,True.intro,.inl rfl⟩,fun _=>rfl⟩) fun _ _ _ _ _ z=>z
end K32
open PySem PySem.W PyProof.Rows
namespace PySem.W.Fast
def tw10026199302926351378:=0
def tw14031628766782933485:=0
def tw3084786913176294013:=0
def tw11979811090660318443:=0
def tw14604034725624334486:=0
def tw14032018722216254036:=0
def tw16424603554267251972:=0
def tw4606486385127948691:=0
def tw4060453710207763825:=0
def tw12137485766481421472:=0
def tw9320946620956273523:=0
def tw15063689076662643283:=0
def tw2157788996801500858:=0
def tw14070895511044107889:=0
def tw5945180712043393796:=0
def tw14865273386116682386:=0
def tw15089379310894734448:=0
def tw6291164330132694109:=0
def tw11672478573147652307:=0
def tw5306197239855657223:=0
def tw15435909895892191234:=0
def tw15122237277029766971:=0
def tw2214252755151333390:=0
def tw2157539385366015858:=0
def tw13030684048179719971:=0
def tw14889630300624235491:=0
def tw6282148656532463501:=0
def tw11387979505988121072:=0
def tw10978767155481698507:=0
def tw16503402364833745817:=0
def tw15803628882531953951:=0
def tw1878744334156730462:=0
def tw10354030774386618235:=0
def tw12895041269780529250:=0
def tw567497238355162586:=0
def tw9065397497192030472:=0
def tw16358206974539504345:=0
def tw12236290823045869768:=0
def tw15170994779362977949:=0
def tw12912811644173617667:=0
def tw8716218147634739714:=0
def tw7030758148389497535:=0
def tw10969228379859554957:=0
def tw18164155463952824689:=0
def tw11835134044620160496:=0
def tw15749549748982472566:=0
def tw2709174309304674192:=0
def tw3053271552178809255:=0
def tw11293555219446046604:=0
def tw13770951499321312349:=0
def tw223170614002305892:=0
def tw7096657875954773848:=0
def tw2440464609182388171:=0
def tw17922874445764174542:=0
def tw11629230866414036743:=0
def tw16043971648955763570:=0
def tw2534931569998629206:=0
def tw12842189289008586311:=0
def tw10870750012775821043:=0
def tw17412675393838024155:=0
def tw1844596919712675245:=0
def tw15450056356252001691:=0
def tw9782705860929926798:=0
def tw9691690486271308820:=0
def tw298186338454453316:=0
def tw9271746283776004843:=0
def tw12511855151678135267:=0
def tw4790960030001723257:=0
def tw12245816633920071860:=0
def tw14127625063507118532:=0
def tw12277633060293388116:=0
def tw15954884365855449653:=0
def tw3170487628117330493:=0
def tw6471412679600699405:=0
def tw7309619586056176470:=0
def tw5967444964720473835:=0
def tw16417881563008120804:=0
def tw8947471323417538041:=0
def tw2826201345705347177:=0
def tw3486866084832235565:=0
def tw8437903900302533092:=0
def tw1812517250480458650:=0
def tw7869434092618416006:=0
def tw3509583479766560189:=0
def tw2123251308826946772:=0
def tw13734275125202059781:=0
def tw2982241144612953266:=0
def tw7369708500699524789:=0
def tw14348052052180625279:=0
def tw15951327137266217247:=0
def tw2344396248718226920:=0
def tw3015313355537893343:=0
def tw13281405915443281863:=0
def tw11888235400912232433:=0
def tw12258323802050044914:=0
def tw8664640989466754008:=0
def tw10601052355795804239:=0
def tw9843220299560348250:=0
def tw9409006646193910869:=0
def tw14088758661983750338:=0
def tw9214015755044463184:=0
def tw5157421326907598338:=0
def tw5776404480623153768:=0
def tw7413348718810610915:=0
def tw201803130356052130:=0
def tw5991422551525646970:=0
def tw7952189494728437856:=0
def tw14471120599213251534:=0
def tw6021903469320195970:=0
def tw3883080146329631613:=0
def tw7034981674763028435:=0
def tw17150959746171400804:=0
def tw188740147268695680:=0
def tw16769980612993144965:=0
def tw17164984423045090663:=0
def tw7936343723143400588:=0
def tw7708221918398460845:=0
def tw3267335642230435511:=0
def tw5659189331339117164:=0
def tw16781679590785958029:=0
def tw4570913418321733417:=0
def tw545947095275481110:=0
def tw9056326650256469268:=0
def tw12942120460177170639:=0
def tw9334296678816632233:=0
def tw16320757535918427232:=0
def tw8736244612443332402:=0
def tw8524649574768695356:=0
def tw15961033729018574950:=0
def tw6489647787090594075:=0
def tw7283306237198039967:=0
def tw4876456199804041404:=0
def tw13974912865787475679:=0
def tw13746613515898556627:=0
def tw7730779087086361627:=0
def tw12766658832444798367:=0
def tw7709606433321179783:=0
def tw7701250196802298274:=0
def tw8235238551662963984:=0
def tw10287173868878667529:=0
def tw10023039293227400709:=0
def tw2278009020013651129:=0
def tw18110831699216788692:=0
def tw11058936574636148022:=0
def tw9372840580928271790:=0
def tw3218890733199317509:=0
def tw14524355408411227598:=0
def tw5366015361743948633:=0
def tw11912029712377279054:=0
def tw12932420069607048422:=0
def tw7765879479947718564:=0
def tw7633032290024314453:=0
def tw16958139574710530563:=0
def tw15872115327139403956:=0
def tw13087830767936468149:=0
def tw13122525597273723068:=0
def tw14813150209782321646:=0
def tw16948017143593521696:=0
def tw8985770854716723263:=0
def tw9942425683881645896:=0
def tw2902238364223298017:=0
def tw10623184847865000492:=0
def tw11207982165006848219:=0
def tw16498227283589411519:=0
def tw9189420752569756733:=0
def tw15273445707975829845:=0
def tw5929037008590181020:=0
def tw9939009618428011305:=0
def tw17993632066862059941:=0
def tw3433077218898795613:=0
def tw17135023421195127490:=0
def tw3953754903711396653:=0
def tw10691131063310680296:=0
def tw1083090334084492782:=0
def tw12943900509881656850:=0
def tw1309327694871854564:=0
def tw7421802934197243184:=0
def tw1922120392011810884:=0
def tw16835785666764163737:=0
def tw9549451996912185499:=0
def tw13628052496461314401:=0
def tw11945072241499017702:=0
def tw11235274171802691862:=0
def tw11985302850783941179:=0
def tw2857339966518079340:=0
def tw7438925638894003576:=0
def tw2377943228134895338:=0
def tw7882822871903502461:=0
def tw13724525730841881392:=0
def tw639706618950254562:=0
def tw17912725926143467522:=0
def tw4909750867482370605:=0
def tw17836884067502571936:=0
def tw9352527537967488796:=0
def tw17504752373266460870:=0
def tw16059651258595767023:=0
def tw34421924103211622:=0
def tw7900479037538607212:=0
def tw5267595612035636616:=0
def tw1879199153242712202:=0
def tw15455229308149188427:=0
def tw9874622922784535885:=0
def tw16648674663776386981:=0
def tw14974213314679790676:=0
def tw8192527476196671611:=0
def tw5768442592674089621:=0
def tw5572593224878225887:=0
def tw16033945749347377680:=0
def tw16836489896713657572:=0
def tw12666277300352427509:=0
def tw15294536298224543183:=0
def tw16087406407055206428:=0
def tw2805760536453136481:=0
def tw342660977030705220:=0
def tw15188106197782750447:=0
def tw9197967770047854794:=0
def tw6281308042802674932:=0
def tw13396764269002458789:=0
def tw16571003142277648571:=0
def tw10419659524026283559:=0
def tw17501200098590055125:=0
def tw5915093330327640038:=0
def tw2005931541128421645:=0
def tw12061141993907941188:=0
def tw4769139650441925572:=0
def tw6069959611764979146:=0
def tw5110458517535224461:=0
def tw7132295356187022059:=0
def tw11352438458293743792:=0
def tw3772916184691191539:=0
def tw17620898839484174556:=0
def tw16670209256753221205:=0
def tw17784340426510309665:=0
def tw9867833411908195462:=0
def tw464152871185015962:=0
def tw14339805651216586842:=0
def tw12434547440667261169:=0
def tw8334080397073284223:=0
def tw15777948154573163424:=0
def tw11842559224733850698:=0
def tw11702669335403903532:=0
def tw11080231945202144475:=0
def tw6461129531690765672:=0
def tw2013456063074851330:=0
def tw9076116971175843862:=0
def tw10781331932482408263:=0
def tw10465966215344838523:=0
def tw4215625303621627012:=0
def tw6548090815135612440:=0
def tw4954368237215907265:=0
end PySem.W.Fast
set_option maxHeartbeats 0 in
theorem PySem.Challenge.cw_foldlog_k32_joint_entries_holds : PySem.Challenge.rw_foldlog_k32_joint_entries.Holds := by
 w_on;o_law;km_head;(case hw=>w_witness2)
 k_fill
 refine K32.walk (t:=759) (l:=PySem.Challenge.rw_foldlog_k32_joint_entries) rfl rfl (fun w h Y=>⟨PySem.W.km_in_of Y,PySem.W.km_tabs_of Y,fun u m=>by cases List.mem_singleton.mp m;exact((PySem.W.codeHd_of_K (c:=763) (PySem.W.km_in_of Y) (by kernel_rfl)).tab (PySem.W.km_tabs_of Y 759 (List.mem_singleton.mpr rfl))).isCodeTable,fun u m=>by cases List.mem_singleton.mp m;kernel_rfl⟩) ?F
 case F =>
   intro w mg fa h KX G hmg;refine' K32.all2 KX G hmg (a:=⟨763,759,_,_,_,_,_,_,_,_,_,_,_,_,_,_,_,_,_,_,_,_,_,_,_,_,_,_,_,_,_,_,_,_,_,_,_,_,_,_,_,_,_,_,_,_,_,_,_,_,_,_,_,_,_,_,_,_,_,_,_,_,_,_,_,_,_,_,_,_,_,_,_,_,_,_,_,_,_,_,_,_,_,_,_,_,_,_,_,_,_,_,_,_,_,_,_,_,_,_,_,_,_,_,_,_,_,_,_,_,_,_,_,_,_,_,_,_,_,_,_,_,_,_,_,_,_,_,_,_,_,_,_,_,_,_,_,_,_,_,_,_,_,_,_,_,_,_,_,_,_,_,_,_,_,_,_,_,_,_,_,_,_,_,_,_,_,_,_⟩) ?T
   case T =>
     constructor
     all_goals try dsimp only
     all_goals try refine' PySem.W.mg_of KX G ?_
     all_goals try refine' PySem.W.mg_none_of KX G ?_
     all_goals try refine' ⟨_,PySem.W.mg_of KX G ?_⟩
     all_goals try k_is
     all_goals try refine' K32.mkDf KX G ?_ ?_ ?_ ?_ (fun _ _ _ _ _ _=>by first|exact K32.len_0 rfl|exact K32.len_1 fun _=>rfl|exact K32.len_2 fun _ _=>rfl|exact K32.len_3 fun _ _ _=>rfl|exact K32.len_4 fun _ _ _ _=>rfl|exact K32.len_5 fun _ _ _ _ _=>rfl)
     all_goals try refine' K32.mkDm ⟨?_,?_,?_⟩ ?_ ?_ ?_ (fun _ _ _ _ _ _=>by first|exact K32.len_0 rfl|exact K32.len_1 fun _=>rfl|exact K32.len_2 fun _ _=>rfl|exact K32.len_3 fun _ _ _=>rfl|exact K32.len_4 fun _ _ _ _=>rfl|exact K32.len_5 fun _ _ _ _ _=>rfl)
     all_goals try refine' L2.xIsa_of ?_ ?_ ?_
     all_goals try refine' L2.XMro.of ?_ ?_
     all_goals try refine' L2.xIn_of ?_ ?_
     all_goals try refine' ⟨⟨L2.xIn_of ?_ ?_,?_,?_,?_,?_,?_,?_⟩,?_,?_,?_⟩
     all_goals try refine' ⟨⟨?_,?_,?_,?_⟩,?_,?_,?_,?_⟩
     all_goals try refine' ⟨?_,?_,?_,?_⟩
     all_goals try refine' ⟨?_,?_,?_⟩
     all_goals try refine' ⟨?_,?_⟩
     all_goals try (first|k_is|rfl)
     all_goals try (first|k_is|rfl)
     all_goals try (first|k_is|rfl)
     all_goals decide
