import PyProof.Rows.All
import OpenK.KLine
import Wide.FinOn
import KE.KSortTup
import KE.KDictOf
import KE.LcSums
import KE.KIntText
import KE.KNestM
import KE.KRevSl
import KE.KFromBytes
import KE.KItemsList
import KE.KIsAll
import KE.KEqDict
import KE.KLam
import KE.KRevIter
import KE.KMinKey
import PySem.Challenge.RW_foldlog_k45_lows_raised
set_option maxHeartbeats 4000000
set_option Elab.async false
set_option linter.all false
set_option maxRecDepth 100000
namespace L2
open PySem PySem.Spec PyProof.Rows
open PySem.W (instObj methodObj Frag lookIn plainGet hasDictIn findIn handedIn plainGet_of isFn plainOver takerIn makesIn emptyDict keepIn kia_one kitx_list kitx_dict callWith_K fnOf)
abbrev Key:=Sum Int Str
def jR:Key->Value->Bool
 | .inl k,v=>Value.isInt k v
 | .inr x,v=>Value.isStrOf x v
def qe3 (w:World):Key->Int
 | .inl k=>hashInt k
 | .inr x=>hashStr w x
theorem qI:∀ {k:Key}{v:Value},jR k v=true->(∃ i t,k=Sum.inl i∧v=Value.int i t)∨(∃ x t,k=Sum.inr x∧v=Value.str x t)
 | .inl i,v,h=>by
   obtain⟨t,e⟩:=Value.isInt_shape (k:=i) (v:=v) h;exact .inl ⟨i,t,rfl,e⟩
 | .inr x,v,h=>by
   obtain⟨t,e⟩:=Value.isStrOf_shape (x:=x) (v:=v) h;exact .inr ⟨x,t,rfl,e⟩
theorem qaw (i:Int) (t:Tok):jR (.inl i) (.int i t)=true:=by simp[jR,Value.isInt]
theorem qav (x:Str) (t:Tok):jR (.inr x) (.str x t)=true:=by simp[jR,Value.isStrOf]
theorem qdz (a b:Int):decide ((Sum.inl a:Key)=Sum.inl b)=(a == b):=by
 by_cases e:a=b
 · subst e;simp
 · have h:¬ (Sum.inl a:Key)=Sum.inl b:=fun q=>e (Sum.inl.inj q);rw[decide_eq_false h];exact(beq_eq_false_iff_ne.mpr e).symm
theorem qdw (a b:Str):decide ((Sum.inr a:Key)=Sum.inr b)=decide (a=b):=by
 by_cases e:a=b
 · subst e;simp
 · have h:¬ (Sum.inr a:Key)=Sum.inr b:=fun q=>e (Sum.inr.inj q);rw[decide_eq_false h,decide_eq_false e]
theorem qdy (a:Int) (b:Str):decide ((Sum.inl a:Key)=Sum.inr b)=false:=decide_eq_false (fun q=>nomatch q)
theorem qdx (a:Str) (b:Int):decide ((Sum.inr a:Key)=Sum.inl b)=false:=decide_eq_false (fun q=>nomatch q)
def qA (prog:Program) (w:World):PySem.KeyKind prog w Key where
 is:=jR
 hash:=qe3 w
 inj:=fun v a b ha hb=>by
   rcases qI ha with ⟨i,t,rfl,rfl⟩|⟨x,t,rfl,rfl⟩
   · rcases qI hb with ⟨j,u,rfl,e⟩|⟨y,u,rfl,e⟩
     · injection e with e1 _;rw[e1]
     · exact nomatch e
   · rcases qI hb with ⟨j,u,rfl,e⟩|⟨y,u,rfl,e⟩
     · exact nomatch e
     · injection e with e1 _;rw[e1]
 byValue:=fun k v h=>by
   rcases qI h with ⟨i,t,rfl,rfl⟩|⟨x,t,rfl,rfl⟩<;>rfl
 pyHash:=fun hv h=>by
   rcases qI hv with ⟨i,t,rfl,rfl⟩|⟨x,t,rfl,rfl⟩
   · exact wpAny_pyHash_int h
   · exact wpAny_pyHash_str h
 eqBool:=fun hu hv h=>by
   rcases qI hu with ⟨i,t,rfl,rfl⟩|⟨x,t,rfl,rfl⟩
   · rcases qI hv with ⟨j,u,rfl,rfl⟩|⟨y,u,rfl,rfl⟩
     · rw[qdz]at h;exact wpAny_eqBool_int h
     · rw[qdy]at h;exact SeqAt.EqAt.int_str i t y u _ _ _ _ h
   · rcases qI hv with ⟨j,u,rfl,rfl⟩|⟨y,u,rfl,rfl⟩
     · rw[qdx]at h;exact SeqAt.EqAt.str_int x t j u _ _ _ _ h
     · rw[qdw]at h;exact wpAny_eqBool_str h
 «strs»:=fun k x t v h=>by
   rcases qI h with ⟨i,u,rfl,e⟩|⟨y,u,rfl,e⟩
   · exact nomatch e
   · injection e with e1 _;subst e1;cases v<;>rfl
theorem jP (prog:Program) (w:World) (i:Int) (t:Tok):(qA prog w).is (.inl i) (.int i t)=true:=qaw i t
theorem jO (prog:Program) (w:World) (x:Str) (t:Tok):(qA prog w).is (.inr x) (.str x t)=true:=qav x t
inductive V where
 | non|bl (b:Bool)|int (i:Int)|str (x:Str)|byt (b:Array UInt8)|flt (b:UInt64)|ref (a:Addr)|ty (n:String)
 deriving DecidableEq
def RelV:V->Value->Prop
 | .non,u=>u=Value.none
 | .bl b,u=>u=Value.bool b
 | .int i,u=>∃ t,u=Value.int i t
 | .str x,u=>∃ t,u=Value.str x t
 | .byt b,u=>∃ t,u=Value.bytes b t
 | .flt b,u=>∃ t,u=Value.float b t
 | .ref a,u=>u=Value.ref a
 | .ty n,u=>u=Value.type n
abbrev Vals:List V->List Value->Prop:=Paired RelV
theorem Vals.length {xs:List V}{us:List Value} (r:Vals xs us):xs.length=us.length:=Paired.length r
theorem Vals.get:∀ {xs:List V}{us:List Value}{i:Nat}{x:V},Vals xs us->xs[i]?=some x->∃ u,us[i]?=some u∧RelV x u
 | _,_,_,_,.nil,e=>by simp at e
 | _,_,0,_,.cons r _,e=>by simp at e;subst e;exact⟨_,rfl,r⟩
 | _,_,i+1,x,.cons _ t,e=>by
   obtain⟨u,h1,h2⟩:=Vals.get (i:=i) (x:=x) t (by simpa using e);exact⟨u,by simpa using h1,h2⟩
theorem Vals.set {x:V}{u:Value} (r:RelV x u):∀ {xs:List V}{us:List Value} (i:Nat),Vals xs us->Vals (xs.set i x) (us.set i u)
 | _,_,_,.nil=>.nil
 | _,_,0,.cons _ t=>.cons r t
 | _,_,i+1,.cons q t=>.cons q (Vals.set r i t)
theorem Vals.append:∀ {xs ys:List V}{us ws:List Value},Vals xs us->Vals ys ws->Vals (xs++ys) (us++ws)
 | _,_,_,_,.nil,s=>s
 | _,_,_,_,.cons r t,s=>.cons r (Vals.append t s)
def RelO:Option V->Option Value->Prop
 | some v,some u=>RelV v u
 | none,none=>True
 | _,_=>False
def KV {κ:Type}:List (κ×V)->List (κ×Value)->Prop:=Paired fun (p:κ×V) (q:κ×Value)=>p.1=q.1∧RelV p.2 q.2
def kV:Key->V
 | .inl i=>.int i
 | .inr x=>.str x
inductive HO where
   | lst (xs:List V)
   | tup (xs:List V)
   | dK (kvs:List (Key×V))|dT (kvs:List (List Key×V))
   | set (S:Int->Bool) (n:Nat)
   | ins (C dx:Addr) (fs:List (Str×V))
   | own (x:Addr)
   | xd (fs:List (Str×V))
   | met (f x:Addr)
   | rng (lo hi:Int)
   | frz (o:Obj) (u:HO)
   | tbl (ps:Array Value)
   | ext (φ:Heap->Prop)
abbrev Hp:=Addr->Option HO
def upd (H:Hp) (a:Addr) (o:HO):Hp:=fun b=>if b=a then some o else H b
theorem upd_same {H:Hp}{a:Addr}{o:HO}:upd H a o a=some o:=by unfold upd;rw[if_pos rfl]
theorem qf {H:Hp}{a b:Addr}{o:HO} (h:b≠a):upd H a o b=H b:=by unfold upd;rw[if_neg h]
theorem qO {H:Hp}{a b:Addr}{o u:HO} (h:H a=some o) (h':H b=some u) (d:o≠u):a≠b:=by
 intro e;subst e;rw[h]at h';exact d (Option.some.inj h')
theorem qd {H:Hp}{a b:Addr}{o:HO} (h:H a=some o) (h':H b=none):a≠b:=by
 intro e;subst e;rw[h]at h';cases h'
section
variable (P:Program) (w:World)
def ObjOk (H:Hp) (h:Heap) (a:Addr):HO->Prop
 | .lst xs=>xs.length≤sizeLine∧∃ (its:List Value) (n:Nat),Vals xs its∧h.get? a=some { cls:=.type "list",data:=.seq its.toArray n }
 | .tup xs=>xs.length≤sizeLine∧∃ its:List Value,Vals xs its∧IsTup h a its.toArray
 | .dK kvs=>kvs.length≤sizeLine∧(a == sysModules)=false∧∃ vs,KV kvs vs∧h.DictOf (qA P w) a vs
 | .dT kvs=>kvs.length≤sizeLine∧(a == sysModules)=false∧∃ xs:List (List Key×Addr×Value),
     Paired (fun (p:List Key×V) (q:List Key×Addr×Value)=>p.1=q.1∧H q.2.1=some (.tup (p.1.map kV))∧RelV p.2 q.2.2) kvs xs ∧
     ∃ o es ep,h.get? a=some o∧o.ExactDict∧o.data=.dict es ep∧es.toList=xs.map (entryOfKey (tupleKind (qA P w)))∧(xs.map (·.1)).Nodup
 | .set S n=>h.SetOf (intKind P w) a S n
 | .ins C dx fs=>H dx=some (.own a)∧fs.length≤1000∧dx≠a∧h.get? a=some (instObj C dx) ∧
     ∃ mA,h.Ns1 dx mA∧(∀ f,RelO (fs.lookup f) (mA f))∧PySem.Within mA (fs.map (·.1))
 | .own _=>∃ o,h.get? a=some o
 | .xd fs=>∃ mA,h.Ns1 a mA∧∀ f,RelO (fs.lookup f) (mA f)
 | .rng lo hi=>∃ t u v,h.get? a=some { cls:=.type "range",data:=.fields #[.int lo t,.int hi u,.int 1 v] }
 | .frz o u=>h.get? a=some o∧ObjOk H h a u
 | .tbl ps=>h.get? a=some { cls:=.none,data:=.fields ps }
 | .met f x=>h.get? a=some (methodObj (.ref f) (.ref x))
 | .ext φ=>φ h∧(∃ o,h.get? a=some o)∧∀ h1 h2:Heap,φ h1->(∀ o,h1.get? a=some o->h2.get? a=some o)->φ h2
def HOk (H:Hp) (h:Heap):Prop:=∀ a o,H a=some o->ObjOk P w H h a o
end
section
variable {P:Program}{w:World}{H H':Hp}{h h':Heap}{a:Addr}{o:HO}
theorem ObjOk.lt (x:ObjOk P w H h a o):a < h.objs.size:=by
 cases o with
 | lst xs=>obtain⟨_,_,_,_,e⟩:=x;exact Heap.lt_size e
 | tup xs=>obtain⟨_,_,_,p⟩:=x;exact p.lt
 | dK kvs=>obtain⟨_,_,_,_,o,_,_,e,_⟩:=x;exact Heap.lt_size e
 | dT kvs=>obtain⟨_,_,_,_,o,_,_,e,_⟩:=x;exact Heap.lt_size e
 | set S n=>obtain⟨o,_,_,_,e,_⟩:=x;exact Heap.lt_size e
 | ins C dx fs=>obtain⟨_,_,_,e,_⟩:=x;exact Heap.lt_size e
 | own y=>obtain⟨_,e⟩:=x;exact Heap.lt_size e
 | xd fs=>obtain⟨_,⟨_,_,_,e,_⟩,_⟩:=x;exact Heap.lt_size e
 | rng lo hi=>obtain⟨_,_,_,e⟩:=x;exact Heap.lt_size e
 | frz ob u=>obtain⟨e,_⟩:=x;exact Heap.lt_size e
 | tbl ps=>exact Heap.lt_size (show h.get? a=some _ from x)
 | met f y=>exact Heap.lt_size (show h.get? a=some _ from x)
 | ext φ=>obtain⟨_,⟨_,e⟩,_⟩:=x;exact Heap.lt_size e
theorem Paired.mapP {α β:Type}{F G:α->β->Prop}:∀ {l₁:List α}{l₂:List β},Paired F l₁ l₂->(∀ a b,F a b->G a b)->Paired G l₁ l₂
 | _,_,.nil,_=>.nil
 | _,_,.cons r t,f=>.cons (f _ _ r) (Paired.mapP t f)
theorem ObjOk.stay (x:ObjOk P w H h a o) (k:∀ b u,(b=a∨H b=some (.own a))->h.get? b=some u->h'.get? b=some u)
   (ho:∀ b,H b=some (.own a)->H' b=some (.own a)) (ht:∀ b xs,H b=some (.tup xs)->H' b=some (.tup xs)):ObjOk P w H' h' a o:=by
 induction o with
 | lst xs=>obtain⟨z,its,n,r,e⟩:=x;exact⟨z,its,n,r,k _ _ (.inl rfl) e⟩
 | tup xs=>obtain⟨z,its,r,ob,e,c⟩:=x;exact⟨z,its,r,ob,k _ _ (.inl rfl) e,c⟩
 | dK kvs=>obtain⟨z,y,vs,r,ob,es,ep,e,c⟩:=x;exact⟨z,y,vs,r,ob,es,ep,k _ _ (.inl rfl) e,c⟩
 | dT kvs =>
   obtain⟨z,y,xs,r,ob,es,ep,e,c⟩:=x;exact⟨z,y,xs,Paired.mapP r fun p q z=>⟨z.1,ht _ _ z.2.1,z.2.2⟩,ob,es,ep,k _ _ (.inl rfl) e,c⟩
 | set S n=>obtain⟨ob,es,ep,t,e,c⟩:=x;exact⟨ob,es,ep,t,k _ _ (.inl rfl) e,c⟩
 | ins C dx fs =>
   obtain⟨d,z,ne,e,mA,⟨od,es,ep,e2,c⟩,r⟩:=x;exact⟨ho _ d,z,ne,k _ _ (.inl rfl) e,mA,⟨od,es,ep,k _ _ (.inr d) e2,c⟩,r⟩
 | own y=>obtain⟨ob,e⟩:=x;exact⟨ob,k _ _ (.inl rfl) e⟩
 | xd fs=>obtain⟨mA,⟨od,es,ep,e,c⟩,r⟩:=x;exact⟨mA,⟨od,es,ep,k _ _ (.inl rfl) e,c⟩,r⟩
 | rng lo hi=>obtain⟨t,u,v,e⟩:=x;exact⟨t,u,v,k _ _ (.inl rfl) e⟩
 | frz ob u ih=>obtain⟨e,q⟩:=x;exact⟨k _ _ (.inl rfl) e,ih q⟩
 | tbl ps =>
   have e:h.get? a=some { cls:=.none,data:=.fields ps }:=x;show h'.get? a=some { cls:=.none,data:=.fields ps };exact k a _ (.inl rfl) e
 | met f y =>
   have e:h.get? a=some (methodObj (.ref f) (.ref y)):=x;show h'.get? a=some (methodObj (.ref f) (.ref y));exact k a _ (.inl rfl) e
 | ext φ=>obtain⟨p,⟨o,e⟩,st⟩:=x;exact⟨st _ _ p fun o q=>k _ _ (.inl rfl) q,⟨o,k _ _ (.inl rfl) e⟩,st⟩
theorem HOk.lt (x:HOk P w H h) (e:H a=some o):a < h.objs.size:=(x a o e).lt
theorem HOk.fresh (x:HOk P w H h) (e:h.objs.size≤a):H a=none:=by
 cases q:H a with
 | none=>rfl
 | some u=>exact absurd (Nat.lt_of_lt_of_le (x.lt q) e) (Nat.lt_irrefl _)
theorem HOk.kept (x:HOk P w H h) (k:∀ b u,h.get? b=some u->h'.get? b=some u):HOk P w H h':=fun a o e =>
 (x a o e).stay (fun b u _ q=>k b u q) (fun _ q=>q) fun _ _ q=>q
theorem HOk.laid (x:HOk P w H h) (k:∀ b u,h.get? b=some u->h'.get? b=some u) (hp:h.objs.size≤a) (new:ObjOk P w (upd H a o) h' a o):HOk P w (upd H a o) h':=fun b u e=>by
 have hn:=x.fresh hp;by_cases hb:b=a
 · subst hb;rw[upd_same]at e;cases e;exact new
 · rw[qf hb]at e;exact(x b u e).stay (fun c v _ q=>k c v q) (fun c q=>by rw[qf (qd q hn)];exact q) fun c xs q=>by rw[qf (qd q hn)];exact q
end
def Rd (H:Hp) (a:Addr) (u:HO):Prop:=H a=some u∨∃ o,H a=some (.frz o u)
theorem Rd.ok {P:Program}{w:World}{H:Hp}{h:Heap}{a:Addr}{u:HO} (r:Rd H a u) (x:HOk P w H h):ObjOk P w H h a u:=by
 rcases r with r|⟨o,r⟩
 · exact x a u r
 · obtain⟨_,q⟩:=x a _ r;exact q
def Mut:Option HO->Prop
 | some (.lst _)=>True
 | some (.dK _)=>True
 | some (.dT _)=>True
 | some (.set _ _)=>True
 | some (.ins _ _ _)=>True
 | some (.ext _)=>True
 | _=>False
section
variable {P:Program}{w:World}{H:Hp}{h h':Heap}{x e:Addr}{o':HO}
theorem HOk.write (ok:HOk P w H h) (mu:Mut (H x)) (he:e=x∨H e=some (.own x)) (k:∀ b u,b≠e->h.get? b=some u->h'.get? b=some u) (heo:∃ u,h'.get? e=some u)
   (new:ObjOk P w (upd H x o') h' x o'):HOk P w (upd H x o') h':=fun b u q=>by
 have nown:∀ c y,H c=some (.own y)->c≠x:=fun c y r z=>by subst z;rw[r]at mu;exact mu
 have ntup:∀ c xs,H c=some (.tup xs)->c≠x:=fun c xs r z=>by subst z;rw[r]at mu;exact mu
 by_cases hb:b=x
 · subst hb;rw[upd_same]at q;cases q;exact new
 · rw[qf hb]at q;by_cases hbe:b=e
   · have q':H b=some (.own x):=by
       rcases he with z|z
       · exact absurd (hbe.trans z) hb
       · rw[hbe];exact z
     rw[q]at q';cases q';obtain⟨v,hv⟩:=heo;exact⟨v,by rw[hbe];exact hv⟩
   · refine(ok b u q).stay (fun c v hc r=>k c v ?_ r) (fun c r=>by rw[qf (nown c b r)];exact r) fun c xs r=>by rw[qf (ntup c xs r)];exact r
     rcases hc with rfl|hc
     · exact hbe
     · rintro rfl;rcases he with z|z
       · exact nown c b hc z
       · rw[hc]at z;cases z;exact hb rfl
end
structure Un (fs ex:List Addr) (H H':Hp) (h h':Heap):Prop where
 keep:∀ b o,h.get? b=some o->H b=none->b∉fs->b∉ex->h'.get? b=some o
 slot:∀ b o,h.get? b=some o->H b=none->b∈fs->b∉ex->∃ sl,h'.get? b=some { o with slots:=sl }
 free:∀ b o,h.get? b=some o->H b=none->b∉ex->H' b=none
 there:∀ b o,h.get? b=some o->b∉ex->∃ o',h'.get? b=some o'
 tups:∀ b xs,H b=some (.tup xs)->H' b=some (.tup xs)
 frzs:∀ b o u,H b=some (.frz o u)->H' b=some (.frz o u)
 tbls:∀ b ps,H b=some (.tbl ps)->∃ more,H' b=some (.tbl (ps++more))
section
variable {fs fs' ex ex':List Addr}{H H1 H2:Hp}{h h1 h2 h':Heap}{a x e:Addr}{o:HO}
theorem Un.any (u:Un fs ex H H1 h h1) {b:Addr}{ob:Obj} (q:h.get? b=some ob) (n:H b=none) (hx:b∉ex):∃ sl,h1.get? b=some { ob with slots:=sl }:=by
 by_cases hb:b∈fs
 · exact u.slot b ob q n hb hx
 · exact⟨ob.slots,u.keep b ob q n hb hx⟩
theorem Un.kept (k:∀ b u,h.get? b=some u->h'.get? b=some u):Un fs ex H H h h' :=
 ⟨fun b ob q _ _ _=>k b ob q,fun b ob q _ _ _=>⟨ob.slots,k b ob q⟩,fun _ _ _ n _=>n,fun b ob q _=>⟨ob,k b ob q⟩,fun _ _ q=>q,fun _ _ _ q=>q,fun _ ps q=>⟨#[],by rw[q];simp⟩⟩
theorem Un.refl:Un fs ex H H h h:=Un.kept fun _ _ q=>q
theorem Un.laid (k:∀ b u,h.get? b=some u->h'.get? b=some u) (hp:h.objs.size≤a) (hn:H a=none):Un fs ex H (upd H a o) h h' where
 keep:=fun b u q _ _ _=>k b u q
 slot:=fun b u q _ _ _=>⟨u.slots,k b u q⟩
 free:=fun b u q n _=>by rw[qf (Nat.ne_of_lt (Nat.lt_of_lt_of_le (Heap.lt_size q) hp))];exact n
 there:=fun b u q _=>⟨u,k b u q⟩
 tups:=fun b xs q=>by rw[qf (qd q hn)];exact q
 frzs:=fun b u xs q=>by rw[qf (qd q hn)];exact q
 tbls:=fun b ps q=>⟨#[],by rw[qf (qd q hn),q];simp⟩
theorem Un.write (mu:Mut (H x)) (he:e=x∨H e=some (.own x)) (k:∀ b u,b≠e->h.get? b=some u->h'.get? b=some u) (heo:∃ u,h'.get? e=some u):Un fs ex H (upd H x o) h h':=by
 have hx:∀ b,H b=none->b≠x:=fun b n z=>by subst z;rw[n]at mu;exact mu
 have hb:∀ b,H b=none->b≠e:=fun b n z=>by
   subst z;rcases he with r|r
   · exact hx b n r
   · rw[n]at r;cases r
 have hm:∀ b u,H b=some u->¬ Mut (some u)->b≠x:=fun b u q nm z=>by subst z;rw[q]at mu;exact nm mu
 refine⟨fun b u q n _ _=>k b u (hb b n) q,fun b u q n _ _=>⟨u.slots,k b u (hb b n) q⟩,fun b u q n _=>by rw[qf (hx b n)];exact n,fun b u q _=>?_,
   fun b xs q=>by rw[qf (hm b _ q fun z=>z)];exact q,fun b u xs q=>by rw[qf (hm b _ q fun z=>z)];exact q,fun b ps q=>⟨#[],by rw[qf (hm b _ q fun z=>z),q];simp⟩⟩
 by_cases hbe:b=e
 · subst hbe;exact heo
 · exact⟨u,k b u hbe q⟩
end
def trk (h:Heap) (H:Hp):List Addr:=(List.range h.objs.size).filter fun a=>(H a).isSome
def qa2 (h:Heap) (H:Hp):Heap:=PySem.W.hideAll h (trk h H)
theorem qaD (h:Heap) (H:Hp):(qa2 h H).objs.size=h.objs.size:=PySem.W.hideAll_size _ _
theorem qbz {h:Heap}{H:Hp}{b:Addr}{o:Obj} (e:h.get? b=some o) (n:H b=none):(qa2 h H).get? b=some o :=
 PySem.W.hideAll_get _ e fun hm=>by
   have q:(H b).isSome=true:=(List.mem_filter.mp hm).2;rw[n]at q;simp at q
theorem qcG {h:Heap}{H:Hp}{b:Addr}{o:Obj} (e:(qa2 h H).get? b=some o):h.get? b=some o∧H b=none:=by
 have e':h.get? b=some o:=PySem.W.of_hideAll (trk h H) e;refine⟨e',?_⟩
 cases q:H b with
 | none=>rfl
 | some x =>
   have hm:b∈trk h H:=List.mem_filter.mpr ⟨List.mem_range.mpr (Heap.lt_size e'),by simp[q]⟩;have z:(qa2 h H).get? b=none:=PySem.W.hideAll_none (trk h H) hm;rw[z]at e;cases e
structure Mod (K:Frag) (mg:Str->Option Value) (base:Heap):Prop where
 kin:K.In base
 glob:base.Ns mainGlobals mg
 blt:∃ mb,base.Ns builtinsNs mb∧∀ x:Str,x≠"__name__"->mb x=bootBuiltins x
 nolimit:base.NoLimit
structure Cx where
 prog:Program
 w:World
 K:Frag
 mg:Str->Option Value
 base:Heap
 A:Around
 N:List Str
 s₀:Shared
 H₀:Hp
 env:Env
 outer:List Env
 stack:List Env
 ex:List Addr
 fn:Str->Bool
 calm:Bool
 pn:List (Addr×Obj)
 xe:Value->Shared->Prop
def frs (l:List Env):List Addr:=l.filterMap (·.frame)
abbrev Cx.fs (X:Cx):List Addr:=frs X.outer
def Vis (sc:Scope) (x:Str):Prop:=sc.names.lookup x=some .local∨sc.names.lookup x=some .cell∨sc.names.lookup x=some .free
def Loc (sc:Scope) (x:Str):Prop:=sc.names.lookup x=some .local∨sc.names.lookup x=some .cell
def qe9 (env:Env) (h:Heap) (m:Str->Option Value) (x:Str) (u:Value):Prop :=
 (env.kindOf x=some .local∧m x=some u)∨((env.kindOf x=some .cell∨env.kindOf x=some .free)∧∃ c,env.cells.lookup x=some c∧h.IsCell c (some u))
structure Cx.Ok (X:Cx):Prop where
 mod:Mod X.K X.mg X.base
 kind:X.env.scope.kind=.function
 glob:X.env.globals=mainGlobals
 blt:X.env.builtins=builtinsNs
 above:X.s₀.heap.objs.size≤X.env.locals
 inj:∀ x y c,X.env.cells.lookup x=some c->X.env.cells.lookup y=some c->x=y
 has:∀ x,(X.env.kindOf x=some .cell∨X.env.kindOf x=some .free)->∃ c,X.env.cells.lookup x=some c
 cab:∀ x c,X.fn x=true->X.env.cells.lookup x=some c->X.s₀.heap.objs.size≤c
 hd:X.calm=true->X.A.handled=none
 frames:X.A.frames=some X.stack
 stk:X.stack=X.outer∨(X.stack=X.env::X.outer∧X.env.frame=some X.env.locals)
 exf:∀ b∈X.ex,b≠X.env.locals∧∀ x c,X.env.cells.lookup x=some c->c≠b
 bs:∀ b o,X.base.get? b=some o->X.s₀.heap.get? b=some o∧X.H₀ b=none
 bsz:X.base.objs.size≤X.s₀.heap.objs.size
 noex:∀ b o,X.base.get? b=some o->b∉X.ex
 exfs:∀ b∈X.ex,b∉X.fs
 funs:X.s₀.heap.FunFrames X.base X.outer
 frf:∀ b∈X.fs,X.H₀ b=none
structure Inv (X:Cx) (pins:List (Addr×Obj)) (σ:List (Option V)) (H:Hp) (s:Shared):Prop where
 ok:X.Ok
 os:s.os=X.s₀.os
 bare:AllBare s.gens
 base:Un X.fs X.ex X.H₀ H X.s₀.heap s.heap
 loc:∃ m,s.heap.Ns X.env.locals m∧∀ (i:Nat) (x:Str) (v:V),X.N[i]?=some x->σ[i]?=some (some v)->Vis X.env.scope x->∃ u,RelV v u∧qe9 X.env s.heap m x u
 cell:∀ x c,X.env.cells.lookup x=some c->∃ v,s.heap.IsCell c v
 free:H X.env.locals=none
 freeC:∀ x c,X.env.cells.lookup x=some c->H c=none
 pin:∀ p∈X.pn++pins,s.heap.get? p.1=some p.2∧H p.1=none∧p.1≠X.env.locals∧p.1∉X.fs∧∀ v,p.2.data≠.cell v
 hok:HOk X.prog X.w H s.heap
 len:σ.length=X.N.length
section
variable {X:Cx}{pins:List (Addr×Obj)}{σ:List (Option V)}{H H':Hp}{s:Shared}{h':Heap}
theorem Cx.Ok.nofr (ok:X.Ok) {b:Addr}{o:Obj} (e:X.base.get? b=some o):b∉X.fs:=fun hb=>by
 have:=(ok.funs.mem hb).1
 rw[e]at this;cases this
theorem Inv.bs (I:Inv X pins σ H s):∀ b o,X.base.get? b=some o->s.heap.get? b=some o∧H b=none:=fun b o e =>
 ⟨I.base.keep b o (I.ok.bs b o e).1 (I.ok.bs b o e).2 (I.ok.nofr e) (I.ok.noex b o e),I.base.free b o (I.ok.bs b o e).1 (I.ok.bs b o e).2 (I.ok.noex b o e)⟩
theorem Inv.bk (I:Inv X pins σ H s):∀ b o,X.base.get? b=some o->s.heap.get? b=some o:=fun b o e=>(I.bs b o e).1
theorem Inv.mod (I:Inv X pins σ H s):Mod X.K X.mg X.base:=I.ok.mod
theorem Inv.kIn (I:Inv X pins σ H s):X.K.In s.heap:=I.ok.mod.kin.keeps I.bk
theorem Inv.fr (I:Inv X pins σ H s):∃ m,Fr X.base X.env.locals s.heap m :=
 let ⟨m,hn,_⟩:=I.loc
 ⟨m,hn,I.bk,Nat.le_trans I.ok.bsz I.ok.above⟩
theorem Inv.lt (I:Inv X pins σ H s):X.env.locals < s.heap.objs.size:=let ⟨_,hn,_⟩:=I.loc;hn.lt
theorem Inv.sz (I:Inv X pins σ H s):X.s₀.heap.objs.size≤s.heap.objs.size:=Nat.le_trans I.ok.above (Nat.le_of_lt I.lt)
theorem Inv.nofs (I:Inv X pins σ H s) {a:Addr} (h:s.heap.objs.size≤a):a∉X.fs:=fun hb=>by
 obtain⟨_,o,ho,_⟩:=I.ok.funs.mem hb;exact absurd (Nat.lt_of_lt_of_le (Heap.lt_size ho) (Nat.le_trans I.sz h)) (Nat.lt_irrefl _)
theorem Inv.cne (I:Inv X pins σ H s):∀ x c,X.env.cells.lookup x=some c->c≠X.env.locals:=fun x c e z=>by
 obtain⟨v,o,ho,hd⟩:=I.cell x c e;obtain⟨m,⟨o',es,ep,ho',hd',_⟩,_⟩:=I.loc;rw[z,ho']at ho;cases ho;rw[hd']at hd;cases hd
theorem Inv.funs (I:Inv X pins σ H s):s.heap.FunFrames X.base X.outer:=by
 have all:∀ (l:List Env),(∀ b∈frs l,b∈X.fs)->X.s₀.heap.FunFrames X.base l->s.heap.FunFrames X.base l:=by
   intro l
   induction l with
   | nil=>intro _ _;trivial
   | cons env r ih =>
     intro hs hl;obtain⟨hk,⟨L,o,hf,hn,ho,hd⟩,hr⟩:=hl;have hL:L∈X.fs:=hs L (by unfold frs;rw[List.filterMap_cons,hf];exact List.mem_cons_self);obtain⟨sl,e⟩:=I.base.slot L o ho (I.ok.frf L hL) hL fun z=>I.ok.exfs L z hL;exact⟨hk,⟨L,_,hf,hn,e,hd⟩,ih (fun b hb=>hs b (by unfold frs;rw[List.filterMap_cons,hf];exact List.mem_cons_of_mem _ hb)) hr⟩
 exact all X.outer (fun _ hb=>hb) I.ok.funs
theorem Inv.stack (I:Inv X pins σ H s):s.heap.FunFrames X.base X.stack:=by
 rcases I.ok.stk with e|⟨e,hf⟩
 · rw[e];exact I.funs
 · rw[e];obtain⟨m,hn,_⟩:=I.loc;refine .cons (by rw[I.ok.kind];decide) hf hn ?_ I.funs;exact Heap.get?_none_of_le (Nat.le_trans I.ok.bsz I.ok.above)
theorem Inv.stkSub (I:Inv X pins σ H s):∀ b∈frs X.stack,b∈X.env.locals::X.fs:=fun b hb=>by
 rcases I.ok.stk with e|⟨e,hf⟩
 · rw[e]at hb;exact List.mem_cons_of_mem _ hb
 · rw[e]at hb;unfold frs at hb;rw[List.filterMap_cons,hf]at hb;exact hb
theorem Inv.stkFree (I:Inv X pins σ H s):∀ b∈frs X.stack,H b=none:=fun b hb=>by
 rcases List.mem_cons.mp (I.stkSub b hb) with e|hb
 · rw[e];exact I.free
 · obtain⟨_,o,ho,_⟩:=I.ok.funs.mem hb;exact I.base.free b o ho (I.ok.frf b hb) fun z=>I.ok.exfs b z hb
theorem Inv.step {g':Array GenState}{t':Nat}{d':Drawn}{ch:List Addr} (I:Inv X pins σ H s)
   (hch:∀ b∈ch,(b∈X.ex∨X.s₀.heap.objs.size≤b)∧b≠X.env.locals∧(∀ x c,X.env.cells.lookup x=some c->c≠b)∧∀ p∈X.pn++pins,p.1≠b)
   (keep:∀ b o,b≠X.env.locals->b∉X.fs->b∉ch->s.heap.get? b=some o->H b=none->h'.get? b=some o)
   (slot:∀ b o,b≠X.env.locals->b∈X.fs->b∉ch->s.heap.get? b=some o->H b=none->∃ sl,h'.get? b=some { o with slots:=sl }) (free:∀ b o,b∉ch->s.heap.get? b=some o->H b=none->H' b=none)
   (there:∀ b o,b∉ch->s.heap.get? b=some o->∃ o',h'.get? b=some o')
   (tups:∀ b xs,H b=some (.tup xs)->H' b=some (.tup xs)) (frzs:∀ b o u,H b=some (.frz o u)->H' b=some (.frz o u)) (tbls:∀ b ps,H b=some (.tbl ps)->∃ more,H' b=some (.tbl (ps++more)))
   (ns:∀ m,s.heap.Ns X.env.locals m->h'.Ns X.env.locals m) (hok:HOk X.prog X.w H' h') (hg:AllBare g') :
   Inv X pins σ H' { s with heap:=h',gens:=g',drawn:=d',toks:=t' }:=by
 have neL:∀ b o,X.s₀.heap.get? b=some o->b≠X.env.locals:=fun b o e=>Nat.ne_of_lt (Nat.lt_of_lt_of_le (Heap.lt_size e) I.ok.above)
 have neC:∀ b o,X.s₀.heap.get? b=some o->b∉X.ex->b∉ch:=fun b o e hx hb=>by
   rcases (hch b hb).1 with z|z
   · exact hx z
   · exact absurd (Nat.lt_of_lt_of_le (Heap.lt_size e) z) (Nat.lt_irrefl _)
 have cellK:∀ x c,X.env.cells.lookup x=some c->∀ v,s.heap.IsCell c v->h'.IsCell c v:=fun x c e v ⟨o,ho,hd⟩=>by
   have nch:c∉ch:=fun z=>(hch c z).2.2.1 x c e rfl;by_cases hc:c∈X.fs
   · obtain⟨sl,q⟩:=slot c o (I.cne x c e) hc nch ho (I.freeC x c e);exact⟨_,q,hd⟩
   · exact⟨o,keep c o (I.cne x c e) hc nch ho (I.freeC x c e),hd⟩
 refine⟨I.ok,I.os,hg,⟨fun b o e n hb hx=>?_,fun b o e n hb hx=>?_,fun b o e n hx=>?_,fun b o e hx=>?_,fun b xs e=>tups b xs (I.base.tups b xs e),fun b o xs e=>frzs b o xs (I.base.frzs b o xs e),fun b ps e=>?_⟩,?_,fun x c e=>?_,?_,fun x c e=>?_,fun p hp=>?_,hok,I.len⟩
 · exact keep b o (neL b o e) hb (neC b o e hx) (I.base.keep b o e n hb hx) (I.base.free b o e n hx)
 · obtain⟨sl,e1⟩:=I.base.slot b o e n hb hx;obtain⟨sl',e2⟩:=slot b _ (neL b o e) hb (neC b o e hx) e1 (I.base.free b o e n hx);exact⟨sl',e2⟩
 · obtain⟨o',e1⟩:=I.base.there b o e hx;exact free b o' (neC b o e hx) e1 (I.base.free b o e n hx)
 · obtain⟨o',e1⟩:=I.base.there b o e hx;exact there b o' (neC b o e hx) e1
 · obtain⟨m1,e1⟩:=I.base.tbls b ps e;obtain⟨m2,e2⟩:=tbls b _ e1;exact⟨m1++m2,by rw[e2,Array.append_assoc]⟩
 · obtain⟨m,hn,hl⟩:=I.loc;refine⟨m,ns m hn,fun i x v e1 e2 e3=>?_⟩;obtain⟨u,r,l⟩:=hl i x v e1 e2 e3;refine⟨u,r,?_⟩;rcases l with l|⟨k,c,e,z⟩
   · exact .inl l
   · exact .inr ⟨k,c,e,cellK x c e _ z⟩
 · obtain⟨v,z⟩:=I.cell x c e;exact⟨v,cellK x c e v z⟩
 · obtain⟨m,⟨o,_,_,ho,_⟩,_⟩:=I.loc;exact free _ o (fun z=>(hch _ z).2.1 rfl) ho I.free
 · obtain⟨v,o,ho,hd⟩:=I.cell x c e;exact free c o (fun z=>(hch c z).2.2.1 x c e rfl) ho (I.freeC x c e)
 · obtain⟨e,n,ne,nf,d⟩:=I.pin p hp;have nch:p.1∉ch:=fun z=>(hch p.1 z).2.2.2 p hp rfl;exact⟨keep p.1 p.2 ne nf nch e n,free p.1 p.2 nch e n,ne,nf,d⟩
theorem Inv.un {t':Nat} (I:Inv X pins σ H s) (u:Un X.fs [] H H' s.heap h') (hok:HOk X.prog X.w H' h'):Inv X pins σ H' { s with heap:=h',toks:=t' }:=by
 obtain⟨m,⟨o,es,ep,ho,r⟩,_⟩:=id I.loc;obtain⟨sl,hL⟩:=u.any ho I.free (by simp)
 exact I.step (g':=s.gens) (d':=s.drawn) (ch:=[]) (fun _ z=>nomatch z) (fun b o _ hb _ e n=>u.keep b o e n hb (by simp)) (fun b o _ hb _ e n=>u.slot b o e n hb (by simp)) (fun b o _ e n=>u.free b o e n (by simp)) (fun b o _ e=>u.there b o e (by simp)) u.tups u.frzs u.tbls (fun m' hm=>by
   obtain⟨o',es',ep',ho',r'⟩:=hm;rw[ho]at ho';cases ho'
   exact⟨_,es',ep',hL,r'⟩) hok I.bare
theorem Inv.call {g':Array GenState}{t':Nat}{d':Drawn}{ch:List Addr} (I:Inv X pins σ H s) (u:Un (frs X.stack) ch H H' s.heap h') (hok:HOk X.prog X.w H' h') (hg:AllBare g')
   (hch:∀ b∈ch,(b∈X.ex∨X.s₀.heap.objs.size≤b)∧b≠X.env.locals∧(∀ x c,X.env.cells.lookup x=some c->c≠b)∧∀ p∈X.pn++pins,p.1≠b) :
   Inv X pins σ H' { s with heap:=h',gens:=g',drawn:=d',toks:=t' }:=by
 obtain⟨m,⟨o,es,ep,ho,r⟩,_⟩:=id I.loc;obtain⟨sl,hL⟩:=u.any ho I.free fun z=>(hch _ z).2.1 rfl
 exact I.step (ch:=ch) hch (fun b o hL hb hc e n=>u.keep b o e n (fun z=>(List.mem_cons.mp (I.stkSub b z)).elim hL hb) hc) (fun b o _ _ hc e n=>u.any e n hc) (fun b o hc e n=>u.free b o e n hc) (fun b o hc e=>u.there b o e hc) u.tups u.frzs u.tbls (fun m' hm=>by
   obtain⟨o',es',ep',ho',r'⟩:=hm;rw[ho]at ho';cases ho'
   exact⟨_,es',ep',hL,r'⟩) hok hg
theorem Inv.turned {t':Nat}{it:Addr} (I:Inv X pins σ H s) (k:∀ b o,b≠it->s.heap.get? b=some o->h'.get? b=some o) (hn:H it=none) (hL:it≠X.env.locals)
   (h1:it∈X.ex∨X.s₀.heap.objs.size≤it) (h2:∀ x c,X.env.cells.lookup x=some c->c≠it) (h3:∀ p∈X.pn++pins,p.1≠it):Inv X pins σ H { s with heap:=h',toks:=t' }:=by
 have nit:∀ b u,H b=some u->b≠it:=fun b u e z=>by rw[z,hn]at e;cases e
 refine I.step (g':=s.gens) (d':=s.drawn) (ch:=[it]) (fun b hb=>?_) (fun b o _ _ hc e _=>k b o (fun z=>hc (by simp[z])) e) (fun b o _ _ hc e _=>⟨o.slots,k b o (fun z=>hc (by simp[z])) e⟩) (fun _ _ _ _ n=>n)
   (fun b o hc e=>⟨o,k b o (fun z=>hc (by simp[z])) e⟩) (fun _ _ e=>e) (fun _ _ _ e=>e) (fun b ps e=>⟨#[],by rw[e];simp⟩) (fun m hm=>?_) (fun b u e=>?_) I.bare
 · have e:b=it:=by simpa using hb
   subst e;exact⟨h1,hL,h2,h3⟩
 · obtain⟨o,es,ep,ho,r⟩:=hm;exact⟨o,es,ep,k _ o (Ne.symm hL) ho,r⟩
 · refine(I.hok b u e).stay (fun c v hc q=>k c v ?_ q) (fun _ q=>q) fun _ _ q=>q;rcases hc with z|z
   · rw[z];exact nit b u e
   · exact nit c _ z
theorem Inv.tok (I:Inv X pins σ H s) (t:Nat):Inv X pins σ H { s with toks:=t }:=I.un (h':=s.heap) (t':=t) Un.refl I.hok
theorem Inv.kept {t':Nat} (I:Inv X pins σ H s) (k:∀ b u,s.heap.get? b=some u->h'.get? b=some u):Inv X pins σ H { s with heap:=h',toks:=t' }:=I.un (Un.kept k) (I.hok.kept k)
theorem Inv.laid {a:Addr}{o:HO}{t':Nat} (I:Inv X pins σ H s) (k:∀ b u,s.heap.get? b=some u->h'.get? b=some u) (hp:s.heap.objs.size≤a) (new:ObjOk X.prog X.w (upd H a o) h' a o) :
   Inv X pins σ (upd H a o) { s with heap:=h',toks:=t' }:=I.un (Un.laid k hp (I.hok.fresh hp)) (I.hok.laid k hp new)
theorem Inv.write {x e:Addr}{o:HO}{t':Nat} (I:Inv X pins σ H s) (mu:Mut (H x)) (he:e=x∨H e=some (.own x)) (k:∀ b u,b≠e->s.heap.get? b=some u->h'.get? b=some u) (heo:∃ u,h'.get? e=some u)
   (new:ObjOk X.prog X.w (upd H x o) h' x o):Inv X pins σ (upd H x o) { s with heap:=h',toks:=t' }:=I.un (Un.write mu he k heo) (I.hok.write mu he k heo new)
theorem Inv.pins_of {pins':List (Addr×Obj)} (I:Inv X pins σ H s) (h:∀ p∈pins',s.heap.get? p.1=some p.2∧H p.1=none∧p.1≠X.env.locals∧p.1∉X.fs∧∀ v,p.2.data≠.cell v):Inv X pins' σ H s :=
 ⟨I.ok,I.os,I.bare,I.base,I.loc,I.cell,I.free,I.freeC,fun p hp=>(List.mem_append.mp hp).elim (fun z=>I.pin p (List.mem_append_left _ z)) (h p),I.hok,I.len⟩
theorem Je {N:List Str} (hN:N.Nodup) {i j:Nat}{x:Str} (a:N[i]?=some x) (b:N[j]?=some x):i=j:=by
 obtain⟨h1,e1⟩:=List.getElem?_eq_some_iff.mp a;obtain⟨h2,e2⟩:=List.getElem?_eq_some_iff.mp b;exact(List.getElem_inj hN).mp (e1.trans e2.symm)
theorem JX {M:Model}{A:Around}{E:Value->Shared->Prop}{i:Nat}{x:Str}{v:V}{u:Value}{Q:Unit->Shared->Prop} (I:Inv X pins σ H s) (hN:X.N.Nodup) (hi:X.N[i]?=some x) (hx:Loc X.env.scope x) (r:RelV v u)
   (h:∀ s',Inv X pins (σ.set i (some v)) H s'->(∃ a,Heap.SameBut a s.heap s'.heap∧(a=X.env.locals∨X.env.cells.lookup x=some a))->Q () s') (hf:X.fn x=true∨X.env.scope.names.lookup x=some .local:=by first|exact .inl rfl|exact .inr rfl|assumption):wpAny M A (storeName X.env x u) Q E s:=by
 obtain⟨m,hn,hl⟩:=id I.loc;have hcls:(X.env.scope.kind == .class || (X.env.scope.kind == .module && X.env.locals != X.env.globals))=false:=by rw[I.ok.kind];rfl
 have hiσ:i < σ.length:=by rw[I.len];exact(List.getElem?_eq_some_iff.mp hi).1
 have cne:=I.cne
 have tracked:∀ {a:Addr}{h':Heap},(∃ o,s.heap.get? a=some o∧H a=none)->Heap.SameBut a s.heap h'->HOk X.prog X.w H h':=fun {a h'} ha hs b ob e=>by
   obtain⟨_,_,hfree⟩:=ha;refine(I.hok b ob e).stay (fun c w' hc q=>(hs.2 c ?_).trans q) (fun _ q=>q) fun _ _ q=>q;rintro rfl;rcases hc with rfl|hc
   · rw[hfree]at e;cases e
   · rw[hfree]at hc;cases hc
 rcases hx with hk|hk
 · refine wpAny_storeName_local hk hn (fun h' hn' hs=>?_) hcls;obtain⟨oL,_,_,hoL,_⟩:=id hn;refine h _ ⟨I.ok,I.os,I.bare,⟨fun b o e n hb hx=>?_,fun b o e n hb hx=>?_,I.base.free,fun b o e hx=>?_,I.base.tups,I.base.frzs,I.base.tbls⟩,⟨_,hn',fun j y v' e1 e2 e3=>?_⟩,fun y c e=>?_,I.free,I.freeC,fun p hp=>?_,tracked ⟨oL,hoL,I.free⟩ hs,by simpa using I.len⟩ ⟨_,hs,.inl rfl⟩
   · exact(hs.2 b (Nat.ne_of_lt (Nat.lt_of_lt_of_le (Heap.lt_size e) I.ok.above))).trans (I.base.keep b o e n hb hx)
   · obtain⟨sl,e1⟩:=I.base.slot b o e n hb hx;exact⟨sl,(hs.2 b (Nat.ne_of_lt (Nat.lt_of_lt_of_le (Heap.lt_size e) I.ok.above))).trans e1⟩
   · obtain⟨o',e1⟩:=I.base.there b o e hx;exact⟨o',(hs.2 b (Nat.ne_of_lt (Nat.lt_of_lt_of_le (Heap.lt_size e) I.ok.above))).trans e1⟩
   · by_cases hj:j=i
     · subst hj;rw[hi]at e1;cases e1;rw[List.getElem?_set_self hiσ]at e2;cases e2;exact⟨u,r,.inl ⟨hk,by simp⟩⟩
     · rw[List.getElem?_set_ne (Ne.symm hj)]at e2;obtain⟨u',r',q⟩:=hl j y v' e1 e2 e3;refine⟨u',r',?_⟩;rcases q with ⟨k,e⟩|⟨k,c,e,z⟩
       · refine .inl ⟨k,?_⟩
         have:y≠x:=fun e=>hj (Je hN e1 (e▸hi))
         simp[this,e]
       · exact .inr ⟨k,c,e,z.sameBut hs (cne y c e)⟩
   · obtain⟨w',z⟩:=I.cell y c e;exact⟨w',z.sameBut hs (cne y c e)⟩
   · obtain⟨e,n,ne,nf,d⟩:=I.pin p hp;exact⟨(hs.2 p.1 ne).trans e,n,ne,nf,d⟩
 · have hfn:X.fn x=true:=by
     rcases hf with z|z
     · exact z
     · rw[z]at hk;cases hk
   obtain⟨c,hc⟩:=I.ok.has x (.inl hk);obtain⟨w',z⟩:=I.cell x c hc;refine wpAny_storeName_cell I.ok.kind hk hc z (fun h' hc' hs=>?_);obtain⟨oc,hoc,hocd⟩:=id z;refine h { s with heap:=h' } ⟨I.ok,I.os,I.bare,⟨fun b o e n hb hx=>?_,fun b o e n hb hx=>?_,I.base.free,fun b o e hx=>?_,I.base.tups,I.base.frzs,I.base.tbls⟩,⟨m,hn.sameBut hs (Ne.symm (cne x c hc)),fun j y v' e1 e2 e3=>?_⟩,fun y c' e=>?_,I.free,I.freeC,fun p hp=>?_,tracked ⟨oc,hoc,I.freeC x c hc⟩ hs,by simpa using I.len⟩ ⟨c,hs,.inr hc⟩
   · exact(hs.2 b (Nat.ne_of_lt (Nat.lt_of_lt_of_le (Heap.lt_size e) (I.ok.cab x c hfn hc)))).trans (I.base.keep b o e n hb hx)
   · obtain⟨sl,e1⟩:=I.base.slot b o e n hb hx;exact⟨sl,(hs.2 b (Nat.ne_of_lt (Nat.lt_of_lt_of_le (Heap.lt_size e) (I.ok.cab x c hfn hc)))).trans e1⟩
   · obtain⟨o',e1⟩:=I.base.there b o e hx;exact⟨o',(hs.2 b (Nat.ne_of_lt (Nat.lt_of_lt_of_le (Heap.lt_size e) (I.ok.cab x c hfn hc)))).trans e1⟩
   · by_cases hj:j=i
     · subst hj;rw[hi]at e1;cases e1;rw[List.getElem?_set_self hiσ]at e2;cases e2;exact⟨u,r,.inr ⟨.inl hk,c,hc,hc'⟩⟩
     · rw[List.getElem?_set_ne (Ne.symm hj)]at e2;obtain⟨u',r',q⟩:=hl j y v' e1 e2 e3;refine⟨u',r',?_⟩;rcases q with q|⟨k,c',e,z'⟩
       · exact .inl q
       · refine .inr ⟨k,c',e,z'.sameBut hs ?_⟩;rintro rfl;exact hj (Je hN e1 (I.ok.inj _ _ _ e hc▸hi))
   · by_cases hcc:c'=c
     · subst hcc;exact⟨_,hc'⟩
     · obtain⟨w2,z2⟩:=I.cell y c' e;exact⟨w2,z2.sameBut hs hcc⟩
   · obtain⟨e,n,ne,nf,d⟩:=I.pin p hp;refine⟨(hs.2 p.1 ?_).trans e,n,ne,nf,d⟩;intro q;rw[q,hoc]at e;have q':oc=p.2:=Option.some.inj e;exact d w' (by rw[← q'];exact hocd)
theorem ZS {M:Model}{A:Around}{E:Value->Shared->Prop}{i:Nat}{x:Str}{v:V}{u:Value}{Q:Unit->Shared->Prop} (I:Inv X pins σ H s) (hN:X.N.Nodup) (hi:X.N[i]?=some x) (hx:Loc X.env.scope x) (r:RelV v u)
   (h:∀ s',Inv X pins (σ.set i (some v)) H s'->Q () s') (hf:X.fn x=true∨X.env.scope.names.lookup x=some .local:=by first|exact .inl rfl|exact .inr rfl|assumption):wpAny M A (storeName X.env x u) Q E s :=
 JX I hN hi hx r (fun s' I' _=>h s' I') hf
theorem Inv.call' {s':Shared}{ch:List Addr} (I:Inv X pins σ H s) (ho:s'.os=s.os) (u:Un (frs X.stack) ch H H' s.heap s'.heap) (hok:HOk X.prog X.w H' s'.heap) (hg:AllBare s'.gens)
   (hch:∀ b∈ch,(b∈X.ex∨X.s₀.heap.objs.size≤b)∧b≠X.env.locals∧(∀ x c,X.env.cells.lookup x=some c->c≠b)∧∀ p∈X.pn++pins,p.1≠b):Inv X pins σ H' s':=by
 obtain⟨h',g',d',t',o'⟩:=s';have e:o'=s.os:=ho;subst e;exact I.call (g':=g') (t':=t') (d':=d') u hok hg hch
end
abbrev XK:=Value->Option Addr->Hp->Prop
abbrev St:=List (Option V)
abbrev VK:=V->Hp->Prop
abbrev TE:=St->Hp->VK->Prop
abbrev TT:=St->Hp->(Bool->Hp->Prop)->Prop
abbrev TA:=St->Hp->(List V->Hp->Prop)->Prop
structure qa1 where
 nx:St->Hp->Prop
 rt:VK
 bk:St->Hp->Prop:=fun _ _=>False
 ct:St->Hp->Prop:=fun _ _=>False
abbrev TS:=qa1->St->Hp->Prop
inductive qeN (X:Cx) (pins:List (Addr×Obj)) (σ:St) (Q:VK) (u:Value) (s':Shared):Prop
 | mk (v H':_) (h1:Inv X pins σ H' s') (h2:RelV v u) (h3:Q v H'):qeN X pins σ Q u s'
def EP (X:Cx) (pins:List (Addr×Obj)) (σ:St) (Q:VK) (u:Value) (s':Shared):Prop:=qeN X pins σ Q u s'
def TP (X:Cx) (pins:List (Addr×Obj)) (σ:St) (Q:Bool->Hp->Prop) (b:Bool) (s':Shared):Prop:=∃ H',Inv X pins σ H' s'∧Q b H'
inductive qeO (X:Cx) (pins:List (Addr×Obj)) (σ:St) (Q:List V->Hp->Prop) (us:List Value) (s':Shared):Prop
 | mk (vs H':_) (h1:Inv X pins σ H' s') (h2:Vals vs us) (h3:Q vs H'):qeO X pins σ Q us s'
def AP (X:Cx) (pins:List (Addr×Obj)) (σ:St) (Q:List V->Hp->Prop) (us:List Value) (s':Shared):Prop:=qeO X pins σ Q us s'
def SP (X:Cx) (pins:List (Addr×Obj)) (D:qa1) (f:Flow) (s':Shared):Prop :=
 match f with
 | .next=>∃ σ' H',Inv X pins σ' H' s'∧D.nx σ' H'
 | .brk=>∃ σ' H',Inv X pins σ' H' s'∧D.bk σ' H'
 | .cont=>∃ σ' H',Inv X pins σ' H' s'∧D.ct σ' H'
 | .ret u=>∃ v σ' H',Inv X pins σ' H' s'∧RelV v u∧D.rt v H'
def PE (X:Cx) (e:Expr) (t:TE):Prop :=
 ∀ (pins:List (Addr×Obj)) (s:Shared) (σ:St) (H:Hp) (Q:VK),Inv X pins σ H s->t σ H Q->wpAny (model X.prog X.w) X.A (eval e X.env) (EP X pins σ Q) X.xe s
def PT (X:Cx) (e:Expr) (t:TT):Prop :=
 ∀ (pins:List (Addr×Obj)) (s:Shared) (σ:St) (H:Hp) (Q:Bool->Hp->Prop),Inv X pins σ H s->t σ H Q->wpAny (model X.prog X.w) X.A (isTrue e X.env (eval e X.env)) (TP X pins σ Q) X.xe s
def PW (X:Cx) (e:Expr) (t:TT):Prop :=
 ∀ (whole:Sem Value) (pins:List (Addr×Obj)) (s:Shared) (σ:St) (H:Hp) (Q:Bool->Hp->Prop),Inv X pins σ H s->t σ H Q->wpAny (model X.prog X.w) X.A (isTrue e X.env whole) (TP X pins σ Q) X.xe s
theorem PW.pt {X:Cx}{e:Expr}{t:TT} (h:PW X e t):PT X e t:=h _
def PA (X:Cx) (es:List Expr) (t:TA):Prop :=
 ∀ (pos:Pos) (pins:List (Addr×Obj)) (s:Shared) (σ:St) (H:Hp) (Q:List V->Hp->Prop),Inv X pins σ H s->t σ H Q->wpAny (model X.prog X.w) X.A (spliced (backTo pos (starEach es X.env))) (AP X pins σ Q) X.xe s
def PS (X:Cx) (st:Stmt) (t:TS):Prop :=
 ∀ (pins:List (Addr×Obj)) (s:Shared) (σ:St) (H:Hp) (D:qa1),Inv X pins σ H s->t D σ H->wpAny (model X.prog X.w) X.A (exec st X.env) (SP X pins D) X.xe s
def PSs (X:Cx) (st:List Stmt) (t:TS):Prop :=
 ∀ (pins:List (Addr×Obj)) (s:Shared) (σ:St) (H:Hp) (D:qa1),Inv X pins σ H s->t D σ H->wpAny (model X.prog X.w) X.A (execs st X.env) (SP X pins D) X.xe s
theorem thn {α:Type}{t:Sem α}{Q Q':α->Shared->Prop}{M:Model}{A:Around}{E:Value->Shared->Prop}{s:Shared} (h:wpAny M A t Q E s) (hQ:∀ a s,Q a s->Q' a s):wpAny M A t Q' E s:=wpAny_mono h hQ fun _ _ x=>x
section
variable {X:Cx}
inductive qbV (i:Nat) (σ:St) (H:Hp) (Q:VK):Prop
 | mk (v:_) (h1:σ[i]?=some (some v)) (h2:Q v H):qbV i σ H Q
def qeu (i:Nat):TE:=fun σ H Q=>qbV i σ H Q
def tC (v:V):TE:=fun _ H Q=>Q v H
theorem qdp {i:Nat}{x:Str}{pos:Pos} (hN:X.N[i]?=some x) (hv:Vis X.env.scope x) (hd:(x == ("__debug__":Str))=false:=by decide) (hcd:(x == ("__classdict__":Str))=false:=by decide):PE X (.Name x pos) (qeu i):=by
 intro pins s σ H Q I h;obtain⟨v,e,h⟩:=h;obtain⟨m,hn,hl⟩:=I.loc;obtain⟨u,r,l⟩:=hl i x v hN e hv;have fin:EP X pins σ Q u s:=⟨v,H,I,r,h⟩
 rcases l with ⟨hk,hm⟩|⟨hk,c,hc,hcell⟩
 · exact wpAny_Name (wpAny_loadName_local I.ok.kind hk hn hm fin) hd
 · rcases hk with hk|hk
   · exact wpAny_Name (wpAny_loadName_cell I.ok.kind hk hc hcell fin) hd
   · exact wpAny_Name (wpAny_loadName_free I.ok.kind hk hc hcell fin hcd) hd
theorem qe {i j pos}:PE X (.Constant (.int i) j pos) (tC (.int i)):=fun _ _ _ H _ I h=>wpAny_Constant_int ⟨.int i,H,I.tok _,⟨_,rfl⟩,h⟩
theorem zX {b j pos}:PE X (.Constant (.bool b) j pos) (tC (.bl b)):=fun _ _ _ H _ I h=>Constant_bool ⟨.bl b,H,I,rfl,h⟩
theorem zb {j pos}:PE X (.Constant .none j pos) (tC .non):=fun _ _ _ H _ I h=>Constant_none ⟨.non,H,I,rfl,h⟩
def Gl (X:Cx) (x:Str):Prop:=X.env.kindOf x=some .globalImplicit
theorem jQ {E:Value->Shared->Prop}{pins:List (Addr×Obj)}{s:Shared}{σ:St}{H:Hp}{x:Str}{u:Value}{pos:Pos}{Q:Value->Shared->Prop} (I:Inv X pins σ H s) (hg:Gl X x) (hm:X.mg x=some u) (h:Q u s)
   (hd:(x == ("__debug__":Str))=false:=by decide):wpAny (model X.prog X.w) X.A (eval (.Name x pos) X.env) Q E s :=
 Calls.Name_function_global I.ok.kind hg (Calls.loadGlobal_global (by rw[I.ok.glob];exact I.mod.glob.keeps I.bk) hm h) hd
theorem QO {E:Value->Shared->Prop}{pins:List (Addr×Obj)}{s:Shared}{σ:St}{H:Hp}{x:Str}{u:Value}{pos:Pos}{Q:Value->Shared->Prop} (I:Inv X pins σ H s) (hg:Gl X x) (hm:X.mg x=none) (hv:bootBuiltins x=some u) (h:Q u s)
   (hn:x≠"__name__":=by decide) (hd:(x == ("__debug__":Str))=false:=by decide):wpAny (model X.prog X.w) X.A (eval (.Name x pos) X.env) Q E s:=by
 obtain⟨mb,h1,h2⟩:=I.mod.blt;exact Calls.Name_function_global I.ok.kind hg (Calls.loadGlobal_builtin (by rw[I.ok.glob];exact I.mod.glob.keeps I.bk) hm (by rw[I.ok.blt];exact h1.keeps I.bk) ((h2 x hn).trans hv) h) hd
theorem qV {x:Str}{v:V}{u:Value}{pos:Pos} (hg:Gl X x) (hm:X.mg x=some u) (r:RelV v u) (hd:(x == ("__debug__":Str))=false:=by decide):PE X (.Name x pos) (tC v) :=
 fun _ _ _ H _ I h=>jQ I hg hm ⟨v,H,I,r,h⟩ hd
theorem qR {x:Str}{v:V}{u:Value}{pos:Pos} (hg:Gl X x) (hm:X.mg x=none) (hv:bootBuiltins x=some u) (r:RelV v u) (hn:x≠"__name__":=by decide) (hd:(x == ("__debug__":Str))=false:=by decide):PE X (.Name x pos) (tC v) :=
 fun _ _ _ H _ I h=>QO I hg hm hv ⟨v,H,I,r,h⟩ hn hd
variable {a b:Expr}{ta tb:TE}{pos:Pos}
inductive qey (Q:(Bool->Hp->Prop)) (x:V) (H1:Hp):Prop
 | mk (c:_) (h1:x=.bl c) (h2:Q c H1):qey Q x H1
def tB (t:TE):TT:=fun σ H Q=>t σ H fun x H1=>qey Q x H1
theorem zD {e:Expr}{t:TE} (h:PE X e t) (he:∀ whole,isTrue e X.env whole=(do let v ← whole;standAt e.pos;holding [v] (truthy v)):=by intro _;rfl):PT X e (tB t):=by
 intro pins s σ H Q I hw;refine isTrue_plain (thn (h pins s σ H _ I hw) fun v s1 zz_=>?_) (he _);obtain⟨x,H1,I1,r1,q1⟩:=zz_;obtain⟨d,rfl,q⟩:=q1;cases r1;exact wpAny_truthy_bool ⟨H1,I1,q⟩
variable {tA tB':TT}{rest:List Expr}
def tOr (t u:TT):TT:=fun σ H Q=>t σ H fun c H1=>if c=true then Q true H1 else u σ H1 Q
def qeT (t:TT):TT:=fun σ H Q=>t σ H fun c H1=>Q (!c) H1
theorem Ql (ha:PT X a tA):PW X (.BoolOp .Or [a] pos) tA:=by
 intro wh pins s σ H Q I h;refine isTrue_or (thn (ha pins s σ H Q I h) fun c s1 e=>?_)
 cases c with
 | false=>exact isTrue_or_nil e
 | true=>exact e
theorem QR (ha:PT X a tA) (hb:PW X (.BoolOp .Or (b::rest) pos) tB'):PW X (.BoolOp .Or (a::b::rest) pos) (tOr tA tB'):=by
 intro wh pins s σ H Q I h;refine isTrue_or (thn (ha pins s σ H _ I h) fun c s1 zz_=>?_);obtain⟨H1,I1,q1⟩:=zz_
 cases c with
 | true=>exact⟨H1,I1,q1⟩
 | false=>exact hb wh pins s1 σ H1 Q I1 q1
theorem zS (ha:PT X a tA):PT X (.UnaryOp .Not a pos) (qeT tA):=by
 intro pins s σ H Q I h;exact isTrue_not (ha pins s σ H (fun c H1=>Q (!c) H1) I h)
def qd2 (ta tb:TE):TE:=fun σ H Q=>ta σ H fun x H1=>∃ c,x=.bl c∧if c=true then tb σ H1 Q else Q (.bl false) H1
def qeS (ta tb:TE):TE:=fun σ H Q=>ta σ H fun x H1=>∃ c,x=.bl c∧if c=true then Q (.bl true) H1 else tb σ H1 Q
theorem Jb {op}{t:TE} (h:PE X a t):PE X (.BoolOp op [a] pos) t:=fun pins s σ H Q I hw=>BoolOp_one (h pins s σ H Q I hw)
theorem qag (ha:PE X a ta) (hb:PE X (.BoolOp .And (b::rest) pos) tb):PE X (.BoolOp .And (a::b::rest) pos) (qd2 ta tb):=by
 intro pins s σ H Q I h;refine BoolOp_and (thn (ha pins s σ H _ I h) fun v s1 zz_=>?_);obtain⟨x,H1,I1,r1,q1⟩:=zz_;obtain⟨c,rfl,q1⟩:=q1;cases r1;refine wpAny_truthy_bool ?_
 cases c with
 | true=>exact hb pins s1 σ H1 Q I1 q1
 | false=>exact⟨.bl false,H1,I1,rfl,q1⟩
theorem qd8 (ha:PE X a ta) (hb:PE X (.BoolOp .Or (b::rest) pos) tb):PE X (.BoolOp .Or (a::b::rest) pos) (qeS ta tb):=by
 intro pins s σ H Q I h;refine BoolOp_or (thn (ha pins s σ H _ I h) fun v s1 zz_=>?_);obtain⟨x,H1,I1,r1,q1⟩:=zz_;obtain⟨c,rfl,q1⟩:=q1;cases r1;refine wpAny_truthy_bool ?_
 cases c with
 | false=>exact hb pins s1 σ H1 Q I1 q1
 | true=>exact⟨.bl true,H1,I1,rfl,q1⟩
def tIf (t:TT) (ta tb:TE):TE:=fun σ H Q=>t σ H fun c H1=>if c=true then ta σ H1 Q else tb σ H1 Q
theorem qbl {c:Expr} (hc:PT X c tA) (ha:PE X a ta) (hb:PE X b tb):PE X (.IfExp c a b pos) (tIf tA ta tb):=by
 intro pins s σ H Q I h;refine wpAny_IfExp (thn (hc pins s σ H _ I h) fun d s1 zz_=>?_);obtain⟨H1,I1,q1⟩:=zz_
 cases d with
 | true=>exact ha pins s1 σ H1 Q I1 q1
 | false=>exact hb pins s1 σ H1 Q I1 q1
end
def SqL (K:Frag) (H:Hp) (a:Addr) (xs:List V):Prop :=
 Rd H a (.lst xs) ∨
   ∃ (o:Obj) (its:Array Value) (n:Nat),K.lookup a=some o∧o.cls=.type "list"∧o.dict=none∧o.data=.seq its n∧its.size≤sizeLine∧Vals xs its.toList
def SqT (K:Frag) (H:Hp) (a:Addr) (xs:List V):Prop :=
 Rd H a (.tup xs) ∨
   ∃ (o:Obj) (its:Array Value) (n:Nat),K.lookup a=some o∧o.cls=.type "tuple"∧o.data=.seq its n∧its.size≤sizeLine∧Vals xs its.toList
def qe7:Value->Option V
 | .none=>some .non
 | .bool b=>some (.bl b)
 | .int i _=>some (.int i)
 | .str x _=>some (.str x)
 | .bytes b _=>some (.byt b)
 | .float b _=>some (.flt b)
 | .ref a=>some (.ref a)
 | .type n=>some (.ty n)
 | _=>none
theorem RelV.abs {x:V}{u:Value} (r:RelV x u):qe7 u=some x:=by
 cases x with
 | non=>cases r;rfl
 | bl _=>cases r;rfl
 | int _=>obtain⟨t,rfl⟩:=r;rfl
 | str _=>obtain⟨t,rfl⟩:=r;rfl
 | byt _=>obtain⟨t,rfl⟩:=r;rfl
 | flt _=>obtain⟨t,rfl⟩:=r;rfl
 | ref _=>cases r;rfl
 | ty _=>cases r;rfl
theorem RelV.inj {x y:V}{u:Value} (r:RelV x u) (q:RelV y u):x=y:=Option.some.inj (r.abs.symm.trans q.abs)
theorem Vals.inj:∀ {xs ys:List V}{us:List Value},Vals xs us->Vals ys us->xs=ys
 | _,_,_,.nil,.nil=>rfl
 | _,_,_,.cons r t,.cons r' t'=>by rw[r.inj r',Vals.inj t t']
section
variable {X:Cx}{pins:List (Addr×Obj)}{σ:St}{H:Hp}{s:Shared}{a:Addr}{xs ys:List V}
theorem SqL.of {K:Frag} (h:H a=some (.lst xs)):SqL K H a xs:=.inl (.inl h)
theorem SqT.of {K:Frag} (h:H a=some (.tup xs)):SqT K H a xs:=.inl (.inl h)
theorem Inv.list (I:Inv X pins σ H s) (h:SqL X.K H a xs):∃ its:List Value,Vals xs its∧PlainL s.heap a its.toArray∧xs.length≤sizeLine:=by
 rcases h with h|⟨o,its,n,hk,hc,hd,hs,hz,r⟩
 · obtain⟨z,its,n,r,e⟩:=h.ok I.hok;exact⟨its,r,⟨_,n,e,rfl,rfl,rfl⟩,z⟩
 · refine⟨its.toList,r,⟨o,n,I.kIn a o hk,hc,hd,by simpa using hs⟩,?_⟩;have e:=r.length;simp only[Array.length_toList]at e;omega
theorem Inv.tuple (I:Inv X pins σ H s) (h:SqT X.K H a xs):∃ its:List Value,Vals xs its∧IsTup s.heap a its.toArray∧xs.length≤sizeLine:=by
 rcases h with h|⟨o,its,n,hk,hc,hs,hz,r⟩
 · obtain⟨z,its,r,p⟩:=h.ok I.hok;exact⟨its,r,p,z⟩
 · refine⟨its.toList,r,⟨o,I.kIn a o hk,hc,n,by simpa using hs⟩,?_⟩;have e:=r.length;simp only[Array.length_toList]at e;omega
theorem Inv.list_inj (I:Inv X pins σ H s) (h:SqL X.K H a xs) (h':SqL X.K H a ys):xs=ys:=by
 obtain⟨its,r,⟨o,n,e,_,_,d⟩,_⟩:=I.list h;obtain⟨its',r',⟨o',n',e',_,_,d'⟩,_⟩:=I.list h';rw[e]at e';cases e';rw[d]at d';injection d' with d1 _
 have:its=its':=by simpa using congrArg Array.toList d1
 subst this;exact r.inj r'
theorem Inv.tuple_inj (I:Inv X pins σ H s) (h:SqT X.K H a xs) (h':SqT X.K H a ys):xs=ys:=by
 obtain⟨its,r,⟨o,e,_,n,d⟩,_⟩:=I.tuple h;obtain⟨its',r',⟨o',e',_,n',d'⟩,_⟩:=I.tuple h';rw[e]at e';cases e';rw[d]at d';injection d' with d1 _
 have:its=its':=by simpa using congrArg Array.toList d1
 subst this;exact r.inj r'
end
abbrev Cx.wish (X:Cx) (E:Value->Shared->Prop):Cx:={ X with xe:=E }
abbrev Cx.nox (X:Cx):Cx:=X.wish fun _ _=>False
theorem Cx.Ok.wish {X:Cx} (ok:X.Ok) (E:Value->Shared->Prop):(X.wish E).Ok :=
 ⟨ok.mod,ok.kind,ok.glob,ok.blt,ok.above,ok.inj,ok.has,ok.cab,ok.hd,ok.frames,ok.stk,ok.exf,ok.bs,ok.bsz,ok.noex,ok.exfs,ok.funs,ok.frf⟩
theorem Cx.Ok.unwish {X:Cx}{E:Value->Shared->Prop} (ok:(X.wish E).Ok):X.Ok :=
 ⟨ok.mod,ok.kind,ok.glob,ok.blt,ok.above,ok.inj,ok.has,ok.cab,ok.hd,ok.frames,ok.stk,ok.exf,ok.bs,ok.bsz,ok.noex,ok.exfs,ok.funs,ok.frf⟩
section
variable {X:Cx}{pins:List (Addr×Obj)}{σ:St}{H:Hp}{s:Shared}{E:Value->Shared->Prop}
theorem Inv.wish (I:Inv X pins σ H s) (E:Value->Shared->Prop):Inv (X.wish E) pins σ H s:=⟨I.ok.wish E,I.os,I.bare,I.base,I.loc,I.cell,I.free,I.freeC,I.pin,I.hok,I.len⟩
theorem Inv.unwish (I:Inv (X.wish E) pins σ H s):Inv X pins σ H s:=⟨I.ok.unwish,I.os,I.bare,I.base,I.loc,I.cell,I.free,I.freeC,I.pin,I.hok,I.len⟩
theorem SP.unwish {D:qa1}{f:Flow}{s':Shared} (h:SP (X.wish E) pins D f s'):SP X pins D f s':=by
 cases f with
 | next=>obtain⟨σ',H',I,q⟩:=h;exact⟨σ',H',I.unwish,q⟩
 | brk=>obtain⟨σ',H',I,q⟩:=h;exact⟨σ',H',I.unwish,q⟩
 | cont=>obtain⟨σ',H',I,q⟩:=h;exact⟨σ',H',I.unwish,q⟩
 | ret u=>obtain⟨v,σ',H',I,r,q⟩:=h;exact⟨v,σ',H',I.unwish,r,q⟩
theorem PSs.nox {st:List Stmt}{t:TS} (h:PSs X.nox st t):PSs X st t:=fun pins s σ H D I hw =>
 wpAny_mono (h pins s σ H D (I.wish _) hw) (fun _ _ q=>q.unwish) fun _ _ z=>False.elim z
end
section
variable {X:Cx}{st:Stmt}{rest:List Stmt}{t u:TS}{e:Expr}{te:TE}{pos:Pos}
def qa7:TS:=fun D σ H=>D.nx σ H
def qev (t u:TS):TS:=fun D σ H=>t { D with nx:=u D } σ H
theorem qC:PSs X [] qa7:=fun _ _ σ H _ I h=>wpAny_execs_nil ⟨σ,H,I,h⟩
theorem qb (h1:PS X st t) (h2:PSs X rest u):PSs X (st::rest) (qev t u):=by
 intro pins s σ H D I h;refine wpAny_execs_cons (thn (h1 pins s σ H { D with nx:=u D } I h) fun f s1 q=>?_)
 cases f with
 | next =>
   obtain⟨σ',H',I',q⟩:=q;exact h2 pins s1 σ' H' D I' q
 | ret v=>exact q
 | brk=>exact q
 | cont=>exact q
theorem qg (h1:PS X st t):PSs X [st] t:=by
 intro pins s σ H D I h;refine wpAny_execs_cons (thn (h1 pins s σ H D I h) fun f s1 q=>?_)
 cases f with
 | next=>exact wpAny_execs_nil q
 | ret v=>exact q
 | brk=>exact q
 | cont=>exact q
def qde:TS:=fun D σ H=>D.bk σ H
def qd0:TS:=fun D σ H=>D.ct σ H
theorem qbh:PS X (.Break pos) qde:=fun _ _ σ H _ I h=>wpAny_Break ⟨σ,H,I,h⟩
theorem jL:PS X (.Continue pos) qd0:=fun _ _ σ H _ I h=>wpAny_Continue ⟨σ,H,I,h⟩
theorem Inv.quiet {pins:List (Addr×Obj)}{σ:St}{H:Hp}{s:Shared} (I:Inv X pins σ H s):interactive X.env=false:=by simp[interactive,I.ok.kind]
def qdZ (te:TE):TS:=fun D σ H=>te σ H fun _ H1=>D.nx σ H1
theorem zo (he:PE X e te) (hs:swapsWith e none pos.line X.env=pure false:=by rfl):PS X (.Expr e pos) (qdZ te):=by
 intro pins s σ H D I h;exact wpAny_Expr_any (thn (he pins s σ H _ I h) fun v s1 ⟨x,H1,I1,r1,q1⟩=>⟨σ,H1,I1,q1⟩) I.quiet hs
def qeR (te:TE):TS:=fun D σ H=>te σ H D.rt
theorem qu (he:PE X e te):PS X (.Return (some e) pos) (qeR te):=by
 intro pins s σ H D I h;exact wpAny_Return_some (thn (he pins s σ H _ I h) fun v s1 ⟨x,H1,I1,r1,q1⟩=>⟨x,σ,H1,I1,r1,q1⟩)
def qex (c:TT) (t u:TS):TS:=fun D σ H=>c σ H fun b H1=>if b=true then t D σ H1 else u D σ H1
theorem qU {c:Expr}{a b:List Stmt}{tc:TT} (hc:PT X c tc) (ha:PSs X a t) (hb:PSs X b u):PS X (.If c a b pos) (qex tc t u):=by
 intro pins s σ H D I h;refine wpAny_If (thn (hc pins s σ H _ I h) fun d s1 zz_=>?_);obtain⟨H1,I1,q1⟩:=zz_
 cases d with
 | true=>exact ha pins s1 σ H1 D I1 q1
 | false=>exact hb pins s1 σ H1 D I1 q1
end
abbrev TG:=V->St->Hp->(St->Hp->Prop)->Prop
abbrev TGs:=List V->St->Hp->(St->Hp->Prop)->Prop
def PG (X:Cx) (target:Expr) (t:TG):Prop :=
 ∀ (pins:List (Addr×Obj)) (s:Shared) (σ:St) (H:Hp) (v:V) (u:Value) (Q:St->Hp->Prop),Inv X pins σ H s->RelV v u->t v σ H Q ->
   wpAny (model X.prog X.w) X.A (assign target X.env u) (fun _ s'=>∃ σ' H',Inv X pins σ' H' s'∧Q σ' H') X.xe s
def PGs (X:Cx) (ts:List Expr) (t:TGs):Prop :=
 ∀ (pins:List (Addr×Obj)) (s:Shared) (σ:St) (H:Hp) (vs:List V) (us:List Value) (Q:St->Hp->Prop),Inv X pins σ H s->Vals vs us->t vs σ H Q ->
   wpAny (model X.prog X.w) X.A (assignInOrder ((assignEach ts X.env).map (·.2)) us) (fun _ s'=>∃ σ' H',Inv X pins σ' H' s'∧Q σ' H') X.xe s
abbrev qeq:=V->V->V->Hp->(Hp->Prop)->Prop
def qeK (X:Cx) (t:qeq):Prop :=
 ∀ (pins:List (Addr×Obj)) (s:Shared) (σ:St) (H:Hp) (o i v:V) (ov iv u:Value) (Q:Hp->Prop),Inv X pins σ H s->RelV o ov->RelV i iv->RelV v u->t o i v H Q ->
   wpAny (model X.prog X.w) X.A (setItem ov iv u) (fun _ s'=>∃ H',Inv X pins σ H' s'∧Q H') X.xe s
section
variable {X:Cx}{pos:Pos}
def qbD (i:Nat):TG:=fun v σ H Q=>Q (σ.set i (some v)) H
theorem qr {i:Nat}{x:Str} (hN:X.N.Nodup) (hi:X.N[i]?=some x) (hx:Loc X.env.scope x) (hf:X.fn x=true∨X.env.scope.names.lookup x=some .local:=by first|exact .inl rfl|exact .inr rfl|assumption):PG X (.Name x pos) (qbD i):=by
 intro pins s σ H v u Q I r h;exact wpAny_assign_Name (ZS I hN hi hx r (fun s' I'=>⟨_,H,I',h⟩) hf)
def qe6:TGs:=fun vs σ H Q=>vs=[]∧Q σ H
inductive qaF (t:TG) (u:TGs) (vs:List V) (σ:St) (H:Hp) (Q:(St->Hp->Prop)):Prop
 | mk (v r:_) (h1:vs=v::r) (h2:t v σ H fun σ' H'=>u r σ' H' Q):qaF t u vs σ H Q
def qef (t:TG) (u:TGs):TGs:=fun vs σ H Q=>qaF t u vs σ H Q
theorem zW:PGs X [] qe6:=by
 intro pins s σ H vs us Q I r h;obtain⟨e,h⟩:=h;subst e;cases r;exact assignInOrder_nil ⟨σ,H,I,h⟩
theorem qK {e:Expr}{es:List Expr}{t:TG}{u:TGs} (h1:PG X e t) (h2:PGs X es u)
   (hs:(assignEach (e::es) X.env).map (·.2)=assign e X.env::(assignEach es X.env).map (·.2):=by rfl):PGs X (e::es) (qef t u):=by
 intro pins s σ H vs us Q I r h;obtain⟨v,vr,e1,h⟩:=h;subst e1
 cases r with
 | cons r rr =>
   rw[hs];refine assignInOrder_cons (thn (h1 pins s σ H _ _ _ I r h) fun _ s1 zz_=>?_);obtain⟨σ1,H1,I1,q1⟩:=zz_;exact h2 pins s1 σ1 H1 _ _ Q I1 rr q1
inductive qck (K:Frag) (n:Nat) (t:TGs) (v:V) (σ:St) (H:Hp) (Q:(St->Hp->Prop)):Prop
 | mk (a xs:_) (h1:v=.ref a) (h2:SqT K H a xs) (h3:xs.length=n) (h4:t xs σ H Q):qck K n t v σ H Q
def qeI (K:Frag) (n:Nat) (t:TGs):TG:=fun v σ H Q=>qck K n t v σ H Q
theorem Za {es:List Expr}{k:Nat}{t:TGs}{n:Nat} (hc:X.calm=true) (h:PGs X es t)
   (hn:(assignEach es X.env).length=n:=by rfl) (hst:(assignEach es X.env).findIdx? (·.1)=none:=by rfl):PG X (.Tuple es k pos) (qeI X.K n t):=by
 intro pins s σ H v u Q I r hw;obtain⟨a,xs,e1,hq,hl,hw⟩:=hw;subst e1;cases r;obtain⟨its,rv,ht,hz⟩:=I.tuple hq;refine assign_Tuple_tuple (I.ok.hd hc) ht (by simp[hn,← hl,rv.length]) hst fun h' hx=>?_;have I1:Inv X pins σ H { s with heap:=h' }:=I.kept (t':=s.toks) fun b o e=>hx b o (Nat.ne_of_lt (Heap.lt_size e)) e;exact h pins _ σ H xs _ Q I1 (by simpa using rv) hw
def qe5 (to ti:TE) (t:qeq):TG:=fun v σ H Q=>to σ H fun o H1=>ti σ H1 fun i H2=>t o i v H2 fun H3=>Q σ H3
theorem Zb {o i:Expr}{to ti:TE}{t:qeq} (ho:PE X o to) (hi:PE X i ti) (hs:qeK X t)
   (ha:∀ v,assign (.Subscript o i pos) X.env v=(do
     let ov ← holding [v] (eval o X.env);let iv ← holding [v,ov] (eval i X.env)
     standAt pos
     holding [v,ov,iv] (setItem ov iv v)
     release [v,ov,iv] []):=by intro _;rfl):PG X (.Subscript o i pos) (qe5 to ti t):=by
 intro pins s σ H v u Q I r h;rw[ha];refine wpAny_bind (wpAny_holding (thn (ho pins s σ H _ I h) fun ov s1 zz_=>?_));obtain⟨x,H1,I1,r1,q1⟩:=zz_;refine wpAny_bind (wpAny_holding (thn (hi pins s1 σ H1 _ I1 q1) fun iv s2 zz_=>?_));obtain⟨y,H2,I2,r2,q2⟩:=zz_;refine wpAny_bind (wpAny_standAt (wpAny_bind (wpAny_holding (thn (hs pins s2 σ H2 x y v ov iv u _ I2 r1 r2 r q2) fun _ s3 zz_=>?_))));obtain⟨H3,I3,q3⟩:=zz_;exact wpAny_release ⟨σ,H3,I3,q3⟩
def qdf (te:TE) (g:TG):TS:=fun D σ H=>te σ H fun x H1=>g x σ H1 D.nx
theorem Qm {tg e:Expr}{te:TE}{g:TG} (he:PE X e te) (hg:PG X tg g) (hs:swapsWithSole [tg] e pos.line X.env=pure false:=by rfl) (hw:swappedStores [tg] e X.env=pure none:=by rfl)
   (h1:(assignEach [tg] X.env).map (·.2)=[assign tg X.env]:=by rfl):PS X (.Assign [tg] e pos) (qdf te g):=by
 intro pins s σ H D I h;refine wpAny_Assign_stores (thn (he pins s σ H _ I h) fun v s1 zz_=>?_) hs hw;obtain⟨x,H1,I1,r1,q1⟩:=zz_;rw[h1];exact thn (hg pins s1 σ H1 x v _ I1 r1 q1) fun _ s2 q=>q
theorem qo {i:Nat}{x:Str}{e:Expr}{te:TE}{pos':Pos} (hN:X.N.Nodup) (hi:X.N[i]?=some x) (hx:Loc X.env.scope x) (he:PE X e te) (hs:swapsWith e (some (.Name x pos')) pos.line X.env=pure false:=by rfl) (hf:X.fn x=true∨X.env.scope.names.lookup x=some .local:=by first|exact .inl rfl|exact .inr rfl|assumption) :
   PS X (.Assign [.Name x pos'] e pos) (qdf te (qbD i)):=by
 intro pins s σ H D I h;refine wpAny_Assign_Name (thn (he pins s σ H _ I h) fun v s1 zz_=>?_) hs;obtain⟨y,H1,I1,r1,q1⟩:=zz_;exact ZS I1 hN hi hx r1 (fun s2 I2=>⟨_,H1,I2,q1⟩) hf
def JT (c:TT) (tb:TS):TS:=fun D σ H=>∃ W:Nat->St->Hp->Prop,(∃ m,W m σ H)∧∀ m σ H,W m σ H ->
 c σ H fun b H1=>if b=true then ∃ N:St->Hp->Prop,(∀ σ' H',N σ' H'->∃ m',m' < m∧W m' σ' H')∧tb { D with nx:=N,ct:=N,bk:=D.nx } σ H1 else D.nx σ H1
theorem Ja {c:Expr}{body:List Stmt}{tc:TT}{tb:TS} (hp:PassesOwn (model X.prog X.w) X.A X.env X.xe) (hc:PT X c tc) (hb:PSs X body tb):PS X (.While c body [] pos) (JT tc tb):=by
 intro pins s σ H D I h;obtain⟨W,⟨m0,w0⟩,turn⟩:=h;refine wpAny_While (codeAny_whileLoop (fun n s'=>∃ σ' H',Inv X pins σ' H' s'∧W n σ' H') ?_ m0 ⟨σ,H,I,w0⟩);rintro n s1 ⟨σ1,H1,I1,w1⟩;refine wpAny_passesOwn hp (thn (hc pins s1 σ1 H1 _ I1 (turn n σ1 H1 w1)) fun b s2 zz_=>?_);obtain⟨H2,I2,q2⟩:=zz_
 cases b with
 | true =>
   obtain⟨N,hN,q2⟩:=q2;rw[if_pos rfl];refine wpAny_passesOwn hp (thn (hb pins s2 σ1 H2 _ I2 q2) fun f s3 q3=>?_)
   cases f with
   | next =>
     obtain⟨σ3,H3,I3,n3⟩:=q3;obtain⟨m',hm,w3⟩:=hN σ3 H3 n3;exact⟨m',hm,σ3,H3,I3,w3⟩
   | cont =>
     obtain⟨σ3,H3,I3,n3⟩:=q3;obtain⟨m',hm,w3⟩:=hN σ3 H3 n3;exact⟨m',hm,σ3,H3,I3,w3⟩
   | brk=>exact q3
   | ret v=>exact q3
 | false =>
   rw[if_neg Bool.false_ne_true];exact wpAny_execs_nil ⟨σ1,H2,I2,q2⟩
end
structure It where
 go:Nat->Hp->Prop
 yld:Nat->Hp->V->Hp->Prop
 stop:Nat->Hp->Prop
def JJ (X:Cx) (pins:List (Addr×Obj)) (H:Hp) (b:Addr):Prop :=
 H b=none∧b≠X.env.locals∧b∉X.fs∧(b∈X.ex∨X.s₀.heap.objs.size≤b)∧(∀ x c,X.env.cells.lookup x=some c->c≠b)∧∀ p∈X.pn++pins,p.1≠b
theorem Inv.fpOk {X:Cx}{pins:List (Addr×Obj)}{σ:St}{H H':Hp}{s:Shared}{b:Addr} (I:Inv X pins σ H s) (hb:s.heap.objs.size≤b) (hn:H' b=none):JJ X pins H' b:=by
 refine⟨hn,Nat.ne_of_gt (Nat.lt_of_lt_of_le I.lt hb),I.nofs hb,.inr (Nat.le_trans I.sz hb),fun x c e z=>?_,fun p hp z=>?_⟩
 · obtain⟨v,q⟩:=I.cell x c e;exact absurd (Nat.lt_of_lt_of_le q.lt (by rw[z];exact hb)) (Nat.lt_irrefl _)
 · exact absurd (Nat.lt_of_lt_of_le (Heap.lt_size (I.pin p hp).1) (by rw[z];exact hb)) (Nat.lt_irrefl _)
structure qdL (P:Program) (w:World) (K:Frag) (tg:Expr) (J:It) (fp:List Addr) (it:Addr) (tn:Nat->Heap->Prop):Prop where
 mem:it∈fp
 obj:∀ i h,tn i h->∀ b∈fp,∃ o,h.get? b=some o∧∀ v,o.data≠.cell v
 keep:∀ i h h',tn i h->(∀ b∈fp,∀ o,h.get? b=some o->h'.get? b=some o)->tn i h'
 item:∀ (X:Cx),X.prog=P->X.w=w->X.K=K->X.calm=true->∀ (i:Nat) (pins:List (Addr×Obj)) (s:Shared) (σ:St) (H:Hp) (E:Value->Shared->Prop),Inv X pins σ H s->(∀ b∈fp,JJ X pins H b)->tn i s.heap->J.go i H ->
   wpAny (model P w) X.A (pyNext (.ref it)) (fun r s1=>∃ u,r=some u ∧
     wpAny (model P w) X.A (letOwnedTupleGo tg (.ref it) u) (fun _ s2=>∃ x H',Inv X pins σ H' s2∧RelV x u∧J.yld i H x H'∧tn (i+1) s2.heap∧∀ b∈fp,H' b=none) E s1) E s
 done:∀ (X:Cx),X.prog=P->X.w=w->X.K=K->X.calm=true->∀ (i:Nat) (pins:List (Addr×Obj)) (s:Shared) (σ:St) (H:Hp) (E:Value->Shared->Prop),Inv X pins σ H s->(∀ b∈fp,JJ X pins H b)->tn i s.heap->J.stop i H ->
   wpAny (model P w) X.A (pyNext (.ref it)) (fun r s1=>r=none∧Inv X pins σ H s1) E s
 self:∀ (A:Around) (i:Nat) (s:Shared) (Q:Value->Shared->Prop) (E:Value->Shared->Prop),tn i s.heap->Q (.ref it) s->wpAny (model P w) A (pyIter (.ref it)) Q E s
abbrev TI:=St->Hp->(It->Hp->Prop)->Prop
def PIE (X:Cx) (pins:List (Addr×Obj)) (σ:St) (tg:Expr) (R:It->Hp->Prop) (itv:Value) (s2:Shared):Prop :=
 ∃ (it:Addr) (fp:List Addr) (tn:Nat->Heap->Prop) (J:It) (H':Hp),itv=.ref it∧Inv X pins σ H' s2∧qdL X.prog X.w X.K tg J fp it tn∧tn 0 s2.heap∧(∀ b∈fp,JJ X pins H' b)∧R J H'
def PI (X:Cx) (tg iter:Expr) (wi:TI):Prop :=
 ∀ (pins:List (Addr×Obj)) (s:Shared) (σ:St) (H:Hp) (R:It->Hp->Prop),Inv X pins σ H s->wi σ H R ->
   wpAny (model X.prog X.w) X.A (eval iter X.env) (fun v s1=>wpAny (model X.prog X.w) X.A (pyIter v) (PIE X pins σ tg R) X.xe s1) X.xe s
theorem qdC {M:Model}{A:Around}{E:Value->Shared->Prop}{s:Shared}{tg:Expr}{it:Addr}{u:Value}{o:Obj}{n:String}{vs:Array Value}{Q:Unit->Shared->Prop} (ho:s.heap.get? it=some o) (hc:o.cls=.type n) (hd:o.data=.fields vs)
   (hn:["enumerate","zip","dict_itemiterator","dict_reverseitemiterator","odict_iterator","itertools.zip_longest","itertools.pairwise"].contains n=false) (hQ:Q () s):wpAny M A (letOwnedTupleGo tg (.ref it) u) Q E s:=by
 unfold letOwnedTupleGo;cases tg<;>first
   | exact wpAny_pure hQ
   | (cases u<;>first
       | exact wpAny_pure hQ
       | (refine wpAny_bind (wpAny_load ho ?_)
          rw[hc,hd];show wpAny M A (if (["enumerate","zip","dict_itemiterator","dict_reverseitemiterator","odict_iterator","itertools.zip_longest","itertools.pairwise"].contains n && vs[0]? == some (rawInt _))=true then _ else _) Q E s;rw[if_neg (by intro h;rw[hn,Bool.false_and]at h;cases h)]
          exact wpAny_pure hQ))
def Itl (K:Frag) (a:Addr):It :=
 ⟨fun i H=>∃ xs x,SqL K H a xs∧xs[i]?=some x,fun i H x H'=>H'=H∧∀ xs,SqL K H a xs->xs[i]?=some x,fun i H=>∃ xs,SqL K H a xs∧xs.length≤i⟩
def Itr (lo:Int) (n:Nat):It:=⟨fun i _=>i < n,fun i H x H'=>H'=H∧x=.int (lo+i),fun i _=>n≤i⟩
theorem JR {P:Program}{w:World}{K:Frag}{tg:Expr} (a it:Addr):qdL P w K tg (Itl K a) [it] it (fun i h=>h.IsListIter it a i) where
 mem:=by simp
 obj:=fun i h st b hb=>by
   have e:b=it:=by simpa using hb
   subst e;obtain⟨o,e,c,d⟩:=st;exact⟨o,e,fun v z=>by rw[d]at z;cases z⟩
 keep:=fun i h h' st k=>st.at fun o e=>k it (by simp) o e
 item:=by
   intro X hP hw hK hc i pins s σ H E I hf st hg;subst hP hw hK;obtain⟨xs,x,hq,hx⟩:=hg;obtain⟨its,rv,p,hz⟩:=I.list hq;obtain⟨u,hu,ru⟩:=rv.get hx;obtain⟨f0,f1,f2,f3,f4,f5⟩:=hf it (by simp);refine wpAny_pyNext_list_item st p.isList (x:=u) (by simpa using hu) fun h' st' sb=>?_;have I1:Inv X pins σ H { s with heap:=h' }:=I.turned (t':=s.toks) (fun b o hb e=>(sb.2 b hb).trans e) f0 f1 f3 f4 f5;obtain⟨o,e,c,d⟩:=id st';exact⟨u,rfl,qdC (s:={ s with heap:=h' }) e c d (by decide) ⟨x,H,I1,ru,⟨rfl,fun ys hy=>by rw[I.list_inj hy hq];exact hx⟩,st',fun b hb=>(hf b hb).1⟩⟩
 done:=by
   intro X hP hw hK hc i pins s σ H E I hf st hg;subst hP hw hK;obtain⟨xs,hq,hx⟩:=hg;obtain⟨its,rv,p,hz⟩:=I.list hq;obtain⟨f0,f1,f2,f3,f4,f5⟩:=hf it (by simp);have hl:=rv.length;exact wpAny_pyNext_list_end (I.ok.hd hc) st p.isList (by simp;omega) fun h' eb=>⟨rfl,I.turned (t':=s.toks) (fun b o hb e=>eb b o hb e) f0 f1 f3 f4 f5⟩
 self:=fun _ _ _ _ _ st h=>wpAny_pyIter_listiter st h
theorem Jn {P:Program}{w:World}{K:Frag}{tg:Expr} (it:Addr) (lo:Int) (n:Nat):qdL P w K tg (Itr lo n) [it] it (fun i h=>IsRangeIter h it (lo+(i:Nat) * 1) ((n:Int) - (i:Nat)) 1) where
 mem:=by simp
 obj:=fun i h st b hb=>by
   have e:b=it:=by simpa using hb
   subst e
   exact⟨_,st,fun v z=>by
     have z':Data.fields _=Data.cell v:=z
     cases z'⟩
 keep:=fun i h h' st k=>k it (by simp) _ st
 item:=by
   intro X hP hw hK hc i pins s σ H E I hf st hg;subst hP hw hK;obtain⟨f0,f1,f2,f3,f4,f5⟩:=hf it (by simp);have W:=Walks.range (prog:=X.prog) (w:=X.w) (I.ok.hd hc) it lo 1 n;refine W.item i s _ _ hg st fun v h' tk hv st' kk=>?_;obtain⟨t,rfl⟩:=hv;have I1:Inv X pins σ H { s with heap:=h',toks:=tk }:=I.turned (fun b o hb e=>kk b o (by simpa using hb) e) f0 f1 f3 f4 f5;refine⟨_,rfl,qdC (s:={ s with heap:=h',toks:=tk }) (n:="range_iterator") st' rfl rfl (by decide) ⟨.int (lo+i),H,I1,⟨t,?_⟩,⟨rfl,rfl⟩,st',fun b hb=>(hf b hb).1⟩⟩;rw[Int.mul_one]
 done:=by
   intro X hP hw hK hc i pins s σ H E I hf st hg;subst hP hw hK;obtain⟨f0,f1,f2,f3,f4,f5⟩:=hf it (by simp);exact wpAny_pyNext_range_end (I.ok.hd hc) st (by have:n≤i:=hg;omega) fun h' eb=>⟨rfl,I.turned (t':=s.toks) (fun b o hb e=>eb b o hb e) f0 f1 f3 f4 f5⟩
 self:=fun _ _ _ _ _ st h=>wpAny_pyIter_rangeiter st h
section
variable {X:Cx}{tg:Expr}
inductive qaB (K:Frag) (R:(It->Hp->Prop)) (x:V) (H1:Hp):Prop
 | mk (a:_) (h1:x=.ref a) (h2:(∃ xs,SqL K H1 a xs)) (h3:R (Itl K a) H1):qaB K R x H1
def qed (K:Frag) (tl:TE):TI:=fun σ H R=>tl σ H fun x H1=>qaB K R x H1
theorem ze {l:Expr}{tl:TE} (hl:PE X l tl):PI X tg l (qed X.K tl):=by
 intro pins s σ H R I h;refine thn (hl pins s σ H _ I h) fun v s1 zz_=>?_;obtain⟨x,H1,I1,r1,q1⟩:=zz_;obtain⟨a,e,⟨xs,hq⟩,q⟩:=q1;subst e;cases r1;obtain⟨its,rv,p,hz⟩:=I1.list hq;refine wpAny_pyIter_list p.isList ?_;refine⟨s1.heap.objs.size,[s1.heap.objs.size],_,_,H1,rfl,I1.kept (t':=s1.toks) fun b o e=>Heap.get?_push_of_some _ e,JR a _,⟨_,Heap.get?_push_size _ rfl,rfl,rfl⟩,fun b hb=>?_,q⟩;have e:b=s1.heap.objs.size:=by simpa using hb
 subst e;exact I1.fpOk (Nat.le_refl _) (I1.hok.fresh (Nat.le_refl _))
theorem qbc {pins:List (Addr×Obj)}{σ:St}{H:Hp}{s:Shared}{R:It->Hp->Prop}{E:Value->Shared->Prop}{lo hi:Int}{t u v:Tok}{tk:Nat} (I:Inv X pins σ H s) (h1:-(2 ^ 62)≤lo) (h2:lo < 2 ^ 62) (h3:-(2 ^ 62)≤hi) (h4:hi < 2 ^ 62)
   (q:R (Itr lo (hi - lo).toNat) H):wpAny (model X.prog X.w) X.A (pyIter (.ref s.heap.objs.size)) (PIE X pins σ tg R) E { s with heap:=s.heap.push { cls:=.type "range",data:=.fields #[.int lo t,.int hi u,.int 1 v] },toks:=tk }:=by
 refine wpAny_pyIter_range (IsRange.new ..) (small_one h1 h2 h3 h4) ?_;have I1:Inv X pins σ H { s with heap:=s.heap.push { cls:=.type "range",data:=.fields #[.int lo t,.int hi u,.int 1 v] },toks:=tk }:=I.kept fun b o e=>Heap.get?_push_of_some _ e
 refine⟨(s.heap.push { cls:=.type "range",data:=.fields #[.int lo t,.int hi u,.int 1 v] }).objs.size,[(s.heap.push { cls:=.type "range",data:=.fields #[.int lo t,.int hi u,.int 1 v] }).objs.size],_,_,H,rfl,
   I1.kept (t':=tk) fun b o e=>Heap.get?_push_of_some _ e,Jn _ lo (hi - lo).toNat,?_,fun b hb=>?_,q⟩
 · have e1:lo+((0:Nat):Int) * 1=lo:=by simp
   have e2:(((hi - lo).toNat:Nat):Int) - ((0:Nat):Int)=Builtin.Range.rangeSize lo hi 1:=by rw[rangeSize_one];split<;>omega
   show IsRangeIter _ _ (lo+((0:Nat):Int) * 1) ((((hi - lo).toNat:Nat):Int) - ((0:Nat):Int)) 1;rw[e1,e2];exact Heap.get?_push_size _ rfl
 · have e:b=(s.heap.push { cls:=.type "range",data:=.fields #[.int lo t,.int hi u,.int 1 v] }).objs.size:=by simpa using hb
   subst e;exact I1.fpOk (Nat.le_refl _) (I1.hok.fresh (Nat.le_refl _))
inductive qaA (R:(It->Hp->Prop)) (vs:List V) (H1:Hp):Prop
 | mk (j:Int) (h1:vs=[.int j]) (h2:-(2 ^ 62)≤j) (h3:j < 2 ^ 62) (h4:R (Itr 0 j.toNat) H1):qaA R vs H1
def qec (ta:TA):TI:=fun σ H R=>ta σ H fun vs H1=>qaA R vs H1
theorem zk {a:Expr}{ta:TA}{p pos:Pos} (hg:Gl X "range") (hm:X.mg "range"=none) (ha:PA X [a] ta) (hs:starEach [a] X.env=[(false,eval a X.env)]:=by rfl):PI X tg (.Call (.Name "range" p) [a] [] pos) (qec ta):=by
 intro pins s σ H R I h;refine Call_ (QO I hg hm boot_range (PyProof.Rows.callWith_type1 (thn (ha pos pins s σ H _ I h) fun us s1 zz_=>?_) hs rfl));obtain⟨vs,H1,I1,r1,q1⟩:=zz_;obtain⟨j,e,q1,q2,q⟩:=q1;subst e
 cases r1 with
 | cons r rr =>
   cases rr;obtain⟨t,rfl⟩:=r;exact call_range_1 (qbc I1 (by omega) (by omega) q1 q2 (by simpa using q))
def qdY (wi:TI) (g:TG) (tb:TS):TS:=fun D σ H=>wi σ H fun J H1=>∃ W:Nat->Nat->St->Hp->Prop,(∃ m,W 0 m σ H1)∧∀ i m σ H,W i m σ H ->
 (J.stop i H∧D.nx σ H)∨(J.go i H∧∃ N:St->Hp->Prop,(∀ σ' H',N σ' H'->∃ m',m' < m∧W (i+1) m' σ' H')∧∀ x H',J.yld i H x H'->g x σ H' fun σ2 H2=>tb { D with nx:=N,ct:=N,bk:=D.nx } σ2 H2)
def ZE (fp:List Addr) (h:Heap):List (Addr×Obj):=fp.filterMap fun b=>(h.get? b).map fun o=>(b,o)
theorem qW {fp:List Addr}{h:Heap}{b:Addr}{o:Obj} (hb:b∈fp) (e:h.get? b=some o):(b,o)∈ZE fp h:=List.mem_filterMap.mpr ⟨b,hb,by rw[e];rfl⟩
theorem qao {fp:List Addr}{h:Heap}{p:Addr×Obj} (hp:p∈ZE fp h):p.1∈fp∧h.get? p.1=some p.2:=by
 obtain⟨b,hb,e⟩:=List.mem_filterMap.mp hp
 cases q:h.get? b with
 | none=>rw[q]at e;cases e
 | some o =>
   rw[q]at e;have e':(b,o)=p:=Option.some.inj e;subst e';exact⟨hb,q⟩
theorem Inv.pinned {pins:List (Addr×Obj)}{σ:St}{H:Hp}{s:Shared}{fp:List Addr} (I:Inv X pins σ H s) (hf:∀ b∈fp,JJ X pins H b) (ho:∀ b∈fp,∃ o,s.heap.get? b=some o∧∀ v,o.data≠.cell v):Inv X (pins++ZE fp s.heap) σ H s :=
 I.pins_of fun p hp=>(List.mem_append.mp hp).elim (fun z=>I.pin p (List.mem_append_right _ z)) fun z=>by
   obtain⟨hb,e⟩:=qao z;obtain⟨f0,f1,f2,_⟩:=hf p.1 hb;obtain⟨o,e',d⟩:=ho p.1 hb;rw[e]at e';cases e';exact⟨e,f0,f1,f2,d⟩
theorem Inv.unpinned {pins pl:List (Addr×Obj)}{σ:St}{H:Hp}{s:Shared} (I:Inv X (pins++pl) σ H s):Inv X pins σ H s:=I.pins_of fun p hp=>I.pin p (List.mem_append_right _ (List.mem_append_left _ hp))
theorem zT {iter:Expr}{body:List Stmt}{wi:TI}{g:TG}{tb:TS}{pos:Pos} (hp:PassesOwn (model X.prog X.w) X.A X.env X.xe) (hc:X.calm=true) (hi:PI X tg iter wi) (hg:PG X tg g) (hb:PSs X body tb)
   (hs:∀ x,foldedSetIterable iter X.env x=pure x:=by intro _;rfl):PS X (.For tg iter body [] pos) (qdY wi g tb):=by
 intro pins s σ H D I h;refine wpAny_For (thn (hi pins s σ H _ I h) fun v s1 h1=>thn h1 fun itv s2 h2=>?_) hs;obtain⟨it,fp,tn,J,H2,e,I2,T,st2,f2,W,⟨m0,w0⟩,turn⟩:=h2;subst e
 -- what stays true of the iterator's objects through the loop
 have stat:∀ {H':Hp},(∀ b∈fp,H' b=none)->∀ b∈fp,JJ X pins H' b:=fun hn b hb=>⟨hn b hb,(f2 b hb).2⟩
 refine codeAny_forLoop_any (fun n s'=>∃ i σ' H',Inv X pins σ' H' s'∧tn i s'.heap∧(∀ b∈fp,H' b=none)∧W i n σ' H') ?_ m0 ⟨0,σ,H2,I2,st2,fun b hb=>(f2 b hb).1,w0⟩;rintro n s3 ⟨i,σ3,H3,I3,st3,fr3,w3⟩;rcases turn i n σ3 H3 w3 with ⟨stop,qn⟩|⟨go,N,hN,step⟩
 · refine wpAny_passesOwn hp (thn (T.done X rfl rfl rfl hc i pins s3 σ3 H3 X.xe I3 (stat fr3) st3 stop) fun r s4 ⟨hr,I4⟩=>?_);subst hr;exact wpAny_execs_nil ⟨σ3,H3,I4,qn⟩
 · refine wpAny_passesOwn hp (thn (T.item X rfl rfl rfl hc i pins s3 σ3 H3 X.xe I3 (stat fr3) st3 go) fun r s4 ⟨u,hr,h4⟩=>?_);subst hr;refine wpAny_passesOwn hp (thn h4 fun _ s5 zz_=>?_);obtain⟨x,H5,I5,r5,y5,st5,fr5⟩:=zz_;have I5':=I5.pinned (stat fr5) (T.obj _ _ st5);refine wpAny_passesOwn hp (thn (hg _ s5 σ3 H5 x u _ I5' r5 (step x H5 y5)) fun _ s6 zz_=>?_);obtain⟨σ6,H6,I6,q6⟩:=zz_;refine wpAny_passesOwn hp (thn (hb _ s6 σ6 H6 _ I6 q6) fun f s7 q7=>?_)
   have again:∀ {σ7:St}{H7:Hp},Inv X (pins++ZE fp s5.heap) σ7 H7 s7->N σ7 H7->∃ m,m < n∧∃ i σ' H',Inv X pins σ' H' s7∧tn i s7.heap∧(∀ b∈fp,H' b=none)∧W i m σ' H':=fun {σ7 H7} I7 n7=>by
     obtain⟨m',hm,w7⟩:=hN σ7 H7 n7;refine⟨m',hm,i+1,σ7,H7,I7.unpinned,T.keep _ _ _ st5 fun b hb o e=>(I7.pin (b,o) (List.mem_append_right _ (List.mem_append_right _ (qW hb e)))).1,fun b hb=>?_,w7⟩;obtain⟨o,e,d⟩:=T.obj _ _ st5 b hb;exact(I7.pin (b,o) (List.mem_append_right _ (List.mem_append_right _ (qW hb e)))).2.1
   cases f with
   | next=>obtain⟨σ7,H7,I7,n7⟩:=q7;exact again I7 n7
   | cont=>obtain⟨σ7,H7,I7,n7⟩:=q7;exact again I7 n7
   | brk=>obtain⟨σ7,H7,I7,q7⟩:=q7;exact⟨σ7,H7,I7.unpinned,q7⟩
   | ret v=>obtain⟨x7,σ7,H7,I7,r7,q7⟩:=q7;exact⟨x7,σ7,H7,I7.unpinned,r7,q7⟩
end
theorem Qt {K:Frag}{a:Addr}{xs:List V}{g:TG}{tb:TS}{D:qa1}{σ:St}{H:Hp} (Pv:Nat->St->Hp->Prop) (h0:Pv 0 σ H) (hl:∀ i σ H,i≤xs.length->Pv i σ H->SqL K H a xs)
   (hs:∀ i x σ H,xs[i]?=some x->Pv i σ H->g x σ H fun σ2 H2=>tb { D with nx:=Pv (i+1),ct:=Pv (i+1),bk:=D.nx } σ2 H2) (hd:∀ σ H,Pv xs.length σ H->D.nx σ H) :
   ∃ W:Nat->Nat->St->Hp->Prop,(∃ m,W 0 m σ H)∧∀ i m σ H,W i m σ H ->
     ((Itl K a).stop i H∧D.nx σ H)∨((Itl K a).go i H∧∃ N:St->Hp->Prop,(∀ σ' H',N σ' H'->∃ m',m' < m∧W (i+1) m' σ' H')∧∀ x H',(Itl K a).yld i H x H'->g x σ H' fun σ2 H2=>tb { D with nx:=N,ct:=N,bk:=D.nx } σ2 H2):=by
 refine⟨fun i m σ H=>m=xs.length - i∧i≤xs.length∧Pv i σ H,⟨xs.length,by simp,Nat.zero_le _,h0⟩,?_⟩;rintro i m σ H ⟨rfl,hi,p⟩;have q:=hl i σ H hi p;by_cases hlt:i < xs.length
 · refine .inr ⟨⟨xs,xs[i],q,by simp[hlt]⟩,Pv (i+1),fun σ' H' p'=>⟨xs.length - (i+1),by omega,rfl,hlt,p'⟩,fun x H' y=>?_⟩;obtain⟨e,y⟩:=y;subst e;exact hs i x σ _ (y xs q) p
 · have e:i=xs.length:=by omega
   subst e;exact .inl ⟨⟨xs,q,Nat.le_refl _⟩,hd σ H p⟩
theorem Zi {lo:Int}{n:Nat}{g:TG}{tb:TS}{D:qa1}{σ:St}{H:Hp} (Pv:Nat->St->Hp->Prop) (h0:Pv 0 σ H)
   (hs:∀ i σ H,i < n->Pv i σ H->g (.int (lo+i)) σ H fun σ2 H2=>tb { D with nx:=Pv (i+1),ct:=Pv (i+1),bk:=D.nx } σ2 H2) (hd:∀ σ H,Pv n σ H->D.nx σ H) :
   ∃ W:Nat->Nat->St->Hp->Prop,(∃ m,W 0 m σ H)∧∀ i m σ H,W i m σ H ->
     ((Itr lo n).stop i H∧D.nx σ H)∨((Itr lo n).go i H∧∃ N:St->Hp->Prop,(∀ σ' H',N σ' H'->∃ m',m' < m∧W (i+1) m' σ' H')∧∀ x H',(Itr lo n).yld i H x H'->g x σ H' fun σ2 H2=>tb { D with nx:=N,ct:=N,bk:=D.nx } σ2 H2):=by
 refine⟨fun i m σ H=>m=n - i∧i≤n∧Pv i σ H,⟨n,by simp,Nat.zero_le _,h0⟩,?_⟩;rintro i m σ H ⟨rfl,hi,p⟩;by_cases hlt:i < n
 · refine .inr ⟨hlt,Pv (i+1),fun σ' H' p'=>⟨n - (i+1),by omega,rfl,hlt,p'⟩,fun x H' y=>?_⟩;obtain⟨e,y⟩:=y;subst e y;exact hs i σ _ hlt p
 · have e:i=n:=by omega
   subst e;exact .inl ⟨Nat.le_refl _,hd σ H p⟩
theorem qa4 {c:TT}{tb:TS}{D:qa1}{σ:St}{H:Hp} (Pv:St->Hp->Prop) (μ:St->Hp->Nat) (h0:Pv σ H)
   (hs:∀ σ H,Pv σ H->c σ H fun b H1=>if b=true then tb { D with nx:=fun σ' H'=>Pv σ' H'∧μ σ' H' < μ σ H,ct:=fun σ' H'=>Pv σ' H'∧μ σ' H' < μ σ H,bk:=D.nx } σ H1 else D.nx σ H1)
   (mono:∀ σ H Q Q',(∀ b H1,Q b H1->Q' b H1)->c σ H Q->c σ H Q'):JT c tb D σ H:=by
 refine⟨fun m σ H=>m=μ σ H∧Pv σ H,⟨_,rfl,h0⟩,?_⟩;rintro m σ H ⟨rfl,p⟩;refine mono σ H _ _ (fun b H1 q=>?_) (hs σ H p)
 cases b with
 | true=>exact⟨_,fun σ' H' ⟨p',l⟩=>⟨_,l,rfl,p'⟩,q⟩
 | false=>exact q
abbrev R2:=V->V->Hp->VK->Prop
def OpR (X:Cx) (f:Value->Value->Sem Value) (r:R2):Prop :=
 ∀ (pins:List (Addr×Obj)) (s:Shared) (σ:St) (H:Hp) (x y:V) (v u:Value) (Q:VK),Inv X pins σ H s->RelV x v->RelV y u->r x y H Q ->
   wpAny (model X.prog X.w) X.A (f v u) (EP X pins σ Q) X.xe s
def QD (X:Cx) (f:Value) (r:List V->Hp->VK->Prop):Prop :=
 ∀ (pins:List (Addr×Obj)) (s:Shared) (σ:St) (H:Hp) (xs:List V) (us:List Value) (Q:VK),Inv X pins σ H s->Vals xs us->r xs H Q ->
   wpAny (model X.prog X.w) X.A (call f us) (EP X pins σ Q) X.xe s
def qe8 (X:Cx) (r:V->Hp->(Bool->Hp->Prop)->Prop):Prop :=
 ∀ (pins:List (Addr×Obj)) (s:Shared) (σ:St) (H:Hp) (x:V) (v:Value) (Q:Bool->Hp->Prop),Inv X pins σ H s->RelV x v->r x H Q ->
   wpAny (model X.prog X.w) X.A (truthy v) (TP X pins σ Q) X.xe s
def tOp (r:R2) (ta tb:TE):TE:=fun σ H Q=>ta σ H fun x H1=>tb σ H1 fun y H2=>r x y H2 Q
inductive qeE (C:Int->Int->Prop) (g:Int->Int->V) (x:V) (y:V) (H:Hp) (Q:VK):Prop
 | mk (i j:_) (h1:x=.int i) (h2:y=.int j) (h3:C i j) (h4:Q (g i j) H):qeE C g x y H Q
def rI (C:Int->Int->Prop) (g:Int->Int->V):R2:=fun x y H Q=>qeE C g x y H Q
inductive qdk (g:Int->Int->V) (x:V) (y:V) (H:Hp) (Q:VK):Prop
 | mk (i j:_) (h1:x=.int i) (h2:y=.int j) (h3:Q (g i j) H):qdk g x y H Q
def rI0 (g:Int->Int->V):R2:=fun x y H Q=>qdk g x y H Q
section
variable {X:Cx}{a b c:Expr}{ta tb tc:TE}{pos:Pos}
theorem qeo (ha:PE X a ta) (hb:PE X b tb) {pins:List (Addr×Obj)}{s:Shared}{σ:St}{H:Hp}{R:V->V->Hp->Prop} (I:Inv X pins σ H s)
   (h:ta σ H fun x H1=>tb σ H1 fun y H2=>R x y H2) {Q:Value->Shared->Prop}{f:Value->Value->Sem Value}
   (hf:∀ v u s2 x y H2,Inv X pins σ H2 s2->RelV x v->RelV y u->R x y H2->wpAny (model X.prog X.w) X.A (f v u) Q X.xe s2) :
   wpAny (model X.prog X.w) X.A (eval a X.env) (fun v s₁=>wpAny (model X.prog X.w) X.A (eval b X.env) (fun u s₂=>wpAny (model X.prog X.w) X.A (f v u) Q X.xe s₂) X.xe s₁) X.xe s:=by
 refine thn (ha pins s σ H _ I h) fun v s1 zz_=>?_;obtain⟨x,H1,I1,r1,q1⟩:=zz_;refine thn (hb pins s1 σ H1 _ I1 q1) fun u s2 zz_=>?_;obtain⟨y,H2,I2,r2,q2⟩:=zz_;exact hf v u s2 x y H2 I2 r1 r2 q2
theorem qy {op:Operator}{r:R2} (ho:OpR X (binaryOp op) r) (ha:PE X a ta) (hb:PE X b tb):PE X (.BinOp a op b pos) (tOp r ta tb):=by
 intro pins s σ H Q I h;exact wpAny_BinOp (qeo ha hb I h fun v u s2 x y H2 I2 rx ry q=>ho pins s2 σ H2 x y v u Q I2 rx ry q)
theorem opI {f:Value->Value->Sem Value}{C:Int->Int->Prop}{g:Int->Int->Int}
   (rule:∀ (i j:Int) (t u:Tok) (s:Shared) (Q:Value->Shared->Prop) (E:Value->Shared->Prop),C i j->Q (.int (g i j) s.toks) { s with toks:=s.toks+1 }->wpAny (model X.prog X.w) X.A (f (.int i t) (.int j u)) Q E s) :
   OpR X f (rI C fun i j=>.int (g i j)):=by
 intro pins s σ H x y v u Q I rx ry h;obtain⟨i,j,rfl,rfl,hc,q⟩:=h;obtain⟨t,rfl⟩:=rx;obtain⟨t',rfl⟩:=ry;exact rule i j t t' s _ _ hc ⟨.int (g i j),H,I.tok _,⟨_,rfl⟩,q⟩
theorem qeH {f:Value->Value->Sem Value}{g:Int->Int->Int}
   (rule:∀ (i j:Int) (t u:Tok) (s:Shared) (Q:Value->Shared->Prop) (E:Value->Shared->Prop),Q (.int (g i j) s.toks) { s with toks:=s.toks+1 }->wpAny (model X.prog X.w) X.A (f (.int i t) (.int j u)) Q E s) :
   OpR X f (rI0 fun i j=>.int (g i j)):=by
 intro pins s σ H x y v u Q I rx ry h;obtain⟨i,j,rfl,rfl,q⟩:=h;obtain⟨t,rfl⟩:=rx;obtain⟨t',rfl⟩:=ry;exact rule i j t t' s _ _ ⟨.int (g i j),H,I.tok _,⟨_,rfl⟩,q⟩
theorem qdT {f:Value->Value->Sem Value}{g:Int->Int->Bool}
   (rule:∀ (i j:Int) (t u:Tok) (s:Shared) (Q:Value->Shared->Prop) (E:Value->Shared->Prop),Q (.bool (g i j)) s->wpAny (model X.prog X.w) X.A (f (.int i t) (.int j u)) Q E s) :
   OpR X f (rI0 fun i j=>.bl (g i j)):=by
 intro pins s σ H x y v u Q I rx ry h;obtain⟨i,j,rfl,rfl,q⟩:=h;obtain⟨t,rfl⟩:=rx;obtain⟨t',rfl⟩:=ry;exact rule i j t t' s _ _ ⟨.bl (g i j),H,I,rfl,q⟩
def qfb (i j:Int):Prop:=0 < j∧j < 1073741824
def qfa (i j:Int):Prop:=0≤j∧j≤1000000∧i.natAbs < 2 ^ 64
def CMul (i j:Int):Prop:=(-(2 ^ 64) < i∧i < 2 ^ 64)∨(-(2 ^ 64) < j∧j < 2 ^ 64)
theorem CMul.ok {i j:Int} (h:CMul i j):IntMulOk i j:=by
 rcases h with ⟨h1,h2⟩|⟨h1,h2⟩
 · exact .of_left (intBits_le_64 h1 h2)
 · exact .of_right (intBits_le_64 h1 h2)
theorem op_add:OpR X (binaryOp .Add) (rI0 fun i j=>.int (i+j)):=qeH fun _ _ _ _ _ _ _ q=>add_int q
theorem ZF:OpR X (binaryOp .Sub) (rI0 fun i j=>.int (i - j)):=qeH fun _ _ _ _ _ _ _ q=>sub_int q
theorem Qo:OpR X (binaryOp .Mult) (rI CMul fun i j=>.int (i * j)):=opI fun _ _ _ _ _ _ _ hc q=>mul_int q hc.ok
theorem Qx:OpR X (binaryOp .FloorDiv) (rI qfb fun i j=>.int (i / j)):=opI fun i j _ _ _ _ _ hc q=>by
 have h1:(0:Int) < j:=hc.1;have h2:j < 1073741824:=hc.2;exact floordiv_int (by omega) (by rw[Int.fdiv_eq_ediv_of_nonneg i (by omega)];exact q) (.inl (PyProof.noPylong_small (by omega)))
theorem QN:OpR X (binaryOp .Mod) (rI (fun _ j=>0 < j) fun i j=>.int (i % j)):=opI fun i j _ _ _ _ _ hc q=>by
 have h1:(0:Int) < j:=hc;exact mod_int' (by omega) (by rw[Int.fmod_eq_emod_of_nonneg i (by omega)];exact q)
theorem qah:OpR X (binaryOp .Pow) (rI qfa fun i j=>.int (i ^ j.toNat)):=opI fun _ _ _ _ _ _ _ hc q=>pow_int_small hc.1 hc.2.1 hc.2.2 q
end
def qd4:V->V->Bool
 | .non,.non=>true|.non,.int _=>true|.int _,.non=>true|.non,.bl _=>true|.bl _,.non=>true|.non,.str _=>true|.str _,.non=>true
 | .int _,.int _=>true|.bl _,.bl _=>true|.str _,.str _=>true|.byt _,.byt _=>true
 | .int _,.str _=>true|.str _,.int _=>true|.bl _,.str _=>true|.str _,.bl _=>true
 | _,_=>false
def rEq:R2:=fun x y H Q=>qd4 x y=true∧Q (.bl (decide (x=y))) H
def rNe:R2:=fun x y H Q=>qd4 x y=true∧Q (.bl (!decide (x=y))) H
theorem qaJ {i j:Int}:decide (V.int i=V.int j)=(i == j):=by
 rw[Bool.eq_iff_iff];simp
theorem qcn {i j:Bool}:decide (V.bl i=V.bl j)=(i == j):=by
 rw[Bool.eq_iff_iff];simp
theorem qaI {i j:Str}:decide (V.str i=V.str j)=(i == j):=by
 rw[Bool.eq_iff_iff];simp
theorem qaK {i j:Array UInt8}:decide (V.byt i=V.byt j)=(i.toList == j.toList):=by
 rw[Bool.eq_iff_iff];cases i;cases j;simp
section
variable {X:Cx}{a b c:Expr}{ta tb tc:TE}{pos:Pos}
theorem qG {pins:List (Addr×Obj)}{σ:St}{H:Hp}{s:Shared}{Q:VK}{k k':Bool} (I:Inv X pins σ H s) (q:Q (.bl k) H) (e:k=k'):EP X pins σ Q (.bool k') s:=by
 subst e;exact⟨.bl k,H,I,rfl,q⟩
theorem op_eq:OpR X (compareOp .Eq) rEq:=by
 intro pins s σ H x y v u Q I rx ry h;obtain⟨hs,q⟩:=h
 cases x with
 | non =>
   cases rx
   cases y with
   | non=>cases ry;exact PySem.EqNone.eq_none_none (qG I q (by simp))
   | bl j=>cases ry;exact PySem.EqNone.eq_none_bool (qG I q (by simp))
   | int j=>obtain⟨t',rfl⟩:=ry;exact PySem.EqNone.eq_none_int (qG I q (by simp))
   | str j=>obtain⟨t',rfl⟩:=ry;exact PySem.EqNone.eq_none_str (qG I q (by simp))
   | _=>exact absurd (show false=true from hs) Bool.false_ne_true
 | bl i =>
   cases rx
   cases y with
   | non=>cases ry;exact PySem.EqNone.eq_bool_none (qG I q (by simp))
   | bl j=>cases ry;exact eq_bool (qG I q qcn)
   | str j=>obtain⟨t',rfl⟩:=ry;exact PySem.EqMixed.eq_bool_str (qG I q (by simp))
   | _=>exact absurd (show false=true from hs) Bool.false_ne_true
 | int i =>
   obtain⟨t,rfl⟩:=rx
   cases y with
   | non=>cases ry;exact PySem.EqNone.eq_int_none (qG I q (by simp))
   | int j=>obtain⟨t',rfl⟩:=ry;exact eq_int (qG I q qaJ)
   | str j=>obtain⟨t',rfl⟩:=ry;exact PySem.EqMixed.eq_int_str (qG I q (by simp))
   | _=>exact absurd (show false=true from hs) Bool.false_ne_true
 | str i =>
   obtain⟨t,rfl⟩:=rx
   cases y with
   | non=>cases ry;exact PySem.EqNone.eq_str_none (qG I q (by simp))
   | bl j=>cases ry;exact PySem.EqMixed.eq_str_bool (qG I q (by simp))
   | int j=>obtain⟨t',rfl⟩:=ry;exact PySem.EqMixed.eq_str_int (qG I q (by simp))
   | str j=>obtain⟨t',rfl⟩:=ry;exact eq_str (qG I q qaI)
   | _=>exact absurd (show false=true from hs) Bool.false_ne_true
 | byt i =>
   obtain⟨t,rfl⟩:=rx
   cases y with
   | byt j=>obtain⟨t',rfl⟩:=ry;exact PySem.W.eq_bytes (qG I q qaK)
   | _=>exact absurd (show false=true from hs) Bool.false_ne_true
 | _=>cases y<;>exact absurd (show false=true from hs) Bool.false_ne_true
theorem op_ne:OpR X (compareOp .NotEq) rNe:=by
 intro pins s σ H x y v u Q I rx ry h;obtain⟨hs,q⟩:=h
 cases x with
 | non =>
   cases rx
   cases y with
   | non=>cases ry;exact PySem.EqNone.ne_none_none (qG I q (by simp))
   | bl j=>cases ry;exact PySem.EqNone.ne_none_bool (qG I q (by simp))
   | int j=>obtain⟨t',rfl⟩:=ry;exact PySem.EqNone.ne_none_int (qG I q (by simp))
   | str j=>obtain⟨t',rfl⟩:=ry;exact PySem.EqNone.ne_none_str (qG I q (by simp))
   | _=>exact absurd (show false=true from hs) Bool.false_ne_true
 | bl i =>
   cases rx
   cases y with
   | non=>cases ry;exact PySem.EqNone.ne_bool_none (qG I q (by simp))
   | bl j=>cases ry;exact ne_bool (qG I q (congrArg not qcn))
   | str j=>obtain⟨t',rfl⟩:=ry;exact PySem.EqMixed.ne_bool_str (qG I q (by simp))
   | _=>exact absurd (show false=true from hs) Bool.false_ne_true
 | int i =>
   obtain⟨t,rfl⟩:=rx
   cases y with
   | non=>cases ry;exact PySem.EqNone.ne_int_none (qG I q (by simp))
   | int j=>obtain⟨t',rfl⟩:=ry;exact ne_int (qG I q (congrArg not qaJ))
   | str j=>obtain⟨t',rfl⟩:=ry;exact PySem.EqMixed.ne_int_str (qG I q (by simp))
   | _=>exact absurd (show false=true from hs) Bool.false_ne_true
 | str i =>
   obtain⟨t,rfl⟩:=rx
   cases y with
   | non=>cases ry;exact PySem.EqNone.ne_str_none (qG I q (by simp))
   | bl j=>cases ry;exact PySem.EqMixed.ne_str_bool (qG I q (by simp))
   | int j=>obtain⟨t',rfl⟩:=ry;exact PySem.EqMixed.ne_str_int (qG I q (by simp))
   | str j=>obtain⟨t',rfl⟩:=ry;exact ne_str (qG I q (congrArg not qaI))
   | _=>exact absurd (show false=true from hs) Bool.false_ne_true
 | byt i =>
   obtain⟨t,rfl⟩:=rx
   cases y with
   | byt j=>obtain⟨t',rfl⟩:=ry;exact PySem.W.ne_bytes (qG I q (congrArg not qaK))
   | _=>exact absurd (show false=true from hs) Bool.false_ne_true
 | _=>cases y<;>exact absurd (show false=true from hs) Bool.false_ne_true
theorem Jp:OpR X (compareOp .Lt) (rI0 fun i j=>.bl (decide (i < j))):=qdT fun _ _ _ _ _ _ _ q=>lt_int q
theorem qbn:OpR X (compareOp .LtE) (rI0 fun i j=>.bl (decide (i≤j))):=qdT fun _ _ _ _ _ _ _ q=>le_int q
theorem qbo:OpR X (compareOp .Gt) (rI0 fun i j=>.bl (decide (j < i))):=qdT fun _ _ _ _ _ _ _ q=>gt_int q
theorem qd9:OpR X (compareOp .GtE) (rI0 fun i j=>.bl (decide (j≤i))):=qdT fun _ _ _ _ _ _ _ q=>ge_int q
theorem ZG:OpR X (compareOp .Is) (fun x y H Q=>y=.non∧Q (.bl (decide (x=.non))) H):=by
 intro pins s σ H x y v u Q I rx ry h;obtain⟨rfl,q⟩:=h;cases ry;refine is_none_gen (qG I q ?_);cases x<;>first
   | (cases rx;rfl)
   | (obtain⟨t,rfl⟩:=rx;rfl)
theorem qai:OpR X (compareOp .IsNot) (fun x y H Q=>y=.non∧Q (.bl (!decide (x=.non))) H):=by
 intro pins s σ H x y v u Q I rx ry h;obtain⟨rfl,q⟩:=h;cases ry;refine isnot_none_gen (qG I q ?_);cases x<;>first
   | (cases rx;rfl)
   | (obtain⟨t,rfl⟩:=rx;rfl)
theorem OpR.or {f:Value->Value->Sem Value}{r r':R2} (h:OpR X f r) (h':OpR X f r'):OpR X f (fun x y H Q=>r x y H Q∨r' x y H Q):=by
 intro pins s σ H x y v u Q I rx ry q;rcases q with q|q
 · exact h pins s σ H x y v u Q I rx ry q
 · exact h' pins s σ H x y v u Q I rx ry q
theorem qE (b:Expr) {op:CmpOp} (h:op≠.In:=by decide) (h2:op≠.NotIn:=by decide):behindInMarks op b=false:=by
 have e1:(op == CmpOp.In)=false:=by cases op<;>first|rfl|exact absurd rfl h
 have e2:(op == CmpOp.NotIn)=false:=by cases op<;>first|rfl|exact absurd rfl h2
 cases b<;>simp[behindInMarks,e1,e2]
theorem ZY {op:CmpOp}{r:R2} (ho:OpR X (compareOp op) r) (ha:PE X a ta) (hb:PE X b tb) (hm:behindInMarks op b=false):PE X (.Compare a [op] [b] pos) (tOp r ta tb):=by
 intro pins s σ H Q I h;exact wpAny_Compare1 (qeo ha hb I h fun v u s2 x y H2 I2 rx ry q=>ho pins s2 σ H2 x y v u Q I2 rx ry q) hm
inductive JU (Q:(Bool->Hp->Prop)) (x:V) (H':Hp):Prop
 | mk (k:_) (h1:x=.bl k) (h2:Q k H'):JU Q x H'
def qc9 (t:TE):TT:=fun σ H Q=>t σ H fun x H'=>JU Q x H'
theorem qw {op:CmpOp}{r:R2} (ho:OpR X (compareOp op) r) (ha:PE X a ta) (hb:PE X b tb) (hm:behindInMarks op b=false):PT X (.Compare a [op] [b] pos) (qc9 (tOp r ta tb)):=by
 intro pins s σ H Q I h
 refine wpAny_isTrue_Compare1 (thn (ha pins s σ H _ I h) fun v s1 ⟨x,H1,I1,r1,q1⟩=>thn (hb pins s1 σ H1 _ I1 q1) fun u s2 ⟨y,H2,I2,r2,q2⟩ =>
   thn (ho pins s2 σ H2 x y v u _ I2 r1 r2 q2) fun c s3 ⟨z,H3,I3,r3,k,e,q3⟩=>?_) hm
 subst e;cases r3;exact wpAny_truthy_bool ⟨H3,I3,q3⟩
def qdd (r r':R2) (ta tb tc:TE):TE:=fun σ H Q=>ta σ H fun x H1=>tb σ H1 fun y H2=>r x y H2 fun z H3=>∃ k,z=.bl k ∧
 (if k=true then tc σ H3 fun w' H4=>r' y w' H4 Q else Q (.bl false) H3)
theorem qbg {op op':CmpOp}{r r':R2} (ho:OpR X (compareOp op) r) (ho':OpR X (compareOp op') r') (ha:PE X a ta) (hb:PE X b tb) (hc:PE X c tc)
   (hm:lastMarks [op,op'] [b,c]=false:=by with_unfolding_all rfl):PT X (.Compare a [op,op'] [b,c] pos) (qc9 (qdd r r' ta tb tc)):=by
 intro pins s σ H Q I h
 refine isTrue_chain (thn (ha pins s σ H _ I h) fun v s1 ⟨x,H1,I1,r1,q1⟩=>test_link (thn (hb pins s1 σ H1 _ I1 q1) fun u s2 ⟨y,H2,I2,r2,q2⟩ =>
   thn (ho pins s2 σ H2 x y v u _ I2 r1 r2 q2) fun d s3 ⟨z,H3,I3,r3,k,e,q3⟩=>?_)) hm
 subst e;cases r3;refine wpAny_truthy_bool ?_
 cases k with
 | false =>
   obtain⟨k',e',q'⟩:=q3;cases e';exact ite_ff ⟨H3,I3,q'⟩
 | true =>
   refine ite_tt (test_last (thn (hc pins s3 σ H3 _ I3 q3) fun w' s4 ⟨z',H4,I4,r4,q4⟩=>thn (ho' pins s4 σ H4 y z' u w' _ I4 r2 r4 q4) fun d' s5 zz_=>?_));obtain⟨z2,H5,I5,r5,k2,e2,q5⟩:=zz_;subst e2;cases r5;exact wpAny_truthy_bool ⟨H5,I5,q5⟩
def qeJ (K:Frag) (x:V) (H:Hp) (k:Bool):Prop :=
 match x with
 | .non=>k=false
 | .bl b=>k=b
 | .int i=>k=(i != 0)
 | .str y=>y.length≤sizeLine∧k=((y.length:Int) != 0)
 | .byt y=>y.size≤sizeLine∧k=((y.size:Int) != 0)
 | .ref p=>(∃ xs,SqL K H p xs∧k=!xs.isEmpty)∨(∃ xs,SqT K H p xs∧k=!xs.isEmpty)∨∃ kvs,H p=some (.dK kvs)∧k=!kvs.isEmpty
 | _=>False
theorem Jy {κ:Type}{kvs:List (κ×V)}{vs:List (κ×Value)} (r:KV kvs vs):(!vs.isEmpty)=!kvs.isEmpty:=by
 cases r<;>rfl
theorem ZI {xs:List V}{its:List Value} (r:Vals xs its):(!its.toArray.isEmpty)=!xs.isEmpty:=by
 cases r<;>simp
theorem ZH:(sizeLine:Nat) < 2 ^ 63:=by rw[sizeLine_eq];decide
theorem qc8:qe8 X (fun x H Q=>∃ k,qeJ X.K x H k∧Q k H):=by
 intro pins s σ H x v Q I rx h;obtain⟨k,e,q⟩:=h;have hl:=ZH;have hs:sizeLine=16777216:=sizeLine_eq
 cases x with
 | non =>
   cases rx;have e':k=false:=e;subst e';exact truthy_none ⟨H,I,q⟩
 | bl b =>
   cases rx;have e':k=b:=e;subst e';exact wpAny_truthy_bool ⟨H,I,q⟩
 | int i =>
   obtain⟨t,rfl⟩:=rx;have e':k=(i != 0):=e;subst e';exact PySem.P.truthy_int ⟨H,I,q⟩
 | str y =>
   obtain⟨t,rfl⟩:=rx;obtain⟨hy,e'⟩:y.length≤sizeLine∧k=((y.length:Int) != 0):=e;subst e';exact PySem.P.truthy_str (by omega) ⟨H,I.tok _,q⟩
 | byt y =>
   obtain⟨t,rfl⟩:=rx;obtain⟨hy,e'⟩:y.size≤sizeLine∧k=((y.size:Int) != 0):=e;subst e';exact PySem.W.truthy_bytes (by omega) ⟨H,I.tok _,q⟩
 | ref p =>
   cases rx;have e':(∃ xs,SqL X.K H p xs∧k=!xs.isEmpty)∨(∃ xs,SqT X.K H p xs∧k=!xs.isEmpty)∨∃ kvs,H p=some (.dK kvs)∧k=!kvs.isEmpty:=e;rcases e' with ⟨xs,hx,e'⟩|⟨xs,hx,e'⟩|⟨kvs,hx,e'⟩
   · subst e';obtain⟨its,r,pl,hz⟩:=I.list hx;have hlen:=r.length;exact wpAny_truthy_list pl.isList (by simp only[List.size_toArray];omega) ⟨H,I.tok _,by rw[ZI r];exact q⟩
   · subst e';obtain⟨its,r,pl,hz⟩:=I.tuple hx;have hlen:=r.length;exact truthy_tuple pl (by simp only[List.size_toArray];omega) ⟨H,I.tok _,by rw[ZI r];exact q⟩
   · subst e';obtain⟨hz,hS,vs,r,m⟩:kvs.length≤sizeLine∧(p == sysModules)=false∧∃ vs,KV kvs vs∧s.heap.DictOf (qA X.prog X.w) p vs:=I.hok p _ hx;have hlen:kvs.length=vs.length:=Paired.length r;exact wpAny_truthy_dict hS m (by omega) ⟨H,I.tok _,by rw[Jy r];exact q⟩
 | _=>exact(show False from e).elim
theorem qbf (ha:PE X a ta) (he:∀ whole,isTrue a X.env whole=(do let v ← whole;standAt a.pos;holding [v] (truthy v))) :
   PT X a (fun σ H Q=>ta σ H fun x H'=>∃ k,qeJ X.K x H' k∧Q k H'):=by
 intro pins s σ H Q I h;exact isTrue_plain (thn (ha pins s σ H _ I h) fun v s1 ⟨x,H1,I1,r1,q1⟩=>qc8 pins s1 σ H1 x v Q I1 r1 q1) (he _)
theorem Jq:OpR X (binaryOp .Add) (fun x y H Q=>∃ i j,x=.str i∧y=.str j∧i.length+j.length≤sizeLine∧Q (.str (i++j)) H):=by
 intro pins s σ H x y v u Q I rx ry h;obtain⟨i,j,rfl,rfl,hz,q⟩:=h;obtain⟨t,rfl⟩:=rx;obtain⟨t',rfl⟩:=ry;exact add_str (fun t' tk=>⟨.str (i++j),H,I.tok _,⟨_,rfl⟩,q⟩) hz
theorem QX {x:V}{us:List Value} (r:Vals [x] us):∃ u,us=[u]∧RelV x u:=by
 cases r with
 | cons r1 r2=>cases r2;exact⟨_,rfl,r1⟩
theorem JP {x y:V}{us:List Value} (r:Vals [x,y] us):∃ u w',us=[u,w']∧RelV x u∧RelV y w':=by
 cases r with
 | cons r1 r2 =>
   cases r2 with
   | cons r3 r4=>cases r4;exact⟨_,_,rfl,r1,r3⟩
theorem qbO:QD X (.builtin "abs") (fun xs H Q=>∃ i,xs=[.int i]∧Q (.int (if i < 0 then -i else i)) H):=by
 intro pins s σ H xs us Q I r h;obtain⟨i,rfl,q⟩:=h;obtain⟨u,rfl,t,rfl⟩:=QX r;exact call_abs_int fun u tk=>⟨.int (if i < 0 then -i else i),H,I.tok _,⟨_,rfl⟩,q⟩
theorem Zl (hc:X.calm=true):QD X (.builtin "max") (fun xs H Q=>∃ i j,xs=[.int i,.int j]∧Q (.int (if j > i then j else i)) H):=by
 intro pins s σ H xs us Q I r h;obtain⟨i,j,rfl,q⟩:=h;obtain⟨u,w',rfl,⟨t,rfl⟩,⟨t',rfl⟩⟩:=JP r;refine max_two_ints (I.ok.hd hc) fun h' tk k=>⟨_,H,I.kept k,?_,q⟩
 by_cases hj:j > i
 · rw[if_pos hj,if_pos hj];exact⟨_,rfl⟩
 · rw[if_neg hj,if_neg hj];exact⟨_,rfl⟩
theorem jr (hc:X.calm=true):QD X (.builtin "min") (fun xs H Q=>∃ i j,xs=[.int i,.int j]∧Q (.int (if j < i then j else i)) H):=by
 intro pins s σ H xs us Q I r h;obtain⟨i,j,rfl,q⟩:=h;obtain⟨u,w',rfl,⟨t,rfl⟩,⟨t',rfl⟩⟩:=JP r;refine min_two_ints (I.ok.hd hc) fun h' tk k=>⟨_,H,I.kept k,?_,q⟩
 by_cases hj:j < i
 · rw[if_pos hj,if_pos hj];exact⟨_,rfl⟩
 · rw[if_neg hj,if_neg hj];exact⟨_,rfl⟩
def qeM (K:Frag) (x:V) (H:Hp) (n:Nat):Prop :=
 match x with
 | .str y=>y.length≤sizeLine∧n=y.length
 | .byt y=>y.size≤sizeLine∧n=y.size
 | .ref p=>(∃ xs,SqL K H p xs∧n=xs.length)∨∃ xs,SqT K H p xs∧n=xs.length
 | _=>False
theorem qL:QD X (.builtin "len") (fun xs H Q=>∃ x n,xs=[x]∧qeM X.K x H n∧Q (.int n) H):=by
 intro pins s σ H xs us Q I r h;obtain⟨x,n,rfl,e,q⟩:=h;obtain⟨u,rfl,rx⟩:=QX r;have hl:=ZH;have hs:sizeLine=16777216:=sizeLine_eq
 cases x with
 | str y =>
   obtain⟨t,rfl⟩:=rx;obtain⟨hy,e'⟩:y.length≤sizeLine∧n=y.length:=e;subst e';exact len_str (by omega) ⟨.int _,H,I.tok _,⟨_,rfl⟩,q⟩
 | byt y =>
   obtain⟨t,rfl⟩:=rx;obtain⟨hy,e'⟩:y.size≤sizeLine∧n=y.size:=e;subst e';exact PySem.W.len_bytes (by omega) ⟨.int _,H,I.tok _,⟨_,rfl⟩,q⟩
 | ref p =>
   cases rx;have e':(∃ xs,SqL X.K H p xs∧n=xs.length)∨∃ xs,SqT X.K H p xs∧n=xs.length:=e;rcases e' with ⟨xs,hx,e'⟩|⟨xs,hx,e'⟩
   · subst e';obtain⟨its,r',pl,hz⟩:=I.list hx;have hlen:=r'.length;exact Calls.call_len_list pl.isList (by simp only[List.size_toArray];omega) ⟨.int xs.length,H,I.tok _,⟨_,by simp only[List.size_toArray];rw[hlen]⟩,q⟩
   · subst e';obtain⟨its,r',pl,hz⟩:=I.tuple hx;have hlen:=r'.length;exact len_tuple pl (by simp only[List.size_toArray];omega) ⟨.int xs.length,H,I.tok _,⟨_,by simp only[List.size_toArray];rw[hlen]⟩,q⟩
 | _=>exact(show False from e).elim
end
structure ObjM (h:Heap) (x dx C:Addr) (mA:Str->Option Value):Prop where
 obj:h.get? x=some (instObj C dx)
 ns:h.Ns1 dx mA
 ne:dx≠x
theorem qas {h:Heap}{dx:Addr}{mA:Str->Option Value} (n:h.Ns1 dx mA):∃ od,h.get? dx=some od∧∀ name,lookIn name od=some (mA name):=by
 obtain⟨o,es,ep,ho,hd,hk,_,hm⟩:=n;refine⟨o,ho,fun name=>?_⟩;have e:=hm name;unfold nsFind findBy at e;rw[← Array.find?_toList]at e;unfold lookIn;rw[hd];dsimp only;split
 · rename_i y q
   rw[q]at e;exact congrArg some e
 · rename_i q
   rw[q]at e
   have a:es.toList.any (·.refKey)=false:=by
     rw[List.any_eq_false];intro y hy;obtain⟨z,t,hkey⟩:=hk y (Array.mem_toList_iff.mp hy);simp[DictEntry.refKey,hkey]
   have a':¬ es.toList.any (·.refKey)=true:=by rw[a];exact Bool.false_ne_true
   rw[if_neg a'];exact congrArg some e
theorem ObjM.look {h:Heap}{x dx C:Addr}{mA:Str->Option Value} (I:ObjM h x dx C mA):∃ od,PySem.W.InstAt h x (instObj C dx) C (some od)∧∀ name,lookIn name od=some (mA name) :=
 let ⟨od,ho,hl⟩:=qas I.ns
 ⟨od,⟨I.obj,rfl,rfl,ho⟩,hl⟩
section
variable {prog:Program}{w:World}{A:Around}{E:Value->Shared->Prop}{s:Shared}{K:Frag}{x dx C f:Addr}{mA:Str->Option Value}{name:Str}{v:Value}
theorem qcQ {expr:Bool}{Q:Value->Shared->Prop} (X:K.In s.heap) (I:ObjM s.heap x dx C mA) (hg:plainGet K C name=true) (hh:hasDictIn K C=true)
   (ha:findIn K (.ref C) name=some none) (hv:mA name=some v) (hv':handedIn v=true) (h:Q v { s with toks:=s.toks+1 }) :
   wpAny (model prog w) A (getAttr (.ref x) name expr) Q E s:=by
 obtain⟨od,J,hl⟩:=I.look;exact PySem.W.get_value X J (plainGet_of hg).1 (PySem.W.findObj_own hh ha rfl (by rw[hl,hv])) hv' h
theorem qbB {pl:Sem Bool}{Q:Value×List Value->Shared->Prop} (X:K.In s.heap) (I:ObjM s.heap x dx C mA) (hg:plainGet K C name=true)
   (hf:findIn K (.ref C) name=some (some (.ref f))) (ht:isFn K (.ref f)=true) (hv:mA name=none) (h:Q (.ref f,[.ref x]) s) :
   wpAny (model prog w) A (getMethod (.ref x) name pl) Q E s:=by
 obtain⟨od,J,hl⟩:=I.look;exact PySem.W.method_fn X J (plainGet_of hg).1 (plainGet_of hg).2 hf (beq_iff_eq.mp ht) (by show (lookIn name od).map (·.isSome)=some false;rw[hl,hv];rfl) h
theorem qcx {ns:List Str}{Q:Unit->Shared->Prop} (X:K.In s.heap) (I:ObjM s.heap x dx C mA)
   (hs:findIn K (.ref C) "__setattr__"=some (some (.builtin "object.__setattr__"))) (hp:plainOver K C=true) (ht:takerIn K C name=some none) (hh:hasDictIn K C=true)
   (hw:PySem.Within mA ns) (hsz:ns.length≤sizeLine)
   (h:∀ h',ObjM h' x dx C (fun y=>if y=name then some v else mA y)->Heap.SameBut dx s.heap h'->Q () { s with heap:=h',toks:=s.toks+2 }) :
   wpAny (model prog w) A (setAttr (.ref x) name v) Q E s:=by
 obtain⟨od,J,hl⟩:=I.look;refine PySem.W.set_plain X J hs (PySem.W.osa_open (s:={ s with toks:=s.toks+1 }) (r:=none) X J hp ht fun b=>?_);obtain⟨cd,hc,hd'⟩:=PySem.W.any_some hh;have hx:s.heap.get? x=some ⟨.ref C,some dx,.plain,#[]⟩:=I.obj;refine wpAny_bind (wpAny_pure (wpAny_bind (wpAny_bind (wpAny_loadPart hx (wpAny_bind (PySem.W.Looks.here (s:={ s with toks:=s.toks+1 }) (PySem.W.looks_clsIn X hc) ?_))))));rw[hd'];refine wpAny_pure (a:=some dx) (wpAny_bind (wpAny_pure (wpAny_bind ?_)));refine wpAny_nsSet1 (s:={ s with toks:=s.toks+1 }) I.ns fun h' hn2 hs2=>?_;obtain⟨oD,esD,epD,hoD,hdD,hcD⟩:=hn2.count (PySem.Within.cons name v hw);refine wpAny_bind (wpAny_lookBehind hoD (by rw[hdD];exact pastItsLine_dict (Nat.le_trans hcD (by rw[List.length_cons];omega))) ?_);exact wpAny_pure (h _ ⟨(hs2.2 _ (Ne.symm I.ne)).trans I.obj,hn2,I.ne⟩ hs2)
theorem qbv {R:Result->Shared->Prop}{vs:List Value}{kw:List (Str×Value)} (X:K.In s.heap) (hm:makesIn K C=true)
   (hi:findIn K (.ref C) "__init__"=some (some (.ref f))) (hf:PySem.W.typeIn K (.ref f)=some (.type "function"))
   (h:codeAny (model prog w) (A.under (.builtin "type.__call__" ⟨.ref C::vs,kw⟩)) (.call (.ref f) ⟨.ref (s.heap.objs.size+1)::vs,kw⟩) (PySem.W.InitBack (s.heap.objs.size+1) R)
     { s with heap:=(s.heap.push emptyDict).push (instObj C s.heap.objs.size) }) :
   codeAny (model prog w) A (.call (.ref C) ⟨vs,kw⟩) R s:=by
 obtain⟨hh,g,d,t,os⟩:=s;exact PySem.W.make_core (PySem.W.makes_of X hm) (PySem.W.looks_findIn X hi) (fun self=>PySem.W.bind_fn X self hf) (.inl rfl) h
end
def qQ (f:Str) (v:V):List (Str×V)->List (Str×V)
 | []=>[(f,v)]
 | (g,x)::r=>if g=f then (g,v)::r else (g,x)::qQ f v r
theorem qi (f g:Str) (v:V):∀ fs:List (Str×V),(qQ f v fs).lookup g=if g=f then some v else fs.lookup g
 | []=>by
   show List.lookup g [(f,v)]=_;by_cases h:g=f
   · have hb:(g == f)=true:=beq_iff_eq.mpr h;simp only[List.lookup,hb,if_pos h]
   · have hb:(g == f)=false:=beq_eq_false_iff_ne.mpr h;simp only[List.lookup,hb,if_neg h]
 | (k,x)::r=>by
   have ih:=qi f g v r;rw[show qQ f v ((k,x)::r)=(if k=f then (k,v)::r else (k,x)::qQ f v r) from rfl];by_cases hk:k=f
   · rw[if_pos hk];by_cases h:g=k
     · have hb:(g == k)=true:=beq_iff_eq.mpr h;simp only[List.lookup,hb,if_pos (h.trans hk)]
     · have hb:(g == k)=false:=beq_eq_false_iff_ne.mpr h;simp only[List.lookup,hb,if_neg (fun e:g=f=>h (e.trans hk.symm))]
   · rw[if_neg hk];by_cases h:g=k
     · have hb:(g == k)=true:=beq_iff_eq.mpr h;simp only[List.lookup,hb,if_neg (fun e:g=f=>hk (h.symm.trans e))]
     · have hb:(g == k)=false:=beq_eq_false_iff_ne.mpr h;simp only[List.lookup,hb];exact ih
theorem Zf (f:Str) (v:V):∀ fs:List (Str×V),f∈(qQ f v fs).map (·.1)∧∀ g,g∈fs.map (·.1)->g∈(qQ f v fs).map (·.1)
 | []=>⟨by simp[qQ],fun g h=>by simp at h⟩
 | (k,x)::r=>by
   obtain⟨i1,i2⟩:=Zf f v r;rw[show qQ f v ((k,x)::r)=(if k=f then (k,v)::r else (k,x)::qQ f v r) from rfl];by_cases hk:k=f
   · rw[if_pos hk];subst hk;exact⟨by simp,fun g h=>by simpa using h⟩
   · rw[if_neg hk];refine⟨?_,fun g h=>?_⟩
     · rw[List.map_cons];exact List.mem_cons_of_mem _ i1
     · rw[List.map_cons]at h ⊢;rcases List.mem_cons.mp h with e|e
       · exact List.mem_cons.mpr (.inl e)
       · exact List.mem_cons_of_mem _ (i2 g e)
theorem zY (f:Str) (v:V):∀ fs:List (Str×V),(qQ f v fs).length≤fs.length+1
 | []=>by simp[qQ]
 | (k,x)::r=>by
   have ih:=zY f v r;rw[show qQ f v ((k,x)::r)=(if k=f then (k,v)::r else (k,x)::qQ f v r) from rfl];by_cases hk:k=f
   · rw[if_pos hk,List.length_cons,List.length_cons];omega
   · rw[if_neg hk,List.length_cons,List.length_cons];omega
theorem RelO.some_of {v:V}{o:Option Value} (r:RelO (some v) o):∃ u,o=some u∧RelV v u:=by
 cases o with
 | none=>exact(show False from r).elim
 | some u=>exact⟨u,rfl,r⟩
theorem RelO.none_of {o:Option Value} (r:RelO none o):o=none:=by
 cases o with
 | none=>rfl
 | some u=>exact(show False from r).elim
theorem qaE {v:V}{u:Value} (r:RelV v u):handedIn u=true:=by
 cases v with
 | non=>cases (show u=Value.none from r);rfl
 | bl b=>cases (show u=Value.bool b from r);rfl
 | int i=>obtain⟨t,e⟩:=(show ∃ t,u=Value.int i t from r);cases e;rfl
 | str x=>obtain⟨t,e⟩:=(show ∃ t,u=Value.str x t from r);cases e;rfl
 | byt b=>obtain⟨t,e⟩:=(show ∃ t,u=Value.bytes b t from r);cases e;rfl
 | flt b=>obtain⟨t,e⟩:=(show ∃ t,u=Value.float b t from r);cases e;rfl
 | ref a=>cases (show u=Value.ref a from r);rfl
 | ty n=>cases (show u=Value.type n from r);rfl
section
variable {P:Program}{w:World}{H H':Hp}{h h':Heap}{a C dx:Addr}{fs fs':List (Str×V)}
theorem Z6 (hok:HOk P w H h) (e:H a=some (.ins C dx fs)):∃ mA,ObjM h a dx C mA∧(∀ f,RelO (fs.lookup f) (mA f))∧PySem.Within mA (fs.map (·.1))∧fs.length≤1000∧H dx=some (.own a):=by
 obtain⟨d,z,ne,ob,mA,n,r,q⟩:=(show ObjOk P w H h a (.ins C dx fs) from hok a _ e)
 exact⟨mA,⟨ob,n,ne⟩,r,q,z,d⟩
end
structure Cls (K:Frag) (C:Addr):Prop where
 pg:plainGet K C Str.empty=true
 hd:hasDictIn K C=true
 po:plainOver K C=true
 sa:findIn K (.ref C) "__setattr__"=some (some (.builtin "object.__setattr__"))
theorem Cls.get {K:Frag}{C:Addr} (c:Cls K C) (f:Str):plainGet K C f=true:=c.pg
def NoAttr (K:Frag) (C:Addr) (f:Str):Prop:=findIn K (.ref C) f=some none
theorem NoAttr.taker {K:Frag}{C:Addr}{f:Str} (n:NoAttr K C f):takerIn K C f=some none:=by
 unfold takerIn;rw[show findIn K (.ref C) f=some none from n];rfl
structure qdQ (K:Frag) (C:Addr) (m:Str) (f:Addr):Prop where
 at_:findIn K (.ref C) m=some (some (.ref f))
 fn:isFn K (.ref f)=true
 kp:keepIn K (.ref f)=true
section
variable {X:Cx}{pins:List (Addr×Obj)}{σ:St}{H:Hp}{s:Shared}{a C dx:Addr}{fs:List (Str×V)}{f:Str}{v:V}{A:Around}{E:Value->Shared->Prop}
theorem Jz {b:Bool}{Q:Value->Shared->Prop} (I:Inv X pins σ H s) (e:H a=some (.ins C dx fs)) (c:Cls X.K C) (n:NoAttr X.K C f) (l:fs.lookup f=some v)
   (h:∀ u s',Inv X pins σ H s'->RelV v u->Q u s'):wpAny (model X.prog X.w) A (getAttr (.ref a) f b) Q E s:=by
 obtain⟨mA,O,r,_,_,_⟩:=Z6 I.hok e;obtain⟨u,hu,ru⟩:=RelO.some_of (v:=v) (o:=mA f) (by rw[← l];exact r f);exact qcQ I.kIn O (c.get f) c.hd n hu (qaE ru) (h u _ (I.tok _) ru)
theorem ZJ {m:Str}{g:Addr}{pl:Sem Bool}{Q:Value×List Value->Shared->Prop} (I:Inv X pins σ H s) (e:H a=some (.ins C dx fs)) (c:Cls X.K C) (k:qdQ X.K C m g) (l:fs.lookup m=none)
   (h:Q (.ref g,[.ref a]) s):wpAny (model X.prog X.w) A (getMethod (.ref a) m pl) Q E s:=by
 obtain⟨mA,O,r,_,_,_⟩:=Z6 I.hok e;have hn:mA m=none:=RelO.none_of (by rw[← l];exact r m);exact qbB I.kIn O (c.get m) k.at_ k.fn hn h
theorem Jo {y:V}{u:Value}{Q:Unit->Shared->Prop} (I:Inv X pins σ H s) (e:H a=some (.ins C dx fs)) (c:Cls X.K C) (n:NoAttr X.K C f) (hl:fs.length < 1000) (ry:RelV y u)
   (h:∀ s',Inv X pins σ (upd H a (.ins C dx (qQ f y fs))) s'->Q () s'):wpAny (model X.prog X.w) A (setAttr (.ref a) f u) Q E s:=by
 obtain⟨mA,O,r,wi,_,ho⟩:=Z6 I.hok e;have hz:(fs.map (·.1)).length≤sizeLine:=by rw[List.length_map,sizeLine_eq];omega
 refine qcx I.kIn O c.sa c.po n.taker c.hd wi hz fun h' O' sb=>h _ ?_;have hd:∃ o,h'.get? dx=some o:=let ⟨o,_,_,e',_⟩:=O'.ns;⟨o,e'⟩;refine I.write (x:=a) (e:=dx) (by rw[e];exact True.intro) (.inr ho) (fun b q hb z=>(sb.2 b hb).trans z) hd ?_;refine⟨by rw[qf O.ne];exact ho,?_,O.ne,O'.obj,_,O'.ns,fun g=>?_,fun g hg=>?_⟩
 · have:=zY f y fs;omega
 · show RelO ((qQ f y fs).lookup g) (if g=f then some u else mA g);rw[qi];by_cases q:g=f
   · rw[if_pos q,if_pos q];exact ry
   · rw[if_neg q,if_neg q];exact r g
 · by_cases q:g=f
   · rw[q];exact(Zf f y fs).1
   · refine(Zf f y fs).2 g (wi g fun z=>hg ?_);show (if g=f then some u else mA g)=none;rw[if_neg q];exact z
theorem Inv.made (I:Inv X pins σ H s):Inv X pins σ (upd (upd H s.heap.objs.size (.own (s.heap.objs.size+1))) (s.heap.objs.size+1) (.ins C s.heap.objs.size []))
   { s with heap:=(s.heap.push emptyDict).push (instObj C s.heap.objs.size) }:=by
 have e1:(s.heap.push emptyDict).get? s.heap.objs.size=some emptyDict:=Heap.get?_push_size s.heap rfl
 have e2:((s.heap.push emptyDict).push (instObj C s.heap.objs.size)).get? (s.heap.objs.size+1)=some (instObj C s.heap.objs.size):=by
   have:=Heap.get?_push_size (s.heap.push emptyDict) (o:=instObj C s.heap.objs.size) rfl
   rwa [Heap.size_push]at this
 have e3:(s.heap.push emptyDict).Ns s.heap.objs.size (fun _=>none):=⟨emptyDict,#[],_,e1,rfl,(fun e he=>absurd he (by simp)),fun _=>rfl⟩
 have I1:=I.laid (a:=s.heap.objs.size) (o:=.own (s.heap.objs.size+1)) (h':=s.heap.push emptyDict) (t':=s.toks) (fun b u q=>Heap.get?_push_of_some _ q) (Nat.le_refl _) ⟨_,e1⟩;refine I1.laid (a:=s.heap.objs.size+1) (o:=.ins C s.heap.objs.size []) (t':=s.toks) (fun b u q=>Heap.get?_push_of_some _ q) (Nat.le_of_eq (Heap.size_push _ _)) ?_;have ne:s.heap.objs.size≠s.heap.objs.size+1:=Nat.ne_of_lt (Nat.lt_succ_self _);refine⟨by rw[qf ne,upd_same],Nat.zero_le _,ne,e2,fun _=>none,(Heap.Ns1.of_empty e3).at fun o q=>Heap.get?_push_of_some _ q,fun _=>True.intro,fun y hy=>absurd rfl hy⟩
theorem qcY {prog:Program}{w:World}{env:Env}{e:Expr}{f:Str}{pos:Pos}{s:Shared}{Q:Value->Shared->Prop} (hb:attributeBase e f env (eval e env)=eval e env)
   (h:wpAny (model prog w) A (eval e env) (fun o s₁=>wpAny (model prog w) A (getAttr o f true) Q E s₁) E s):wpAny (model prog w) A (eval (.Attribute e f pos) env) Q E s :=
 Attribute_any_ h (by rw[arm_eval_Attribute,hb])
end
inductive qbW (K:Frag) (f:Str) (Q:VK) (x:V) (H1:Hp):Prop
 | mk (a C dx fs v:_) (h1:x=.ref a) (h2:H1 a=some (.ins C dx fs)) (h3:Cls K C) (h4:NoAttr K C f) (h5:fs.lookup f=some v) (h6:Q v H1):qbW K f Q x H1
def qeV (K:Frag) (ta:TE) (f:Str):TE:=fun σ H Q=>ta σ H fun x H1=>qbW K f Q x H1
def qeX (K:Frag) (ta tv:TE) (f:Str):TS:=fun D σ H=>tv σ H fun y H1=>ta σ H1 fun x H2=>∃ a C dx fs,x=.ref a∧H2 a=some (.ins C dx fs)∧Cls K C∧NoAttr K C f∧fs.length < 1000 ∧
 D.nx σ (upd H2 a (.ins C dx (qQ f y fs)))
section
variable {X:Cx}{o e value:Expr}{f:Str}{pos pos' tpos:Pos}{ta tv:TE}
theorem Qn (he:PE X e ta) (hb:attributeBase e f X.env (eval e X.env)=eval e X.env):PE X (.Attribute e f pos) (qeV X.K ta f):=by
 intro pins s σ H Q I h;refine qcY hb (thn (he pins s σ H _ I h) fun u s1 zz_=>?_);obtain⟨x,H1,I1,rx,a,C,dx,fs,v,ex,ea,c,n,l,q⟩:=zz_;subst ex;obtain rfl:u=Value.ref a:=rx;exact Jz I1 ea c n l fun u' s2 I2 ru=>⟨v,H1,I2,ru,q⟩
theorem ZB (ha:PE X o ta) (hv:PE X value tv) (hs:swapsWith value (some (.Attribute o f pos')) pos.line X.env=pure false):PS X (.Assign [.Attribute o f pos'] value pos) (qeX X.K ta tv f):=by
 intro pins s σ H D I h;refine plainObj_wpAny_Assign_Attribute (thn (hv pins s σ H _ I h) fun u s1 ⟨y,H1,I1,ry,q⟩=>thn (ha pins s1 σ H1 _ I1 q) fun ov s2 zz_=>?_) hs;obtain⟨x,H2,I2,rx,a,C,dx,fs,ex,ea,c,n,l,q2⟩:=zz_;subst ex;obtain rfl:ov=Value.ref a:=rx;exact Jo I2 ea c n l ry fun s3 I3=>⟨σ,_,I3,q2⟩
end
section
variable {X:Cx}{pins:List (Addr×Obj)}{σ:St}{H:Hp}{s:Shared}{A:Around}{E:Value->Shared->Prop}{Q:Value->Shared->Prop}{c:Value}{b:Bool}
inductive JH (K:Frag) (H:Hp):V->Value->Prop where
 | non:JH K H .non (.type "NoneType")
 | bl (x:Bool):JH K H (.bl x) (.type "bool")
 | int (i:Int):JH K H (.int i) (.type "int")
 | str (x:Str):JH K H (.str x) (.type "str")
 | flt (x:UInt64):JH K H (.flt x) (.type "float")
 | lst {a:Addr}{xs:List V} (e:H a=some (.lst xs)):JH K H (.ref a) (.type "list")
 | frz {a:Addr}{o:Obj}{xs:List V} (e:H a=some (.frz o (.lst xs))):JH K H (.ref a) (.type "list")
 | tup {a:Addr}{xs:List V} (e:H a=some (.tup xs)):JH K H (.ref a) (.type "tuple")
 | dK {a:Addr}{kvs:List (Key×V)} (e:H a=some (.dK kvs)):JH K H (.ref a) (.type "dict")
 | dT {a:Addr}{kvs:List (List Key×V)} (e:H a=some (.dT kvs)):JH K H (.ref a) (.type "dict")
 | ins {a C dx:Addr}{fs:List (Str×V)} (e:H a=some (.ins C dx fs)) (cl:Cls K C) (ha:findIn K (.ref C) "__class__"=some (some (.builtin "object.__class__")))
     (hn:PySem.W.specialIn K (.builtin "object.__class__") "__get__"=some (some (.builtin "getset_descriptor.__get__"))) (htk:PySem.W.takesIn K (.builtin "object.__class__")=some true)
     (hm:PySem.W.mroIn K C (.type "object")=some true):JH K H (.ref a) (.ref C)
theorem qay {x:V}{u t:Value} (I:Inv X pins σ H s) (rx:RelV x u) (ty:JH X.K H x t) (e:PySem.W.kitOne X.K t c=some b) (h:∀ tk,Q (.bool b) { s with toks:=tk }) :
   wpAny (model X.prog X.w) A (call (.builtin "isinstance") [u,c]) Q E s:=by
 cases ty with
 | non=>cases (show u=Value.none from rx);exact kia_one PySem.W.kitx_none I.kIn True.intro e (fun z=>nomatch z) h
 | bl y=>cases (show u=Value.bool y from rx);exact kia_one PySem.W.kitx_bool I.kIn True.intro e (fun z=>nomatch z) h
 | int i=>obtain⟨t,q⟩:=(show ∃ t,u=Value.int i t from rx);cases q;exact kia_one PySem.W.kitx_int I.kIn True.intro e (fun z=>nomatch z) h
 | str y=>obtain⟨t,q⟩:=(show ∃ t,u=Value.str y t from rx);cases q;exact kia_one PySem.W.kitx_str I.kIn True.intro e (fun z=>nomatch z) h
 | flt y=>obtain⟨t,q⟩:=(show ∃ t,u=Value.float y t from rx);cases q;exact kia_one PySem.W.kitx_float I.kIn True.intro e (fun z=>nomatch z) h
 | @lst a xs ea =>
   cases (show u=Value.ref a from rx);obtain⟨_,_,n,_,h1⟩:=(show ObjOk X.prog X.w H s.heap a (.lst xs) from I.hok a _ ea)
   exact kia_one kitx_list I.kIn ⟨_,h1,rfl⟩ e (fun z=>nomatch z) h
 | @frz a ob xs ea =>
   cases (show u=Value.ref a from rx);obtain⟨_,_,_,n,_,h1⟩:=(show ObjOk X.prog X.w H s.heap a (.frz ob (.lst xs)) from I.hok a _ ea)
   exact kia_one kitx_list I.kIn ⟨_,h1,rfl⟩ e (fun z=>nomatch z) h
 | @tup a xs ea =>
   cases (show u=Value.ref a from rx);obtain⟨_,_,_,p⟩:=(show ObjOk X.prog X.w H s.heap a (.tup xs) from I.hok a _ ea)
   obtain⟨o,h1,h2,_⟩:=p;exact kia_one PySem.W.kitx_tuple I.kIn ⟨o,h1,h2⟩ e (fun z=>nomatch z) h
 | @dK a kvs ea =>
   cases (show u=Value.ref a from rx);obtain⟨_,_,vs,_,p⟩:=(show ObjOk X.prog X.w H s.heap a (.dK kvs) from I.hok a _ ea)
   obtain⟨o,es,ep,h1,h2,_⟩:=p;exact kia_one kitx_dict I.kIn ⟨o,h1,h2.1⟩ e (fun z=>nomatch z) h
 | @dT a kvs ea =>
   cases (show u=Value.ref a from rx);obtain⟨_,_,xs,_,o,es,ep,h1,h2,_⟩:=(show ObjOk X.prog X.w H s.heap a (.dT kvs) from I.hok a _ ea)
   exact kia_one kitx_dict I.kIn ⟨o,h1,h2.1⟩ e (fun z=>nomatch z) h
 | @ins a C dx fs ea cl ha hn htk hm =>
   cases (show u=Value.ref a from rx);obtain⟨mA,O,_⟩:=Z6 I.hok ea;obtain⟨od,J,_⟩:=O.look;exact kia_one (PySem.W.kitx_own (cl.get _) cl.hd ha hn htk hm) I.kIn J e (fun z=>nomatch z) h
end
structure Room (k:Nat) (A:Around):Prop where
 hd:A.handled=none
 dp:A.depth+3 * k+5 < recursionLimit
 un:A.units+16 * k+200 < cLine
 gd:A.guards=some []
theorem Room.mono {j k:Nat}{A:Around} (r:Room k A) (h:j≤k):Room j A:=⟨r.hd,by have:=r.dp;omega,by have:=r.un;omega,r.gd⟩
theorem Room.deeper {k:Nat}{A:Around} (r:Room (k+1) A) (env:Env):Room k (A.deeper env) :=
 ⟨r.hd,by have:=r.dp;show A.depth+1+3 * k+5 < _;omega,by have:=r.un;show A.units+3+16 * k+200 < _;omega,r.gd⟩
theorem Jw {A:Around}{C:Addr}{us:List Value}{kw:List (Str×Value)}:(A.under (.builtin "type.__call__" ⟨.ref C::us,kw⟩)).depth=A.depth+1:=by
 first|rfl|simp[Around.under,Code.weight,Code.isCreation,Code.isGuard,Code.isCaller,Code.frames,Code.isFrame,guardIds]
theorem Jv {A:Around}{C:Addr}{us:List Value}{kw:List (Str×Value)}:(A.under (.builtin "type.__call__" ⟨.ref C::us,kw⟩)).units=A.units+1:=by
 first|rfl|simp[Around.under,Code.cUnits,Code.frames,Code.isFrame]
theorem Room.make {k:Nat}{A:Around} (r:Room (k+1) A) (C:Addr) (us:List Value) (kw:List (Str×Value)):Room k (A.under (.builtin "type.__call__" ⟨.ref C::us,kw⟩)) :=
 ⟨r.hd,by have:=r.dp;rw[Jw];omega,by have:=r.un;rw[Jv];omega,r.gd⟩
theorem Room.depth {k:Nat}{A:Around} (r:Room k A):A.depth < recursionLimit:=by have:=r.dp;omega
theorem Room.units {k:Nat}{A:Around} (r:Room k A):A.units+64 < cLine:=by have:=r.un;omega
def qc5:TA:=fun _ H Q=>Q [] H
def JW (ta:TE) (tr:TA):TA:=fun σ H Q=>ta σ H fun x H1=>tr σ H1 fun xs H2=>Q (x::xs) H2
section
variable {X:Cx}{e:Expr}{es:List Expr}{te:TE}{t:TA}{pos:Pos}
theorem qc:PA X [] qc5:=fun _ _ _ _ H Q I h=>Calls.spliced_nil ⟨[],H,I,.nil,h⟩
theorem qa (ha:PE X e te) (hr:PA X es t) (hs:starEach (e::es) X.env=(false,eval e X.env)::starEach es X.env:=by rfl):PA X (e::es) (JW te t):=by
 intro pos pins s σ H Q I h;rw[hs];show wpAny _ _ (spliced ((false,eval e X.env)::backTo pos (starEach es X.env))) _ _ s;refine Calls.spliced_cons (thn (ha pins s σ H _ I h) fun u s1 zz_=>?_);obtain⟨x,H1,I1,r1,q1⟩:=zz_;exact thn (hr pos pins s1 σ H1 _ I1 q1) fun us s2 ⟨xs,H2,I2,r2,q2⟩=>⟨x::xs,H2,I2,.cons r1 r2,q2⟩
def qeQ (t:TA):TE:=fun σ H Q=>t σ H fun xs H1=>xs.length≤sizeLine∧∀ p,H1 p=none->Q (.ref p) (upd H1 p (.tup xs))
def qeU (t:TA):TE:=fun σ H Q=>t σ H fun xs H1=>xs.length≤sizeLine∧∀ p,H1 p=none->Q (.ref p) (upd H1 p (.lst xs))
theorem zU {x1} (h:PA X es t):PE X (.Tuple es x1 pos) (qeQ t):=by
 intro pins s σ H Q I hq;refine wpAny_Tuple_spliced (thn (h pos pins s σ H _ I hq) fun us s1 ⟨xs,H1,I1,r,z,q⟩=>⟨by rw[← r.length];exact z,?_⟩);have hf:H1 s1.heap.objs.size=none:=I1.hok.fresh (Nat.le_refl _);refine⟨.ref s1.heap.objs.size,upd H1 s1.heap.objs.size (.tup xs),I1.laid (t':=s1.toks) (fun b u e=>Heap.get?_push_of_some _ e) (Nat.le_refl _) ?_,rfl,q _ hf⟩;exact⟨z,us,r,⟨_,Heap.get?_push_size _ rfl,rfl,_,rfl⟩⟩
theorem zV (h:PA X es t):PE X (.List es pos) (qeU t):=by
 intro pins s σ H Q I hq;refine wpAny_List_spliced (thn (h pos pins s σ H _ I hq) fun us s1 ⟨xs,H1,I1,r,z,q⟩=>⟨by rw[← r.length];exact z,?_⟩);have hf:H1 s1.heap.objs.size=none:=I1.hok.fresh (Nat.le_refl _);refine⟨.ref s1.heap.objs.size,upd H1 s1.heap.objs.size (.lst xs),I1.laid (t':=s1.toks) (fun b u e=>Heap.get?_push_of_some _ e) (Nat.le_refl _) ?_,rfl,q _ hf⟩;exact⟨z,us,0,r,Heap.get?_push_size _ rfl⟩
end
abbrev Sp:=List V->Hp->VK->XK->Prop
abbrev CXT:=List Env->Hp->Shared->XK->Value->Shared->Prop
structure Env0 (P:Program) (w:World) (K:Frag) (mg:Str->Option Value) (base:Heap) (A:Around) (outer:List Env) (s:Shared) (H:Hp):Prop where
 frames:A.frames=some outer
 mod:Mod K mg base
 bs:∀ b o,base.get? b=some o->s.heap.get? b=some o∧H b=none
 bsz:base.objs.size≤s.heap.objs.size
 funs:s.heap.FunFrames base outer
 frf:∀ b∈frs outer,H b=none
 hok:HOk P w H s.heap
 bare:AllBare s.gens
def CE (outer:List Env) (P:Program) (w:World) (H:Hp) (s:Shared) (Q:VK) (u:Value) (s':Shared):Prop :=
 ∃ v H',s'.os=s.os∧AllBare s'.gens∧Un (frs outer) [] H H' s.heap s'.heap∧HOk P w H' s'.heap∧RelV v u∧Q v H'
def CR (CX:CXT) (outer:List Env) (P:Program) (w:World) (H:Hp) (s:Shared) (Q:VK) (E:XK) (r:Result) (s':Shared):Prop :=
 match r with
 | .ok (.ret u)=>CE outer P w H s Q u s'
 | .ok _=>False
 | .error e=>CX outer H s E e s'
structure FnOk (P:Program) (w:World) (K:Frag) (mg:Str->Option Value) (base:Heap) (CX:CXT) (k:Nat) (f:Addr) (fd:FuncData) (ps:List Str) (sp:Sp):Prop where
 len:∀ vs H Q E,sp vs H Q E->vs.length=ps.length
 run:∀ (A:Around) (outer:List Env) (s:Shared) (H:Hp) (args:Args) (us:List Value) (vs:List V) (Q:VK) (E:XK),Room k A->Env0 P w K mg base A outer s H->BindsTo s fd args (ps.zip us)->Vals vs us->sp vs H Q E ->
   codeAny (model P w) A (.call (.ref f) args) (CR CX outer P w H s Q E) s
theorem FnOk.mono {P:Program}{w:World}{K:Frag}{mg:Str->Option Value}{base:Heap}{CX:CXT}{j k:Nat}{f:Addr}{fd:FuncData}{ps:List Str}{sp:Sp} (F:FnOk P w K mg base CX j f fd ps sp) (h:j≤k) :
   FnOk P w K mg base CX k f fd ps sp:=⟨F.len,fun A outer s H args us vs Q E hr=>F.run A outer s H args us vs Q E (hr.mono h)⟩
theorem Env0.make {P:Program}{w:World}{K:Frag}{mg:Str->Option Value}{base:Heap}{A:Around}{outer:List Env}{s:Shared}{H:Hp} (e:Env0 P w K mg base A outer s H) (C:Addr) (us:List Value) (kw:List (Str×Value)) :
   Env0 P w K mg base (A.under (.builtin "type.__call__" ⟨.ref C::us,kw⟩)) outer s H:=⟨by first|exact e.frames|(simpa[Around.under,Code.envs,Code.isFrame,pushEnvs] using e.frames),e.mod,e.bs,e.bsz,e.funs,e.frf,e.hok,e.bare⟩
section
variable {X:Cx}{pins:List (Addr×Obj)}{σ:St}{H:Hp}{s s':Shared}
theorem Inv.env0 (I:Inv X pins σ H s):Env0 X.prog X.w X.K X.mg X.base X.A X.stack s H :=
 ⟨I.ok.frames,I.ok.mod,I.bs,Nat.le_trans I.ok.bsz I.sz,I.stack,I.stkFree,I.hok,I.bare⟩
theorem Inv.after {Q:VK}{u:Value} (I:Inv X pins σ H s) (h:CE X.stack X.prog X.w H s Q u s'):EP X pins σ Q u s':=by
 obtain⟨v,H',os,bare,un,hok,r,q⟩:=h;obtain⟨hh,g,d,t,os'⟩:=s';obtain rfl:os'=s.os:=os;exact⟨v,H',I.call (h':=hh) (g':=g) (d':=d) (t':=t) (ch:=[]) un hok bare (fun b z=>absurd z (by simp)),r,q⟩
end
def qd1 (sp:Sp) (dvs:List V) (E:XK) (t:TA):TE:=fun σ H Q=>t σ H fun vs H1=>sp (vs++dvs) H1 Q E
inductive JV (C:Addr) (m:Str) (sp:Sp) (dvs:List V) (E:XK) (t:TA) (σ:St) (Q:VK) (x:V) (H1:Hp):Prop
 | mk (a dx fs:_) (h1:x=.ref a) (h2:H1 a=some (.ins C dx fs)) (h3:fs.lookup m=none) (h4:t σ H1 fun vs H2=>sp (x::(vs++dvs)) H2 Q E):JV C m sp dvs E t σ Q x H1
def qda (C:Addr) (m:Str) (sp:Sp) (dvs:List V) (E:XK) (ta:TE) (t:TA):TE:=fun σ H Q=>ta σ H fun x H1=>JV C m sp dvs E t σ Q x H1
def qdX (C:Addr) (sp:Sp) (dvs:List V) (E:XK) (t:TA):TE:=fun σ H Q=>t σ H fun vs H1=>∀ x dx,H1 x=none->H1 dx=none->dx≠x ->
 sp (.ref x::(vs++dvs)) (upd (upd H1 dx (.own x)) x (.ins C dx [])) (fun v H2=>v=.non∧Q (.ref x) H2) E
def Binds (K:Frag) (fd:FuncData) (ps:List Str) (ds:List Value):Prop :=
 ∀ (s:Shared) (us:List Value),K.In s.heap->(us++ds).length=ps.length->BindsTo s fd ⟨us,[]⟩ (ps.zip (us++ds))
theorem Binds.all {K:Frag}{fd:FuncData}{ps:List Str} (h:∀ us:List Value,us.length=ps.length->bindArgs fd ⟨us,[]⟩=pure (ps.zip us)):Binds K fd ps []:=fun s us _ hl=>by
 rw[List.append_nil]at hl ⊢;exact .of_eq (h us hl)
def Zo (CX:CXT) (X:Cx) (E:XK):Prop:=∀ (pins:List (Addr×Obj)) (σ:St) (H:Hp) (s:Shared) (e:Value) (s':Shared),Inv X pins σ H s->CX X.stack H s E e s'->X.xe e s'
section
variable {X:Cx}{CX:CXT}{k:Nat}{f C:Addr}{fd:FuncData}{ps:List Str}{sp:Sp}{dvs:List V}{ds:List Value}{E:XK}{x m:Str}{p pos apos:Pos}{e o:Expr}{es:List Expr}{ta:TE}{t:TA}
theorem J8 {pins:List (Addr×Obj)}{σ:St}{H:Hp}{s:Shared}{Q:VK}{us:List Value}{vs:List V} (F:FnOk X.prog X.w X.K X.mg X.base CX k f fd ps sp) (hr:Room k X.A) (hb:Binds X.K fd ps ds) (hd:Vals dvs ds) (hx:Zo CX X E)
   (I:Inv X pins σ H s) (r:Vals vs us) (h:sp (vs++dvs) H Q E):wpAny (model X.prog X.w) X.A (call (.ref f) us) (EP X pins σ Q) X.xe s:=by
 have r2:Vals (vs++dvs) (us++ds):=r.append hd;have hl:(us++ds).length=ps.length:=by rw[← r2.length];exact F.len _ _ _ _ h
 refine wpAny_call (codeAny_mono (F.run X.A X.stack s H ⟨us,[]⟩ (us++ds) (vs++dvs) Q E hr I.env0 (hb s us I.kIn hl) r2 h) fun r s' hq=>?_)
 cases r with
 | error e=>exact hx pins σ H s e s' I hq
 | ok fl =>
   cases fl with
   | ret u=>exact I.after hq
   | next=>exact False.elim hq
   | brk=>exact False.elim hq
   | cont=>exact False.elim hq
theorem ql (F:FnOk X.prog X.w X.K X.mg X.base CX k f fd ps sp) (hr:Room k X.A) (hg:Gl X x) (hm:X.mg x=some (.ref f)) (hk:keepIn X.K (.ref f)=true) (hb:Binds X.K fd ps ds) (hd:Vals dvs ds) (hx:Zo CX X E)
   (ha:PA X (e::es) t) (hdb:(x == ("__debug__":Str))=false:=by decide) (he:starEach (e::es) X.env=(false,eval e X.env)::starEach es X.env:=by rfl) (hpl:(backTo pos (starEach es X.env)).any (·.1)=false:=by rfl) :
   PE X (.Call (.Name x p) (e::es) [] pos) (qd1 sp dvs E t):=by
 intro pins s σ H Q I h;refine wpAny_Call_Name_kw (jQ I hg hm ?_ hdb);refine callWith_K (h₀:=X.base) I.ok.mod.kin hk (thn (ha pos pins s σ H _ I h) fun us s1 ⟨vs,H1,I1,r,q⟩=>⟨I1.kIn,?_⟩) he hpl;exact J8 F hr hb hd hx I1 r q
theorem qcD {pl:Sem Bool} (he:PE X o ta) (c:Cls X.K C) (hm:qdQ X.K C m f) (F:FnOk X.prog X.w X.K X.mg X.base CX k f fd ps sp) (hr:Room k X.A) (hb:Binds X.K fd ps ds) (hd:Vals dvs ds) (hx:Zo CX X E) (ha:PA X (e::es) t)
   (hst:starEach (e::es) X.env=(false,eval e X.env)::starEach es X.env:=by rfl) (hpl:(backTo pos (starEach es X.env)).any (·.1)=false:=by rfl)
   (ht:eval (.Call (.Attribute o m apos) (e::es) [] pos) X.env=(do
     let ov ← eval o X.env
     standAt apos.atName
     let (f,first) ← holding [ov] (getMethod ov m pl)
     callWith pos f first (backTo pos (starEach (e::es) X.env)) (backToKw pos (keywordEach [] X.env))):=by rfl) :
   PE X (.Call (.Attribute o m apos) (e::es) [] pos) (qda C m sp dvs E ta t):=by
 intro pins s σ H Q I h;refine PySem.W.methodCall_KW (pl:=pl) (thn (he pins s σ H _ I h) fun u s1 zz_=>?_) ht;obtain⟨x,H1,I1,rx,a,dx,fs,ex,ea,l,q⟩:=zz_;subst ex;obtain rfl:u=Value.ref a:=rx;refine ZJ I1 ea c hm l ?_;refine callWith_K (first:=[.ref a]) (h₀:=X.base) I.ok.mod.kin hm.kp (thn (ha pos pins s1 σ H1 _ I1 q) fun us s2 ⟨vs,H2,I2,r,q2⟩=>⟨I2.kIn,?_⟩) hst hpl;exact J8 (us:=.ref a::us) (vs:=.ref a::vs) F hr hb hd hx I2 (.cons rfl r) q2
theorem zK {pl:Sem Bool} (he:PE X o ta) (c:Cls X.K C) (hm:qdQ X.K C m f) (F:FnOk X.prog X.w X.K X.mg X.base CX k f fd ps sp) (hr:Room k X.A) (hb:Binds X.K fd ps ds) (hd:Vals dvs ds) (hx:Zo CX X E)
   (ht:eval (.Call (.Attribute o m apos) [] [] pos) X.env=(do
     let ov ← eval o X.env
     standAt apos.atName
     let (f,first) ← holding [ov] (getMethod ov m pl)
     callWith pos f first (backTo pos (starEach [] X.env)) (backToKw pos (keywordEach [] X.env))):=by rfl) :
   PE X (.Call (.Attribute o m apos) [] [] pos) (qda C m sp dvs E ta qc5):=by
 intro pins s σ H Q I h;refine PySem.W.methodCall_KW (pl:=pl) (thn (he pins s σ H _ I h) fun u s1 zz_=>?_) ht;obtain⟨x,H1,I1,rx,a,dx,fs,ex,ea,l,q⟩:=zz_;subst ex;obtain rfl:u=Value.ref a:=rx;refine ZJ I1 ea c hm l ?_;exact PySem.W.callWith_K0 (first:=[.ref a]) I1.kIn hm.kp (J8 (us:=[.ref a]) (vs:=[.ref a]) F hr hb hd hx I1 (.cons rfl .nil) q)
structure Mk (K:Frag) (C f:Addr):Prop where
 makes:makesIn K C=true
 init:findIn K (.ref C) "__init__"=some (some (.ref f))
 fn:isFn K (.ref f)=true
 kp:keepIn K (.ref C)=true
theorem qba {pins:List (Addr×Obj)}{σ:St}{H:Hp}{s:Shared}{Q:VK}{us:List Value}{vs:List V} (M:Mk X.K C f) (F:FnOk X.prog X.w X.K X.mg X.base CX k f fd ps sp) (hr:Room (k+1) X.A) (hb:Binds X.K fd ps ds) (hd:Vals dvs ds)
   (hx:Zo CX X E) (I:Inv X pins σ H s) (r:Vals vs us)
   (h:∀ x dx,H x=none->H dx=none->dx≠x->sp (.ref x::(vs++dvs)) (upd (upd H dx (.own x)) x (.ins C dx [])) (fun v H2=>v=.non∧Q (.ref x) H2) E) :
   wpAny (model X.prog X.w) X.A (call (.ref C) us) (EP X pins σ Q) X.xe s:=by
 have hq:=h (s.heap.objs.size+1) s.heap.objs.size (I.hok.fresh (Nat.le_succ _)) (I.hok.fresh (Nat.le_refl _)) (Nat.ne_of_lt (Nat.lt_succ_self _));have I2:=Inv.made (C:=C) I;have r2:Vals (V.ref (s.heap.objs.size+1)::(vs++dvs)) (Value.ref (s.heap.objs.size+1)::(us++ds)):=.cons rfl (r.append hd)
 have hl:(Value.ref (s.heap.objs.size+1)::us++ds).length=ps.length:=by
   have e:=r2.length;rw[F.len _ _ _ _ hq]at e;exact e.symm
 refine wpAny_call (qbv (f:=f) I.kIn M.makes M.init (beq_iff_eq.mp M.fn) (codeAny_mono (F.run _ X.stack _ _ ⟨Value.ref (s.heap.objs.size+1)::us,[]⟩ (Value.ref (s.heap.objs.size+1)::(us++ds)) _ _ E (hr.make C us [])
   (I2.env0.make C us []) (hb _ (Value.ref (s.heap.objs.size+1)::us) I2.kIn hl) r2 hq) fun r s' hq'=>?_))
 cases r with
 | error e=>exact hx pins σ _ _ e s' I2 hq'
 | ok fl =>
   cases fl with
   | ret u =>
     obtain⟨v,H',I3,rv,ev,q3⟩:=I2.after hq';subst ev;exact⟨rv,⟨V.ref (s.heap.objs.size+1),H',I3,rfl,q3⟩⟩
   | next=>exact False.elim hq'
   | brk=>exact False.elim hq'
   | cont=>exact False.elim hq'
theorem qaf (M:Mk X.K C f) (F:FnOk X.prog X.w X.K X.mg X.base CX k f fd ps sp) (hr:Room (k+1) X.A) (hg:Gl X x) (hm:X.mg x=some (.ref C)) (hb:Binds X.K fd ps ds) (hd:Vals dvs ds) (hx:Zo CX X E)
   (ha:PA X (e::es) t) (hdb:(x == ("__debug__":Str))=false:=by decide) (he:starEach (e::es) X.env=(false,eval e X.env)::starEach es X.env:=by rfl) (hpl:(backTo pos (starEach es X.env)).any (·.1)=false:=by rfl) :
   PE X (.Call (.Name x p) (e::es) [] pos) (qdX C sp dvs E t):=by
 intro pins s σ H Q I h;refine wpAny_Call_Name_kw (jQ I hg hm ?_ hdb);refine callWith_K (h₀:=X.base) I.ok.mod.kin M.kp (thn (ha pos pins s σ H _ I h) fun us s1 ⟨vs,H1,I1,r,q⟩=>⟨I1.kIn,?_⟩) he hpl;exact qba M F hr hb hd hx I1 r q
end
def PK (X:Cx) (kws:List Keyword) (t:TA):Prop :=
 ∀ (pos:Pos) (pins:List (Addr×Obj)) (s:Shared) (σ:St) (H:Hp) (Q:List V->Hp->Prop),Inv X pins σ H s->t σ H Q->wpAny (model X.prog X.w) X.A (evalAll ((backToKw pos (keywordEach kws X.env)).map (·.2))) (AP X pins σ Q) X.xe s
section
variable {X:Cx}{CX:CXT}{k:Nat}{f C:Addr}{fd:FuncData}{ps ks:List Str}{sp:Sp}{E:XK}{x m:Str}{p pos apos kpos:Pos}{e o:Expr}{es:List Expr}{kws:List Keyword}{te ta:TE}{t tk:TA}{nm:Option Str}
theorem qdm:PK X [] qc5:=fun _ _ _ _ H Q I h=>wpAny_evalAll_nil ⟨[],H,I,.nil,h⟩
theorem qcC (ha:PE X e te) (hr:PK X kws t):PK X (⟨nm,e,kpos⟩::kws) (JW te t):=by
 intro pos pins s σ H Q I h;show wpAny _ _ (evalAll ((do let v ← eval e X.env;standAt pos;pure v)::(backToKw pos (keywordEach kws X.env)).map (·.2))) _ _ s;refine wpAny_evalAll_cons (wpAny_bind (thn (ha pins s σ H _ I h) fun u s1 ⟨x,H1,I1,r1,q1⟩=>wpAny_bind (wpAny_standAt (wpAny_pure ?_))));exact thn (hr pos pins s1 σ H1 _ I1 q1) fun us s2 ⟨xs,H2,I2,r2,q2⟩=>⟨x::xs,H2,I2,.cons r1 r2,q2⟩
variable {g:List Value->List Value->List Value}{gV:List V->List V->List V}
end
structure qt (N P:List Str) (sc:Scope):Prop where
 kind:sc.kind=.function
 co:sc.isCoroutine=false
 gen:sc.isGenerator=false
 nd:N.Nodup
 pre:N.take P.length=P
 par:∀ x∈P,sc.names.lookup x=some .local∨sc.names.lookup x=some .cell
 nofree:∀ y∈sc.names,y.2≠.free
theorem jv {kindOf:Str->Option NameKind}{x:Str}:∀ {binds:List (Str×Value)}{m:Str->Option Value},(∀ v,(x,v)∉binds)->bindL kindOf binds m x=m x
 | [],_,_=>rfl
 | (n,v)::r,m,h=>by
   unfold bindL;rw[jv fun w hw=>h w (List.mem_cons_of_mem _ hw)];split
   · have:x≠n:=by rintro rfl;exact h v List.mem_cons_self
     simp[this]
   · rfl
theorem jx {kindOf:Str->Option NameKind}{x:Str}:∀ {binds:List (Str×Value)}{m:Str->Option Value},(∀ v,(x,v)∉binds)->bindC kindOf binds m x=m x
 | [],_,_=>rfl
 | (n,v)::r,m,h=>by
   unfold bindC;rw[jx fun w hw=>h w (List.mem_cons_of_mem _ hw)];split
   · rfl
   · have:x≠n:=by rintro rfl;exact h v List.mem_cons_self
     simp[this]
theorem jw {kindOf:Str->Option NameKind}{x:Str}{v:Value}:∀ {P:List Str}{vs:List Value}{i:Nat}{m:Str->Option Value},P.Nodup->P[i]?=some x->vs[i]?=some v->kindOf x=some .local ->
   bindL kindOf (P.zip vs) m x=some v
 | [],_,_,_,_,h,_,_=>by simp at h
 | _::_,[],_,_,_,_,h,_=>by simp at h
 | p::P,w::vs,0,m,nd,h1,h2,hk=>by
   simp at h1 h2;subst h1;subst h2;show bindL kindOf ((p,w)::P.zip vs) m p=_;unfold bindL;rw[jv fun v hv=>(List.nodup_cons.mp nd).1 (List.of_mem_zip hv).1,if_pos hk];simp
 | p::P,w::vs,i+1,m,nd,h1,h2,hk=>by
   show bindL kindOf ((p,w)::P.zip vs) m x=_;unfold bindL;exact jw (i:=i) (List.nodup_cons.mp nd).2 (by simpa using h1) (by simpa using h2) hk
theorem jy {kindOf:Str->Option NameKind}{x:Str}{v:Value}:∀ {P:List Str}{vs:List Value}{i:Nat}{m:Str->Option Value},P.Nodup->P[i]?=some x->vs[i]?=some v->kindOf x≠some .local ->
   bindC kindOf (P.zip vs) m x=some v
 | [],_,_,_,_,h,_,_=>by simp at h
 | _::_,[],_,_,_,_,h,_=>by simp at h
 | p::P,w::vs,0,m,nd,h1,h2,hk=>by
   simp at h1 h2;subst h1;subst h2;show bindC kindOf ((p,w)::P.zip vs) m p=_;unfold bindC;rw[jx fun v hv=>(List.nodup_cons.mp nd).1 (List.of_mem_zip hv).1,if_neg hk];simp
 | p::P,w::vs,i+1,m,nd,h1,h2,hk=>by
   show bindC kindOf ((p,w)::P.zip vs) m x=_;unfold bindC;exact jy (i:=i) (List.nodup_cons.mp nd).2 (by simpa using h1) (by simpa using h2) hk
def start (N:List Str) (vs:List V):St:=vs.map some++List.replicate (N.length - vs.length) none
def zG (CX:CXT) (P:Program) (w:World) (K:Frag) (mg:Str->Option Value) (base:Heap) (N:List Str) (qual:Str) (scope:Scope) (f:Addr) (cd:Value) (A:Around) (outer:List Env) (s:Shared) (H:Hp) (E:XK):Cx where
 prog:=P
 w:=w
 K:=K
 mg:=mg
 base:=base
 A:=A.deeper (envOfC qual scope s.heap.objs.size f cd)
 N:=N
 s₀:=s
 H₀:=H
 env:=envOfC qual scope s.heap.objs.size f cd
 outer:=outer
 stack:=envOfC qual scope s.heap.objs.size f cd::outer
 ex:=[]
 calm:=true
 fn:=fun _=>true
 pn:=[]
 xe:=fun e s'=>wpAny (model P w) (A.deeper (envOfC qual scope s.heap.objs.size f cd)) (leaving (envOfC qual scope s.heap.objs.size f cd) e) (fun _ s''=>CX outer H s E e s'') (fun e' s''=>CX outer H s E e' s'') s'
theorem Z8 {sc:Scope}{n:Nat}{x:Str} (h:sc.names.lookup x=some .cell):∃ c,(cellsFrom n sc.names []).lookup x=some c:=by
 have q:=PySem.W.cellsFrom_some sc.names n [] (.inl h);exact Option.isSome_iff_exists.mp q
theorem qaz {CX:CXT}{P:Program}{w:World}{K:Frag}{mg:Str->Option Value}{base:Heap}{N ps:List Str}{qual:Str}{scope:Scope}{f:Addr}{cd:Value}{A:Around}{outer:List Env}{s s1:Shared}{H:Hp}{E:XK}{us:List Value}{vs:List V}
   (S:qt N ps scope) (hd:A.handled=none) (e0:Env0 P w K mg base A outer s H) (hl:vs.length=ps.length) (r:Vals vs us)
   (x:InCallC s s.heap.objs.size (bindL (envOfC qual scope s.heap.objs.size f cd).kindOf (ps.zip us) fun _=>none) (cellsFrom (s.heap.objs.size+1) scope.names []) (bindC (envOfC qual scope s.heap.objs.size f cd).kindOf (ps.zip us) fun _=>none) s1) :
   Inv (zG CX P w K mg base N qual scope f cd A outer s H E) [] (start N vs) H s1:=by
 have hpl:ps.length≤N.length:=by have:=congrArg List.length S.pre;rw[List.length_take]at this;omega
 obtain⟨h1,tk,rfl,hk⟩:=x.done;have noA:∀ b:Addr,b∉(zG CX P w K mg base N qual scope f cd A outer s H E).ex:=fun b z=>absurd (show b∈([]:List Addr) from z) (by simp)
 refine⟨⟨e0.mod,S.kind,rfl,rfl,Nat.le_refl _,fun y z c h1 h2=>?_,fun y hy=>?_,fun y c _ h=>?_,fun _=>hd,Around.frames_deeper e0.frames,.inr ⟨rfl,rfl⟩,fun b z=>absurd z (noA b),e0.bs,e0.bsz,fun b _ _=>noA b,fun b z=>absurd z (noA b),e0.funs,e0.frf⟩,
   rfl,e0.bare,Un.kept hk,⟨_,x.toInCall.ns,fun i y v h1 h2 h3=>?_⟩,fun y c h=>⟨_,x.cell y c h⟩,e0.hok.fresh (Nat.le_refl _),fun y c h=>?_,fun p hp=>absurd (show p∈([]:List (Addr×Obj)) from hp) (by simp),e0.hok.kept hk,?_⟩
 · exact name_of_addr x.apart (PySem.mem_of_lookup h1) (PySem.mem_of_lookup h2)
 · have hy:scope.names.lookup y=some .cell∨scope.names.lookup y=some .free:=hy;rcases hy with hy|hy
   · exact Z8 hy
   · exact absurd rfl (S.nofree _ (PySem.mem_of_lookup hy))
 · exact Nat.le_of_lt (x.above y c (PySem.mem_of_lookup h))
 · have hi:i < vs.length:=by
     unfold start at h2;by_cases hi:i < vs.length
     · exact hi
     · rw[List.getElem?_append_right (by simpa using hi)]at h2;rw[List.getElem?_replicate]at h2;split at h2<;>cases h2
   have ha:vs[i]?=some v:=by
     unfold start at h2;rw[List.getElem?_append_left (by simpa using hi),List.getElem?_map]at h2
     cases e:vs[i]? with
     | none=>rw[e]at h2;cases h2
     | some a=>rw[e]at h2;cases h2;rfl
   obtain⟨u,hu,rv⟩:=r.get ha
   have hp:ps[i]?=some y:=by
     rw[← S.pre,List.getElem?_take_of_lt (by omega)];exact h1
   have ndP:ps.Nodup:=by rw[← S.pre];exact S.nd.sublist (List.take_sublist _ _)
   refine⟨u,rv,?_⟩;rcases S.par y (List.mem_of_getElem? hp) with k|k
   · exact .inl ⟨k,jw ndP hp hu k⟩
   · obtain⟨c,e⟩:=Z8 (n:=s.heap.objs.size+1) k;refine .inr ⟨.inl k,c,e,?_⟩;have q:=x.cell y c e;rw[jy ndP hp hu (by show scope.names.lookup y≠_;rw[k];decide)]at q;exact q
 · exact e0.hok.fresh (Nat.le_of_lt (x.above y c (PySem.mem_of_lookup h)))
 · unfold start;show _=N.length;rw[List.length_append,List.length_map,List.length_replicate];omega
theorem qdE {CX:CXT}{P:Program}{w:World}{K:Frag}{mg:Str->Option Value}{base:Heap}{k:Nat}{f:Addr}{name qual:Str}{params:Arguments}{body:List Stmt}{scope:Scope}{dV kV doc pm cdv ct oc:Value}{an od:Option Addr}
   {osl:Array (Option Value)}{N ps:List Str}{sp:Sp} (lk:K.lookup f=some ⟨oc,od,.func (fnOf name qual params body scope dV kV doc pm an cdv ct),osl⟩) (hcd:PySem.W.codeIn K cdv qual=true) (S:qt N ps scope)
   (len:∀ vs H Q E,sp vs H Q E->vs.length=ps.length)
   (hbody:∀ (A:Around) (outer:List Env) (s:Shared) (H:Hp) (vs:List V) (Q:VK) (E:XK),Room k (A.deeper (envOfC qual scope s.heap.objs.size f cdv))->sp vs H Q E ->
     ∃ t,PSs (zG CX P w K mg base N qual scope f cdv A outer s H E) body t∧t { nx:=fun _ H'=>Q .non H',rt:=Q } (start N vs) H) :
   FnOk P w K mg base CX (k+1) f (fnOf name qual params body scope dV kV doc pm an cdv ct) ps sp:=by
 refine⟨len,fun A outer s H args us vs Q E hr e0 hb r hsp=>?_⟩;have hl:=len _ _ _ _ hsp;have KX:K.In s.heap:=e0.mod.kin.keeps fun b o e=>(e0.bs b o e).1;have lim:s.heap.NoLimit:=e0.mod.nolimit.keeps fun b o e=>(e0.bs b o e).1
 have hkind:∀ y∈ps.zip us,scope.names.lookup y.1=some .local∨(scope.names.lookup y.1=some .cell∧((cellsFrom (s.heap.objs.size+1) scope.names []).lookup y.1).isSome=true):=fun⟨n,v⟩ hy=>by
   rcases S.par n (List.of_mem_zip hy).1 with q|q
   · exact .inl q
   · exact .inr ⟨q,PySem.W.cellsFrom_some _ _ _ (.inl q)⟩
 refine codeAny_call_function hr.depth (KX _ _ lk) rfl S.co S.gen rfl (PySem.W.codeRec_of KX hcd) (hb _ _ _ _ ?_);refine wpAny_newFunctionEnv_cells S.kind hkind fun env he s1 x=>?_;subst he;refine⟨lim.keeps x.toInCall.keep,codeAny_func ?_⟩;obtain⟨t,ht,hq⟩:=hbody A outer s H vs Q E (hr.deeper _) hsp;have I:Inv (zG CX P w K mg base N qual scope f cdv A outer s H E) [] (start N vs) H s1:=qaz S hr.hd e0 hl r x;refine wpAny_mono (ht [] s1 (start N vs) H _ I hq) (fun fl s' hs=>?_) fun e s' hs=>hs
 have fin:∀ {σ':St}{H':Hp}{v:V}{u:Value},Inv (zG CX P w K mg base N qual scope f cdv A outer s H E) [] σ' H' s'->RelV v u->Q v H'->CE outer P w H s Q u s' :=
   fun {σ' H' v u} J rv q=>⟨v,H',J.os,J.bare,J.base,J.hok,rv,q⟩
 cases fl with
 | ret u =>
   obtain⟨v,σ',H',J,rv,q⟩:=hs;exact fin J rv q
 | next =>
   obtain⟨σ',H',J,q⟩:=hs;exact fin (v:=V.non) (u:=Value.none) J rfl q
 | brk =>
   obtain⟨_,_,_,q⟩:=hs;exact False.elim q
 | cont =>
   obtain⟨_,_,_,q⟩:=hs;exact False.elim q
section
variable {X:Cx}{x:Str}{p pos:Pos}{e:Expr}{es:List Expr}{t:TA}{id T:String}{r:List V->Hp->VK->Prop}
def tCB (r:List V->Hp->VK->Prop) (t:TA):TE:=fun σ H Q=>t σ H fun vs H1=>r vs H1 Q
theorem qk (hc:QD X (.builtin id) r) (hg:Gl X x) (hm:X.mg x=none) (hv:bootBuiltins x=some (.builtin id)) (ha:PA X (e::es) t) (hn:x≠"__name__":=by decide) (hdb:(x == ("__debug__":Str))=false:=by decide)
   (he:starEach (e::es) X.env=(false,eval e X.env)::starEach es X.env:=by rfl) (hpl:(backTo pos (starEach es X.env)).any (·.1)=false:=by rfl):PE X (.Call (.Name x p) (e::es) [] pos) (tCB r t):=by
 intro pins s σ H Q I h;refine wpAny_Call_Name_kw (QO I hg hm hv ?_ hn hdb);exact PyProof.Rows.callWith_builtin1 (thn (ha pos pins s σ H _ I h) fun us s1 ⟨vs,H1,I1,r1,q1⟩=>hc pins s1 σ H1 vs us Q I1 r1 q1) he hpl
theorem qN (hc:QD X (.type T) r) (hg:Gl X x) (hm:X.mg x=none) (hv:bootBuiltins x=some (.type T)) (ha:PA X (e::es) t) (hn:x≠"__name__":=by decide) (hdb:(x == ("__debug__":Str))=false:=by decide)
   (he:starEach (e::es) X.env=(false,eval e X.env)::starEach es X.env:=by rfl) (hpl:(backTo pos (starEach es X.env)).any (·.1)=false:=by rfl):PE X (.Call (.Name x p) (e::es) [] pos) (tCB r t):=by
 intro pins s σ H Q I h;refine wpAny_Call_Name_kw (QO I hg hm hv ?_ hn hdb);exact PyProof.Rows.callWith_type1 (thn (ha pos pins s σ H _ I h) fun us s1 ⟨vs,H1,I1,r1,q1⟩=>hc pins s1 σ H1 vs us Q I1 r1 q1) he hpl
end
end L2
namespace HT
open PySem PyProof.Rows
section
open PySem.SeqAt
open PySem.AutoSeq1 (wpAny_loadPart')
open PySem.MeetsSeq PySem.MeetsSeq2 PySem.MeetsSeq3
end
end HT
namespace L2
open PySem PySem.Spec PyProof.Rows
open PySem.W (Frag)
def ixN (n:Nat) (i:Int):Option Nat:=if 0≤i then (if i < n then some i.toNat else none) else if -(n:Int)≤i then some (i+n).toNat else none
def atI {α:Type} (xs:List α) (i:Int):Option α:=(ixN xs.length i).bind fun j=>xs[j]?
theorem qax {n:Nat}{i:Int}{j:Nat} (h:ixN n i=some j):seqIndex? i n=some j∧j < n∧-(n:Int)≤i∧i < n:=by
 unfold ixN at h;by_cases h0:0≤i
 · rw[if_pos h0]at h;by_cases h1:i < n
   · rw[if_pos h1]at h;have e:i.toNat=j:=Option.some.inj h;exact⟨by rw[seqIndex_of h0 h1,e],by omega,by omega,h1⟩
   · rw[if_neg h1]at h;cases h
 · rw[if_neg h0]at h;by_cases h1:-(n:Int)≤i
   · rw[if_pos h1]at h;have e:(i+n).toNat=j:=Option.some.inj h;exact⟨by rw[seqIndex_neg (by omega) h1,e],by omega,h1,by omega⟩
   · rw[if_neg h1]at h;cases h
theorem jW {α:Type}{xs:List α}{i:Int}{v:α} (h:atI xs i=some v):∃ j,seqIndex? i xs.length=some j∧xs[j]?=some v∧j < xs.length∧-(xs.length:Int)≤i∧i < xs.length:=by
 unfold atI at h
 cases e:ixN xs.length i with
 | none=>rw[e]at h;cases h
 | some j =>
   rw[e]at h;obtain⟨h1,h2,h3,h4⟩:=qax e;exact⟨j,h1,h,h2,h3,h4⟩
theorem qJ {α:Type}{xs:List α}{j:Nat}{v:α} (h:xs[j]?=some v):atI xs (j:Int)=some v:=by
 have hj:j < xs.length:=(List.getElem?_eq_some_iff.mp h).1
 have e:ixN xs.length (j:Int)=some j:=by
   unfold ixN;rw[if_pos (by omega),if_pos (by omega)];simp
 unfold atI;rw[e];exact h
def qc0 (b:Expr):Prop:=∀ o i,subscripted b false o i=operate [o,i] (getItem o i)
def IxR (X:Cx) (r:R2):Prop :=
 ∀ (value slice:Expr) (pins:List (Addr×Obj)) (s:Shared) (σ:St) (H:Hp) (x y:V) (v u:Value) (Q:VK),Inv X pins σ H s->RelV x v->RelV y u->r x y H Q ->
   subscripted slice false v u=operate [v,u] (getItem v u)->wpAny (model X.prog X.w) X.A (subscriptTail value slice v u) (EP X pins σ Q) X.xe s
def MtR (X:Cx) (id:String) (r:V->List V->Hp->VK->Prop):Prop :=
 ∀ (pins:List (Addr×Obj)) (s:Shared) (σ:St) (H:Hp) (x:V) (xs:List V) (v:Value) (us:List Value) (Q:VK),Inv X pins σ H s->RelV x v->Vals xs us->r x xs H Q ->
   wpAny (model X.prog X.w) X.A (call (.builtin id) (v::us)) (EP X pins σ Q) X.xe s
section
variable {X:Cx}{a b:Expr}{ta tb:TE}{pos:Pos}
theorem IxR.or {r r':R2} (h:IxR X r) (h':IxR X r'):IxR X (fun x y H Q=>r x y H Q∨r' x y H Q):=by
 intro value slice pins s σ H x y v u Q I rx ry q hs;rcases q with q|q
 · exact h value slice pins s σ H x y v u Q I rx ry q hs
 · exact h' value slice pins s σ H x y v u Q I rx ry q hs
theorem qp {r:R2} (hr:IxR X r) (ha:PE X a ta) (hb:PE X b tb) (hs:qc0 b):PE X (.Subscript a b pos) (tOp r ta tb):=by
 intro pins s σ H Q I h;exact Subscript_ (qeo ha hb I h fun v u s2 x y H2 I2 rx ry q=>hr a b pins s2 σ H2 x y v u Q I2 rx ry q (hs _ _))
inductive qb4 (K:Frag) (x:V) (y:V) (H:Hp) (Q:VK):Prop
 | mk (p xs i v:_) (h1:x=.ref p) (h2:y=.int i) (h3:SqL K H p xs) (h4:atI xs i=some v) (h5:Q v H):qb4 K x y H Q
def qeD (K:Frag):R2:=fun x y H Q=>qb4 K x y H Q
inductive qb3 (K:Frag) (x:V) (y:V) (H:Hp) (Q:VK):Prop
 | mk (p xs i v:_) (h1:x=.ref p) (h2:y=.int i) (h3:SqT K H p xs) (h4:atI xs i=some v) (h5:Q v H):qb3 K x y H Q
def qeB (K:Frag):R2:=fun x y H Q=>qb3 K x y H Q
def qeC:R2:=fun x y H Q=>∃ z i c,x=.str z∧y=.int i∧z.length≤sizeLine∧atI z.cps.toList i=some c∧Q (.str ⟨#[c]⟩) H
theorem ix_list:IxR X (qeD X.K):=by
 intro value slice pins s σ H x y v u Q I rx ry h hs;obtain⟨p,xs,i,z,rfl,rfl,hq,he,q⟩:=h;cases rx;obtain⟨t,rfl⟩:=ry;obtain⟨its,r,pl,hz⟩:=I.list hq;obtain⟨j,h1,h2,h3,h4,h5⟩:=jW he;obtain⟨w,ew,rw'⟩:=r.get h2;have hl:=r.length;have hn:=ZH;have fin:EP X pins σ Q w s:=⟨z,H,I,rw',q⟩
 by_cases h0:0≤i
 · have hj:i.toNat=j:=by
     rw[seqIndex_of h0 h5]at h1;exact Option.some.inj h1
   exact item_listR pl.isList h0 (by omega) (by rw[hj];simpa using ew) fin hs
 · have hj:(i+(its.toArray.size:Int)).toNat=j:=by
     rw[seqIndex_neg (by omega) h4]at h1;rw[List.size_toArray,← hl];exact Option.some.inj h1
   exact subscriptTail_builtinR (x:=w) pl.isList.typeIs slot_list_getitem.lookup
     (wpAny_getItem_list_neg (Q:=fun r s'=>r=w∧EP X pins σ Q r s') pl.isList (by omega) (by rw[List.size_toArray]<;>omega) (by omega) (by rw[hj];simpa using ew) ⟨rfl,fin⟩) hs
theorem ix_tup:IxR X (qeB X.K):=by
 intro value slice pins s σ H x y v u Q I rx ry h hs;obtain⟨p,xs,i,z,rfl,rfl,hq,he,q⟩:=h;cases rx;obtain⟨t,rfl⟩:=ry;obtain⟨its,r,pl,hz⟩:=I.tuple hq;obtain⟨j,h1,h2,h3,h4,h5⟩:=jW he;obtain⟨w,ew,rw'⟩:=r.get h2;have hl:=r.length;have hn:=ZH;have fin:EP X pins σ Q w s:=⟨z,H,I,rw',q⟩
 exact subscriptTail_builtinR (x:=w) pl.typeIs slot_tuple_getitem.lookup
   (getItem_tuple (j:=j) (Q:=fun r s'=>r=w∧EP X pins σ Q r s') pl (by omega) (by omega) (by rw[List.size_toArray,← hl];exact h1) (by simpa using ew) ⟨rfl,fin⟩) hs
theorem qdA:IxR X qeC:=by
 intro value slice pins s σ H x y v u Q I rx ry h hs;obtain⟨z,i,c,rfl,rfl,hz,he,q⟩:=h;obtain⟨t,rfl⟩:=rx;obtain⟨t',rfl⟩:=ry;obtain⟨j,h1,h2,h3,h4,h5⟩:=jW he;have hl:z.cps.toList.length=z.length:=by simp[Str.length]
 rw[hl]at h1 h4 h5;have hn:=ZH
 exact tail_any (typeIs_str s z t) slot_str_getitem.lookup (getItem_str (c:=c) (by
   have e1:decide (i < -(2 ^ 63:Int))=false:=decide_eq_false (by omega);have e2:decide (i ≥ 2 ^ 63)=false:=decide_eq_false (by omega)
   rw[e1,e2,Bool.or_false]) (by rw[h1];simpa using h2) ⟨.str ⟨#[c]⟩,H,I.tok _,⟨_,rfl⟩,q⟩) hs
def rIx (K:Frag):R2:=fun x y H Q=>qeD K x y H Q∨qeB K x y H Q∨qeC x y H Q
theorem qm:IxR X (rIx X.K):=ix_list.or (ix_tup.or qdA)
theorem Ju (its:List Value) (n j:Nat) (u:Value):Obj.mapSeq (·.setIfInBounds j u) { cls:=.type "list",data:=.seq its.toArray n }={ cls:=.type "list",data:=.seq (its.set j u).toArray n }:=by
 simp[Obj.mapSeq]
theorem Inv.lst {pins:List (Addr×Obj)}{σ:St}{H:Hp}{s:Shared}{p:Addr}{xs:List V} (I:Inv X pins σ H s) (h:H p=some (.lst xs)) :
   ∃ (its:List Value) (n:Nat),Vals xs its∧s.heap.get? p=some { cls:=.type "list",data:=.seq its.toArray n }∧xs.length≤sizeLine:=by
 obtain⟨z,its,n,r,e⟩:=I.hok p _ h;exact⟨its,n,r,e,z⟩
theorem Inv.lstUpd {pins:List (Addr×Obj)}{σ:St}{H:Hp}{s:Shared}{p:Addr}{xs ys:List V}{its its':List Value}{n n':Nat}{f:Obj->Obj} (I:Inv X pins σ H s) (h:H p=some (.lst xs))
   (ho:s.heap.get? p=some { cls:=.type "list",data:=.seq its.toArray n }) (hf:f { cls:=.type "list",data:=.seq its.toArray n }={ cls:=.type "list",data:=.seq its'.toArray n' }) (r:Vals ys its') (hz:ys.length≤sizeLine) (t:Nat) :
   Inv X pins σ (upd H p (.lst ys)) { s with heap:=s.heap.update p f,toks:=t }:=by
 have e:(s.heap.update p f).get? p=some { cls:=.type "list",data:=.seq its'.toArray n' }:=by
   rw[Heap.get?_update_self f ho (by rw[hf]<;>rfl),hf]
 refine I.write (x:=p) (e:=p) (by rw[h];trivial) (.inl rfl) (fun b u hb q=>(Heap.get?_update_other _ _ (Ne.symm hb)).trans q) ⟨_,e⟩ ?_;exact⟨hz,its',n',r,e⟩
inductive qaa (o:V) (i:V) (v:V) (H:Hp) (Q:(Hp->Prop)):Prop
 | mk (p xs k j:_) (h1:o=.ref p) (h2:i=.int k) (h3:H p=some (.lst xs)) (h4:ixN xs.length k=some j) (h5:Q (upd H p (.lst (xs.set j v)))):qaa o i v H Q
def qd6:V->V->V->Hp->(Hp->Prop)->Prop:=fun o i v H Q=>qaa o i v H Q
theorem zm:qeK X qd6:=by
 intro pins s σ H o i v ov iv u Q I ro ri rv h;obtain⟨p,xs,k,j,rfl,rfl,hp,hj,q⟩:=h;cases ro;obtain⟨t,rfl⟩:=ri;obtain⟨its,n,r,ho,hz⟩:=I.lst hp;obtain⟨h1,h2,h3,h4⟩:=qax hj;have hl:=r.length;have hn:=ZH
 have I':Inv X pins σ (upd H p (.lst (xs.set j v))) { s with heap:=s.heap.update p (Obj.mapSeq (·.setIfInBounds j u)) } :=
   I.lstUpd hp ho (Ju its n j u) (r.set rv j) (by rw[List.length_set];exact hz) s.toks
 by_cases h0:0≤k
 · have hk:k.toNat=j:=by
     rw[seqIndex_of h0 h4]at h1;exact Option.some.inj h1
   exact PySem.W.ki_setAt ho h0 (by omega) (by rw[List.size_toArray,← hl];exact h4) (by rw[hk];exact⟨_,I',q⟩)
 · have hk:(k+(its.toArray.size:Int)).toNat=j:=by
     rw[seqIndex_neg (by omega) h3]at h1;rw[List.size_toArray,← hl];exact Option.some.inj h1
   exact PySem.W.ki_setBack ho (by omega) (by rw[List.size_toArray,← hl];exact h3) (by omega) (by rw[hk];exact⟨_,I',q⟩)
theorem qH:QD X (.type "list") (fun xs H Q=>∃ p ys,xs=[.ref p]∧(SqL X.K H p ys∨SqT X.K H p ys)∧∀ l,H l=none->Q (.ref l) (upd H l (.lst ys))):=by
 intro pins s σ H xs us Q I r h;obtain⟨p,ys,rfl,hq,q⟩:=h;obtain⟨u,rfl,rx⟩:=QX r;cases rx;have fin:∀ (its:List Value),Vals ys its->ys.length≤sizeLine->∀ (h':Heap) (c':Nat),(∀ b o',s.heap.get? b=some o'->h'.get? b=some o') ->
     h'.get? s.heap.objs.size=some { cls:=.type "list",dict:=none,data:=.seq its.toArray c',slots:=#[] }->EP X pins σ Q (.ref s.heap.objs.size) { s with heap:=h' }:=fun its r' hz h' c' kp e =>
   ⟨.ref s.heap.objs.size,_,I.laid (t':=s.toks) kp (Nat.le_refl _) (show ObjOk X.prog X.w _ h' _ (.lst ys) from ⟨hz,its,c',r',e⟩),rfl,q _ (I.hok.fresh (Nat.le_refl _))⟩
 rcases hq with hq|hq
 · obtain⟨its,r',pl,hz⟩:=I.list hq;have hlen:=r'.length;obtain⟨o,ho,hc,n,hd⟩:=pl.isList;exact call_list_seq p (.inl rfl) ho hc hd (fun h' c' kp e=>fin its r' hz h' c' kp e) (by simp only[List.size_toArray]<;>omega)
 · obtain⟨its,r',pl,hz⟩:=I.tuple hq;have hlen:=r'.length;obtain⟨o,ho,hc,n,hd⟩:=pl;exact call_list_seq p (.inr rfl) ho hc hd (fun h' c' kp e=>fin its r' hz h' c' kp e) (by simp only[List.size_toArray]<;>omega)
def tyV (K:Frag) (T:String) (x:V) (H:Hp):Prop:=match x with
 | .str _=>T="str"
 | .int _=>T="int"
 | .ref p=>(T="list"∧∃ xs,SqL K H p xs)∨(T="tuple"∧∃ o,K.lookup p=some o∧o.cls=.type "tuple"∧o.dict=none) ∨
     (T="dict"∧((∃ kvs,H p=some (.dK kvs))∨∃ kvs,H p=some (.dT kvs)))∨(T="set"∧∃ S n,H p=some (.set S n))
 | _=>False
theorem qbS {pins:List (Addr×Obj)}{σ:St}{H:Hp}{s:Shared}{T:String}{x:V}{v:Value} (I:Inv X pins σ H s) (r:RelV x v) (ty:tyV X.K T x H) :
   s.TypeIs v T∧∀ a,v=.ref a->∃ ob,s.heap.get? a=some ob∧ob.dict=none:=by
 cases x with
 | str z =>
   obtain⟨t,rfl⟩:=r;cases (show T="str" from ty);exact⟨typeIs_str s z t,fun _ e=>nomatch e⟩
 | int i =>
   obtain⟨t,rfl⟩:=r;cases (show T="int" from ty);exact⟨typeIs_int s i t,fun _ e=>nomatch e⟩
 | ref p =>
   cases r;rcases ty with ⟨rfl,xs,hq⟩|⟨rfl,o,hk,hc,hd⟩|⟨rfl,hk⟩|⟨rfl,S,n,hk⟩
   · obtain⟨its,_,pl,_⟩:=I.list hq;refine⟨pl.isList.typeIs,fun a e=>?_⟩;cases e;obtain⟨o,n,e,c,hd,_⟩:=pl;exact⟨o,e,hd⟩
   · refine⟨⟨o,I.kIn p o hk,hc⟩,fun a e=>?_⟩;cases e;exact⟨o,I.kIn _ o hk,hd⟩
   · have z:∃ o,s.heap.get? p=some o∧o.ExactDict:=by
       rcases hk with ⟨kvs,hk⟩|⟨kvs,hk⟩
       · obtain⟨_,_,_,_,o,_,_,e,ex,_⟩:=I.hok p _ hk;exact⟨o,e,ex⟩
       · obtain⟨_,_,_,_,o,_,_,e,ex,_⟩:=I.hok p _ hk;exact⟨o,e,ex⟩
     obtain⟨o,e,ex⟩:=z;refine⟨⟨o,e,ex.1⟩,fun a e2=>?_⟩;cases e2;exact⟨o,e,ex.2.1⟩
   · obtain⟨o,_,_,_,e,ex,_⟩:=I.hok p _ hk;refine⟨⟨o,e,ex.1⟩,fun a e2=>?_⟩;cases e2;exact⟨o,e,ex.2.1⟩
 | _=>exact False.elim ty
def qeW (K:Frag) (T:String) (r:V->List V->Hp->VK->Prop) (to:TE):TE:=fun σ H Q=>to σ H fun x H1=>tyV K T x H1∧r x [] H1 Q
def tBM (K:Frag) (T:String) (r:V->List V->Hp->VK->Prop) (to:TE) (t:TA):TE:=fun σ H Q=>to σ H fun x H1=>tyV K T x H1∧t σ H1 fun xs H2=>r x xs H2 Q
variable {o e:Expr}{es:List Expr}{to:TE}{t:TA}{name:Str}{apos cpos:Pos}{T id:String}{r:V->List V->Hp->VK->Prop}
theorem qdr (pa:PlainAttrs T) (slot:Slot T name id) (hty:typeOf (.builtin id)=pure (.type "method_descriptor")) (hm:MtR X id r) (ho:PE X o to)
   (hbase:attributeBase o name X.env (eval o X.env)=eval o X.env:=by rfl) (hline:(apos.endLine == cpos.line)=true:=by rfl):PE X (.Call (.Attribute o name apos) [] [] cpos) (qeW X.K T r to):=by
 intro pins s σ H Q I h;refine wpAny_Call_method0_late hbase hline (thn (ho pins s σ H _ I h) fun v s1 zz_=>?_);obtain⟨x,H1,I1,r1,ty,q1⟩:=zz_;obtain⟨h1,h2⟩:=qbS I1 r1 ty;exact⟨T,id,pa,slot,hty,h1,h2,Calls.callWith_builtin rfl (PySem.evalArgs_none (hm pins s1 σ H1 x [] v [] Q I1 r1 .nil q1))⟩
theorem jM (pa:PlainAttrs T) (slot:Slot T name id) (hty:typeOf (.builtin id)=pure (.type "method_descriptor")) (hm:MtR X id r) (ho:PE X o to) (ha:PA X (e::es) t)
   (hbase:attributeBase o name X.env (eval o X.env)=eval o X.env:=by rfl)
   (hfew:((backTo cpos (starEach (e::es) X.env)).all (fun x=>!x.1) && (backToKw cpos (keywordEach [] X.env)).all (fun x=>x.1.isSome)
     && decide ((e::es).length+([]:List Keyword).length+(if ([]:List Keyword).isEmpty then 0 else 1) < 30))=true:=by rfl)
   (hline:(apos.endLine == cpos.line)=true:=by rfl) (hs:starEach (e::es) X.env=(false,eval e X.env)::starEach es X.env:=by rfl) (hplain:(backTo cpos (starEach es X.env)).any (·.1)=false:=by rfl) :
   PE X (.Call (.Attribute o name apos) (e::es) [] cpos) (tBM X.K T r to t):=by
 intro pins s σ H Q I h;refine wpAny_Call_method_late hbase hfew hline rfl (thn (ho pins s σ H _ I h) fun v s1 zz_=>?_);obtain⟨x,H1,I1,r1,ty,q1⟩:=zz_;obtain⟨h1,h2⟩:=qbS I1 r1 ty;refine⟨T,id,pa,slot,hty,h1,h2,?_⟩;have hA:=ha cpos pins s1 σ H1 _ I1 q1;rw[hs]at hA ⊢;refine Calls.callWith_builtin (by show (false || (backTo cpos (starEach es X.env)).any (·.1))=false;rw[hplain]<;>rfl) (Calls.evalArgs_plain ?_);exact thn hA fun us s2 ⟨vs,H2,I2,r2,q2⟩=>hm pins s2 σ H2 x vs v us Q I2 r1 r2 q2
end
def MtM (X:Cx) (id:String) (r:V->List V->Hp->VK->Prop):Prop :=
 ∀ (pins:List (Addr×Obj)) (s:Shared) (σ:St) (H:Hp) (x:V) (xs:List V) (v:Value) (us:List Value) (Q:VK),Inv X pins σ H s->RelV x v->Vals xs us->r x xs H Q ->
   wpAny (model X.prog X.w) X.A (call (.builtin id) (v::us)) (EP X pins σ Q) X.xe s
theorem Vals.one {x:V}{us:List Value} (h:Vals [x] us):∃ u,us=[u]∧RelV x u:=by
 cases h with
 | cons r t=>cases t;exact⟨_,rfl,r⟩
theorem Vals.zero:∀ {us:List Value},Vals [] us->us=[]
 | _,.nil=>rfl
theorem Vals.rep {xs:List V}{us:List Value} (h:Vals xs us):∀ k:Nat,Vals (List.replicate k xs).flatten (List.replicate k us).flatten
 | 0=>.nil
 | k+1=>by
   rw[List.replicate_succ,List.replicate_succ,List.flatten_cons,List.flatten_cons];exact Vals.append h (Vals.rep h k)
theorem jp (its:List Value):∀ (k:Nat) (acc:List Value),
   List.foldl (fun x1 x2=>x1++x2) acc.toArray (List.replicate k its.toArray)=(acc++(List.replicate k its).flatten).toArray
 | 0,acc=>by simp
 | k+1,acc=>by
   have e:acc.toArray++its.toArray=(acc++its).toArray:=by simp
   have e2:(acc++its)++(List.replicate k its).flatten=acc++(List.replicate (k+1) its).flatten:=by
     rw[List.replicate_succ,List.flatten_cons,List.append_assoc]
   rw[← e2,← jp its k (acc++its),← e,List.replicate_succ,List.foldl_cons]
section
variable {X:Cx}{pins:List (Addr×Obj)}{σ:St}{H:Hp}{s:Shared}{l b:Addr}{xs ys zs:List V}
theorem Inv.lset {its its':List Value}{n:Nat}{f:Array Value->Array Value}{t':Nat} (I:Inv X pins σ H s) (hH:H l=some (.lst xs))
   (e:s.heap.get? l=some { cls:=.type "list",data:=.seq its.toArray n }) (hf:f its.toArray=its'.toArray) (hv:Vals ys its') (hz:ys.length≤sizeLine) :
   Inv X pins σ (upd H l (.lst ys)) { s with heap:=s.heap.update l (Obj.mapSeq f),toks:=t' }:=by
 have q:=PySem.IsL.update e f;rw[hf]at q;refine I.write (x:=l) (e:=l) (by rw[hH];exact trivial) (.inl rfl) (fun b' u hb hu=>(Heap.get?_update_other s.heap (Obj.mapSeq f) (Ne.symm hb)).trans hu) ⟨_,q⟩ ?_;exact⟨hz,its',_,hv,q⟩
theorem Inv.lnew {its:List Value}{t':Nat} (I:Inv X pins σ H s) (hv:Vals ys its) (hz:ys.length≤sizeLine) :
   Inv X pins σ (upd H s.heap.objs.size (.lst ys)) { s with heap:=s.heap.push { cls:=.type "list",data:=.seq its.toArray },toks:=t' } :=
 I.laid (fun _ _ q=>Heap.get?_push_of_some _ q) (Nat.le_refl _) ⟨hz,its,0,hv,Heap.get?_push_size _ rfl⟩
theorem Inv.fresh (I:Inv X pins σ H s):H s.heap.objs.size=none:=I.hok.fresh (Nat.le_refl _)
theorem Inv.lstM (I:Inv X pins σ H s) (hH:H l=some (.lst xs)):xs.length≤sizeLine∧∃ (its:List Value) (n:Nat),Vals xs its∧xs.length=its.length∧s.heap.get? l=some { cls:=.type "list",data:=.seq its.toArray n }:=by
 obtain⟨z,its,n,r,e⟩:=I.hok l _ hH;exact⟨z,its,n,r,r.length,e⟩
theorem qbt {n:Nat} (h:n≤sizeLine):Builtin.List.listTooLong n=false:=by
 unfold Builtin.List.listTooLong;exact decide_eq_false (by omega)
end
section
variable {X:Cx}
inductive ji (x:V) (vs:List V) (H:Hp) (Q:VK):Prop
 | mk (l xs y:_) (h1:x=.ref l) (h2:vs=[y]) (h3:H l=some (.lst xs)) (h4:xs.length < sizeLine) (h5:Q .non (upd H l (.lst (xs++[y])))):ji x vs H Q
def qab:V->List V->Hp->VK->Prop:=fun x vs H Q=>ji x vs H Q
theorem qS:MtM X "list.append" qab:=by
 intro pins s σ H x vs v us Q I rx rv h;obtain⟨l,xs,y,rfl,rfl,hH,hz,q⟩:=h;cases rx;obtain⟨u,rfl,ru⟩:=rv.one;obtain⟨z,its,n,r,hl,e⟩:=I.lstM hH;refine call_meets F.slot_list_append ⟨_,e,rfl⟩ F.entry_list_append (F.args_list_append_2 _ _) (PySem.list_append l its.toArray n u (by rw[List.size_toArray];omega)) ⟨e,?_⟩;refine⟨.non,_,I.lset (its':=its++[u]) hH e (by simp) (r.append (.cons ru .nil)) ?_,rfl,q⟩;rw[List.length_append,List.length_singleton];omega
inductive j9 (x:V) (vs:List V) (H:Hp) (Q:VK):Prop
 | mk (l xs:_) (h1:x=.ref l) (h2:vs=[]) (h3:H l=some (.lst xs)) (h4:Q .non (upd H l (.lst []))):j9 x vs H Q
def qdl:V->List V->Hp->VK->Prop:=fun x vs H Q=>j9 x vs H Q
theorem qbu:MtM X "list.clear" qdl:=by
 intro pins s σ H x vs v us Q I rx rv h;obtain⟨l,xs,rfl,rfl,hH,q⟩:=h;cases rx;have hus:=rv.zero;subst hus;obtain⟨z,its,n,r,hl,e⟩:=I.lstM hH;refine call_meets F.slot_list_clear ⟨_,e,rfl⟩ F.entry_list_clear (F.args_list_clear_1 _) (AutoSeq1.list_clear_list_0 l its.toArray n (by rw[List.size_toArray];omega)) ⟨e,?_⟩;exact⟨.non,_,I.lset (its':=[]) (ys:=[]) hH e rfl .nil (Nat.zero_le _),rfl,q⟩
inductive qb8 (x:V) (y:V) (H:Hp) (Q:VK):Prop
 | mk (l b xs zs:_) (h1:x=.ref l) (h2:y=.ref b) (h3:H l=some (.lst xs)) (h4:H b=some (.lst zs)) (h5:xs.length+zs.length≤sizeLine) (h6:∀ p,H p=none->Q (.ref p) (upd H p (.lst (xs++zs)))):qb8 x y H Q
def qeG:R2:=fun x y H Q=>qb8 x y H Q
theorem op_cat:OpR X (binaryOp .Add) qeG:=by
 intro pins s σ H x y v u Q I rx ry h;obtain⟨l,b,xs,zs,rfl,rfl,hH,hB,hz,q⟩:=h;cases rx;cases ry;obtain⟨z,its,n,r,hl,e⟩:=I.lstM hH;obtain⟨z2,its2,n2,r2,hl2,e2⟩:=I.lstM hB;refine PySem.P.add_list e e2 ?_ (by rw[List.size_toArray,List.size_toArray];omega);have ea:its.toArray++its2.toArray=(its++its2).toArray:=by simp
 rw[ea];exact⟨.ref _,_,I.lnew (t':=s.toks) (r.append r2) (by rw[List.length_append];omega),rfl,q _ I.fresh⟩
def qeY:R2:=fun x y H Q=>∃ l k xs,x=.ref l∧y=.int k∧H l=some (.lst xs)∧-(2 ^ 63)≤k∧k < 2 ^ 63∧xs.length * k.toNat≤sizeLine ∧
 ∀ p,H p=none->Q (.ref p) (upd H p (.lst (List.replicate k.toNat xs).flatten))
theorem qcM {α:Type} (xs:List α) (k:Nat):(List.replicate k xs).flatten.length=k * xs.length:=by
 induction k with
 | zero=>simp
 | succ k ih=>rw[List.replicate_succ,List.flatten_cons,List.length_append,ih,Nat.succ_mul,Nat.add_comm]
theorem qcb:OpR X (binaryOp .Mult) qeY:=by
 intro pins s σ H x y v u Q I rx ry h;obtain⟨l,k,xs,rfl,rfl,hH,h1,h2,hz,q⟩:=h;cases rx;obtain⟨t,rfl⟩:=ry;obtain⟨z,its,n,r,hl,e⟩:=I.lstM hH;have hlen:its.toArray.size * k.toNat≤sizeLine:=by rw[List.size_toArray,← hl];exact hz
 have hcap:¬ its.toArray.size * k.toNat > (2 ^ 63 - 1) / 8:=by
   have:(sizeLine:Nat)≤(2 ^ 63 - 1) / 8:=by decide
   omega
 have hfit:¬ (!Builtin.List.listFitsIndex k)=true:=by
   rw[fitsIndex_both h1 h2];exact Bool.false_ne_true
 have hlong:¬ Builtin.List.listTooLong (its.toArray.size * k.toNat)=true:=by
   rw[qbt hlen];exact Bool.false_ne_true
 have hnew:List.foldl (fun x1 x2=>x1++x2) #[] (List.replicate (if its.toArray.isEmpty=true then 0 else k.toNat) its.toArray)=(List.replicate k.toNat its).flatten.toArray:=by
   have f0:∀ m:Nat,List.foldl (fun x1 x2=>x1++x2) #[] (List.replicate m its.toArray)=(List.replicate m its).flatten.toArray:=fun m=>by
     have:=jp its m []
     rw[List.nil_append]at this;exact this
   rw[f0]
   cases its with
   | nil=>simp
   | cons a r'=>rw[if_neg (by simp)]
 refine wpAny_binaryOp_repeat_ref (T:="list") (U:="int") (by decide) ⟨_,e,rfl⟩ (fun s'=>typeIs_int s' k t) noFill_list_mul F.fills_int_mul F.slot_int_rmul repeat_list F.slot_int_index.lookup
   (call_meets F.slot_int_rmul (typeIs_int s k t) F.entry_int_rmul (F.args_int_rmul_2 _ _) (int___rmul___int_list k t l its.toArray n)
     ⟨e,rfl,⟨_,e,rfl⟩,call_meets F.slot_list_mul ⟨_,e,rfl⟩ F.entry_list_mul (F.args_list_mul_2 _ _) (AutoListH.list___mul___list_int_3 l its.toArray n k t hfit hcap hlong) ⟨e,?_⟩⟩)
 rw[hnew];exact⟨.ref _,_,I.lnew (t':=s.toks) (r.rep k.toNat) (by rw[qcM,Nat.mul_comm];exact hz),rfl,q _ I.fresh⟩
end
section
variable {κ:Type} [DecidableEq κ]
def jI (kvs:List (κ×V)) (k:κ):Option V:=(kvs.find? fun kv=>decide (kv.1=k)).map (·.2)
def jK (kvs:List (κ×V)) (k:κ) (v:V):List (κ×V) :=
 if (kvs.any fun kv=>decide (kv.1=k))=true then kvs.map (fun kv=>if kv.1=k then (kv.1,v) else kv) else kvs++[(k,v)]
def Qu (kvs:List (κ×V)) (k:κ):List (κ×V):=kvs.filter fun kv=>decide (kv.1≠k)
theorem QS {p:κ×V}{r:List (κ×V)}{k:κ} (e:p.1=k):jI (p::r) k=some p.2:=by simp[jI,List.find?_cons,e]
theorem zZ {p:κ×V}{r:List (κ×V)}{k:κ} (e:¬ p.1=k):jI (p::r) k=jI r k:=by simp[jI,List.find?_cons,e]
theorem QT (k:κ):∀ kvs:List (κ×V),(kvs.any fun kv=>decide (kv.1=k))=(jI kvs k).isSome
 | []=>rfl
 | p::r=>by
   rw[List.any_cons];by_cases e:p.1=k
   · simp only[QS e,decide_eq_true e,Bool.true_or,Option.isSome_some]
   · rw[zZ e,decide_eq_false e,Bool.false_or];exact QT k r
theorem Ze (kvs:List (κ×V)) (k:κ) (v:V):(jK kvs k v).length≤kvs.length+1:=by
 unfold jK;split
 · rw[List.length_map];omega
 · rw[List.length_append,List.length_cons,List.length_nil];omega
theorem qbe {kvs:List (κ×V)}{k:κ} (v:V) (h:jI kvs k=none):jK kvs k v=kvs++[(k,v)]:=by
 unfold jK;rw[QT,h];exact if_neg (by decide)
theorem RelO.isSome_eq {o:Option V}{u:Option Value} (r:RelO o u):o.isSome=u.isSome:=by
 cases o with
 | none=>cases u with
   | none=>rfl
   | some _=>exact(show False from r).elim
 | some _=>cases u with
   | none=>exact(show False from r).elim
   | some _=>rfl
theorem KV.val {kvs:List (κ×V)}{vs:List (κ×Value)} (r:KV kvs vs) (k:κ):RelO (jI kvs k) (valueAt vs k):=by
 unfold KV at r
 induction r with
 | nil=>exact True.intro
 | @cons p q ps qs h t ih =>
   obtain⟨h1,h2⟩:=h;by_cases e:p.1=k
   · have e':q.1=k:=h1.symm.trans e;have b:valueAt (q::qs) k=some q.2:=by simp[valueAt,List.find?_cons,e']
     rw[QS e,b];exact h2
   · have e':¬ q.1=k:=fun z=>e (h1.trans z);have b:valueAt (q::qs) k=valueAt qs k:=by simp[valueAt,List.find?_cons,e']
     rw[zZ e,b];exact ih
theorem KV.any {kvs:List (κ×V)}{vs:List (κ×Value)} (r:KV kvs vs) (k:κ):(kvs.any fun kv=>decide (kv.1=k))=vs.any fun kv=>decide (kv.1=k):=by
 unfold KV at r
 induction r with
 | nil=>rfl
 | cons h t ih=>rw[List.any_cons,List.any_cons,ih,h.1]
theorem KV.repl {kvs:List (κ×V)}{vs:List (κ×Value)} (r:KV kvs vs) (k:κ) {y:V}{u:Value} (ry:RelV y u) :
   KV (kvs.map fun kv=>if kv.1=k then (kv.1,y) else kv) (vs.map fun kv=>if kv.1=k then (kv.1,u) else kv):=by
 unfold KV at r ⊢
 induction r with
 | nil=>exact .nil
 | @cons p q ps qs h t ih =>
   rw[List.map_cons,List.map_cons];refine .cons ?_ ih;obtain⟨h1,h2⟩:=h;by_cases e:p.1=k
   · rw[if_pos e,if_pos (h1.symm.trans e)];exact⟨h1,ry⟩
   · rw[if_neg e,if_neg (fun z=>e (h1.trans z))];exact⟨h1,h2⟩
theorem KV.put {kvs:List (κ×V)}{vs:List (κ×Value)} (r:KV kvs vs) (k:κ) {y:V}{u:Value} (ry:RelV y u):KV (jK kvs k y) (stored vs k u):=by
 unfold jK stored;rw[r.any k];by_cases e:(vs.any fun kv=>decide (kv.1=k))=true
 · rw[if_pos e,if_pos e];exact r.repl k ry
 · rw[if_neg e,if_neg e];exact Paired.snoc r ⟨rfl,ry⟩
theorem KV.drop {kvs:List (κ×V)}{vs:List (κ×Value)} (r:KV kvs vs) (k:κ):KV (Qu kvs k) (without vs k):=by
 unfold KV at r ⊢;unfold Qu without
 induction r with
 | nil=>exact .nil
 | @cons p q ps qs h t ih =>
   obtain⟨h1,h2⟩:=h;rw[List.filter_cons,List.filter_cons];by_cases e:p.1=k
   · have a:¬ decide (p.1≠k)=true:=by simp[e]
     have b:¬ decide (q.1≠k)=true:=by simp[h1.symm.trans e]
     rw[if_neg a,if_neg b];exact ih
   · have e':¬ q.1=k:=fun z=>e (h1.trans z);have a:decide (p.1≠k)=true:=by simp[e]
     have b:decide (q.1≠k)=true:=by simp[e']
     rw[if_pos a,if_pos b];exact .cons ⟨h1,h2⟩ ih
theorem KV.length {kvs:List (κ×V)}{vs:List (κ×Value)} (r:KV kvs vs):kvs.length=vs.length:=Paired.length r
theorem qbH (kvs:List (κ×V)) (k:κ):(Qu kvs k).length≤kvs.length:=List.length_filter_le _ _
end
theorem qbx {P:Program}{w:World}{k:Key}{u:Value} (r:RelV (kV k) u):(qA P w).is k u=true:=by
 cases k with
 | inl i=>obtain⟨t,e⟩:=(show ∃ t,u=Value.int i t from r);subst e;exact jP P w i t
 | inr x=>obtain⟨t,e⟩:=(show ∃ t,u=Value.str x t from r);subst e;exact jO P w x t
theorem jm {P:Program}{w:World}:∀ {ks:List Key}{us:List Value},Vals (ks.map kV) us->ItemsAre (qA P w) ks us
 | [],_,r=>by rw[List.map_nil]at r;cases r;exact .nil
 | k::ks,_,r=>by
   rw[List.map_cons]at r
   cases r with
   | cons h t=>exact .cons (qbx h) (jm t)
abbrev KT (H:Hp):List (List Key×V)->List (List Key×Addr×Value)->Prop:=Paired fun p q=>p.1=q.1∧H q.2.1=some (.tup (p.1.map kV))∧RelV p.2 q.2.2
theorem KT.val {H:Hp}{kvs:List (List Key×V)}{xs:List (List Key×Addr×Value)} (r:KT H kvs xs) (k:List Key):RelO (jI kvs k) ((atKey xs k).map (·.2)):=by
 induction r with
 | nil=>exact True.intro
 | @cons p q ps qs h t ih =>
   obtain⟨h1,_,h2⟩:=h;by_cases e:p.1=k
   · have e':q.1=k:=h1.symm.trans e;have b:atKey (q::qs) k=some q.2:=by simp[atKey,List.find?_cons,e']
     rw[QS e,b];exact h2
   · have e':¬ q.1=k:=fun z=>e (h1.trans z);have b:atKey (q::qs) k=atKey qs k:=by simp[atKey,List.find?_cons,e']
     rw[zZ e,b];exact ih
theorem KT.repl {H:Hp}{kvs:List (List Key×V)}{xs:List (List Key×Addr×Value)} (r:KT H kvs xs) (k:List Key) {y:V}{u:Value} (ry:RelV y u) :
   KT H (kvs.map fun kv=>if kv.1=k then (kv.1,y) else kv) (xs.map (putAt k u)):=by
 induction r with
 | nil=>exact .nil
 | @cons p q ps qs h t ih =>
   rw[List.map_cons,List.map_cons];refine .cons ?_ ih;obtain⟨h1,h2,h3⟩:=h;unfold putAt;by_cases e:p.1=k
   · rw[if_pos e,if_pos (h1.symm.trans e)];exact⟨h1,h2,ry⟩
   · rw[if_neg e,if_neg (fun z=>e (h1.trans z))];exact⟨h1,h2,h3⟩
theorem KT.put {H:Hp}{kvs:List (List Key×V)}{xs:List (List Key×Addr×Value)} (r:KT H kvs xs) (k:List Key) {b:Addr}{y:V}{u:Value} (hb:H b=some (.tup (k.map kV))) (ry:RelV y u) :
   KT H (jK kvs k y) (storedH xs k b u):=by
 have e:(kvs.any fun kv=>decide (kv.1=k))=(atKey xs k).isSome:=by
   rw[QT,(r.val k).isSome_eq,Option.isSome_map]
 unfold jK storedH;rw[e];by_cases q:(atKey xs k).isSome=true
 · rw[if_pos q,if_pos q];exact r.repl k ry
 · rw[if_neg q,if_neg q];exact Paired.snoc r ⟨rfl,hb,ry⟩
theorem KT.keeps {H H':Hp}{kvs:List (List Key×V)}{xs:List (List Key×Addr×Value)} (r:KT H kvs xs) (ht:∀ b ys,H b=some (.tup ys)->H' b=some (.tup ys)):KT H' kvs xs :=
 Paired.mapP r fun _ _ z=>⟨z.1,ht _ _ z.2.1,z.2.2⟩
section
variable {P:Program}{w:World}{H:Hp}{h:Heap}{a:Addr}
theorem qdi {u:HO} (ok:HOk P w H h) (e:Rd H a u):ObjOk P w H h a u:=e.ok ok
theorem qcU {kvs:List (Key×V)} (ok:HOk P w H h) (e:Rd H a (.dK kvs)):kvs.length≤sizeLine∧(a == sysModules)=false∧∃ vs,KV kvs vs∧h.DictOf (qA P w) a vs :=
 show ObjOk P w H h a (.dK kvs) from qdi ok e
theorem qdI {kvs:List (Key×V)} (ok:HOk P w H h) (e:H a=some (.dK kvs)):kvs.length≤sizeLine∧(a == sysModules)=false∧∃ vs,KV kvs vs∧h.DictOf (qA P w) a vs:=qcU ok (.inl e)
theorem qcg {ks:List Key} (ok:HOk P w H h) (e:H a=some (.tup (ks.map kV))):(tupleKind (qA P w)).is h ks a:=by
 obtain⟨_,its,r,o,h1,h2,n,h3⟩:=(show ObjOk P w H h a (.tup (ks.map kV)) from ok a _ e)
 exact⟨o,its.toArray,n,h1,h2,h3,by simpa using jm r⟩
theorem qdH {kvs:List (List Key×V)} (ok:HOk P w H h) (e:Rd H a (.dT kvs)):kvs.length≤sizeLine∧(a == sysModules)=false ∧
   ∃ xs,KT H kvs xs∧h.DictOfH (tupleKind (qA P w)) a xs:=by
 obtain⟨z,y,xs,r,o,es,ep,h1,h2,h3,h4,h5⟩:=(show ObjOk P w H h a (.dT kvs) from qdi ok e)
 refine⟨z,y,xs,r,o,es,ep,h1,h2,h3,h4,fun x hx=>?_,h5⟩
 have all:∀ {l:List (List Key×V)}{m:List (List Key×Addr×Value)},KT H l m->∀ x∈m,(tupleKind (qA P w)).is h x.1 x.2.1:=by
   intro l m q
   induction q with
   | nil=>intro x hx;exact nomatch hx
   | @cons p q ps qs hq t ih =>
     intro x hx;rcases List.mem_cons.mp hx with e|hx
     · subst e;exact qcg ok (by rw[← hq.1];exact hq.2.1)
     · exact ih x hx
 exact all r x hx
theorem qem {kvs:List (List Key×V)} (ok:HOk P w H h) (e:H a=some (.dT kvs)):kvs.length≤sizeLine∧(a == sysModules)=false ∧
   ∃ xs,KT H kvs xs∧h.DictOfH (tupleKind (qA P w)) a xs:=qdH ok (.inl e)
end
def DPut (H:Hp) (a:Addr) (y v:V) (H':Hp):Prop :=
 (∃ kvs k,H a=some (.dK kvs)∧y=kV k∧kvs.length < sizeLine∧H'=upd H a (.dK (jK kvs k v))) ∨
 ∃ kvs k b,H a=some (.dT kvs)∧y=.ref b∧H b=some (.tup (k.map kV))∧kvs.length < sizeLine∧H'=upd H a (.dT (jK kvs k v))
theorem DPut.k {H:Hp}{a:Addr}{kvs:List (Key×V)}{k:Key}{v:V} (e:H a=some (.dK kvs)) (hl:kvs.length < sizeLine):DPut H a (kV k) v (upd H a (.dK (jK kvs k v))):=.inl ⟨kvs,k,e,rfl,hl,rfl⟩
section
variable {X:Cx}{pins:List (Addr×Obj)}{σ:St}{H:Hp}{s:Shared}{a:Addr}{y v:V}{u r:Value}{o:Option V}{A:Around}{E:Value->Shared->Prop}
theorem Inv.big (I:Inv X pins σ H s):sysModules < s.heap.objs.size:=by
 have h:mainGlobals < s.heap.objs.size:=(I.mod.glob.keeps I.bk).lt;exact Nat.lt_trans (by decide) h
theorem jU {h':Heap}{t':Nat}{ob:HO} (I:Inv X pins σ H s) (mu:Mut (H a)) (hs:Heap.SameBut a s.heap h') (he:∃ q,h'.get? a=some q) (new:ObjOk X.prog X.w (upd H a ob) h' a ob) :
   Inv X pins σ (upd H a ob) { s with heap:=h',toks:=t' } :=
 I.write (x:=a) (e:=a) mu (.inl rfl) (fun b q hb z=>(hs.2 b hb).trans z) he new
theorem qcm {P:Program}{w:World}{H':Hp}{h':Heap}{kvs:List (Key×V)}{vs:List (Key×Value)} (z:kvs.length≤sizeLine) (hd:(a == sysModules)=false) (rel:KV kvs vs) (dd:h'.DictOf (qA P w) a vs) :
   ObjOk P w H' h' a (.dK kvs):=⟨z,hd,vs,rel,dd⟩
theorem qaL {H':Hp}{Q:Unit->Shared->Prop} (hu:A.units+1 < cLine) (I:Inv X pins σ H s) (g:DPut H a y v H') (ry:RelV y u) (rv:RelV v r) (h:∀ s',Inv X pins σ H' s'->Q () s') :
   wpAny (model X.prog X.w) A (setItem (.ref a) u r) Q E s:=by
 rcases g with ⟨kvs,k,e,ey,l,eH⟩|⟨kvs,k,b,e,ey,eb,l,eH⟩
 · subst ey eH;obtain⟨z,hd,vs,rel,dd⟩:=qdI I.hok e;have hz:vs.length≤sizeLine:=by rw[← rel.length];exact z
   have hl:(jK kvs k v).length≤sizeLine:=by have:=Ze kvs k v;omega
   refine wpAny_setItem_pairs (hsz:=hz) (qbx ry) dd fun h' dd' hs=>h _ ?_;have he:∃ q,h'.get? a=some q:=let ⟨q,_,_,hq,_⟩:=dd';⟨q,hq⟩;exact jU I (by rw[e];exact True.intro) hs he (qcm hl hd (rel.put k rv) dd')
 · subst ey eH;cases (show u=Value.ref b from ry);obtain⟨z,hd,xs,rel,dd⟩:=qem I.hok e;have hz:xs.length≤sizeLine:=by rw[← Paired.length rel];exact z
   have hl:(jK kvs k v).length≤sizeLine:=by have:=Ze kvs k v;omega
   refine wpAny_setItem_heap (hsz:=hz) (tupleKind_room_in1 hu) (qcg I.hok eb) dd fun h' dd' hs=>h _ ?_;obtain⟨q,es,ep,hq,h2,h3,h4,_,h5⟩:=dd';refine jU I (by rw[e];exact True.intro) hs ⟨q,hq⟩ ⟨hl,hd,_,(rel.put k eb rv).keeps fun c ys ec=>?_,q,es,ep,hq,h2,h3,h4,h5⟩;rw[qf (qO ec e (fun z=>nomatch z))];exact ec
end
section
variable {X:Cx}{pins:List (Addr×Obj)}{σ:St}{H:Hp}{s:Shared}{a:Addr}{kvs:List (Key×V)}{k:Key}{u:Value}{A:Around}{E:Value->Shared->Prop}
theorem qen {v:V}{more:List Value}{Q:Value->Shared->Prop} (I:Inv X pins σ H s) (e:H a=some (.dK kvs)) (ry:RelV (kV k) u) (l:jI kvs k=some v) (hm:more=[]∨∃ x,more=[x])
   (h:∀ w' s',Inv X pins σ (upd H a (.dK (Qu kvs k))) s'->RelV v w'->Q w' s'):wpAny (model X.prog X.w) A (call (.builtin "dict.pop") (.ref a::u::more)) Q E s:=by
 obtain⟨z,hd,vs,rel,dd⟩:=qdI I.hok e;obtain⟨w',hw,rw'⟩:=RelO.some_of (v:=v) (o:=valueAt vs k) (by rw[← l];exact rel.val k)
 have hp:(keyPart u).isSome=true:=by
   cases k with
   | inl i=>obtain⟨t,q⟩:=(show ∃ t,u=Value.int i t from ry);subst q;rfl
   | inr x=>obtain⟨t,q⟩:=(show ∃ t,u=Value.str x t from ry);subst q;rfl
 have ha:argsOk "dict.pop" ⟨.ref a::u::more,[]⟩:=by
   rcases hm with q|⟨x,q⟩
   · subst q;exact PySem.F.args_dict_pop_2 _ _
   · subst q;exact PySem.F.args_dict_pop_3 _ _ _
 refine call_meetsIn PySem.F.slot_dict_pop dd.typeIs PySem.F.entry_dict_pop ha (meets_dict_pop_there (qA X.prog X.w) a (qbx ry) more hm hp)
   ⟨vs,w',dd,by rw[← rel.length];exact z,hw,fun h' dd' hs=>h w' _ ?_ rw'⟩
 have he:∃ q,h'.get? a=some q:=let ⟨q,_,_,hq,_⟩:=dd';⟨q,hq⟩;exact jU I (by rw[e];exact True.intro) hs he (qcm (Nat.le_trans (qbH kvs k) z) hd (rel.drop k) dd')
end
def qd5 (td ty tv:TE):TS:=fun D σ H=>tv σ H fun v H1=>td σ H1 fun x H2=>ty σ H2 fun y H3=>∃ a H4,x=.ref a∧DPut H3 a y v H4∧D.nx σ H4
section
variable {X:Cx}{o i e value:Expr}{pos pos' tpos:Pos}{td ty tv:TE}
theorem qcA (hu:X.A.units+1 < cLine) (ho:PE X o td) (hi:PE X i ty) (hv:PE X value tv) (hs:swapsWith value (some (.Subscript o i pos')) pos.line X.env=pure false) :
   PS X (.Assign [.Subscript o i pos'] value pos) (qd5 td ty tv):=by
 intro pins s σ H D I h;refine wpAny_Assign_Subscript (thn (hv pins s σ H _ I h) fun r s1 ⟨v,H1,I1,rv,q1⟩=>thn (ho pins s1 σ H1 _ I1 q1) fun u s2 ⟨x,H2,I2,rx,q2⟩=>thn (hi pins s2 σ H2 _ I2 q2) fun iv s3 zz_=>?_) hs;obtain⟨y,H3,I3,ry,a,H4,ex,g,q3⟩:=zz_;subst ex;obtain rfl:u=Value.ref a:=rx;exact qaL hu I3 g ry rv fun s4 I4=>⟨σ,H4,I4,q3⟩
end
structure M1 (X:Cx) (o:Expr) (m:Str) (apos:Pos) (e:Expr) (cpos:Pos):Prop where
 base:attributeBase o m X.env (eval o X.env)=eval o X.env
 few:((backTo cpos (starEach [e] X.env)).all (fun x=>!x.1) && (backToKw cpos (keywordEach [] X.env)).all (fun x=>x.1.isSome)
   && decide (([e]:List Expr).length+([]:List Keyword).length+(if ([]:List Keyword).isEmpty then 0 else 1) < 30))=true
 line:(apos.endLine == cpos.line)=true
 trees:backTo cpos (starEach [e] X.env)=[(false,eval e X.env)]
def IsD (H:Hp) (a:Addr):Prop:=(∃ kvs,Rd H a (.dK kvs))∨∃ kvs,Rd H a (.dT kvs)
theorem qdB {X:Cx}{pins:List (Addr×Obj)}{σ:St}{H:Hp}{s:Shared}{a:Addr} (I:Inv X pins σ H s) (d:IsD H a) :
   s.TypeIs (.ref a) "dict"∧(∀ b,Value.ref a=.ref b->∃ ob,s.heap.get? b=some ob∧ob.dict=none)∧(a == sysModules)=false:=by
 rcases d with ⟨kvs,e⟩|⟨kvs,e⟩
 · obtain⟨_,hd,vs,_,dd⟩:=qcU I.hok e;refine⟨dd.typeIs,fun b q=>?_,hd⟩;cases q;obtain⟨ob,_,_,h1,h2,_⟩:=dd;exact⟨ob,h1,h2.2.1⟩
 · obtain⟨_,hd,xs,_,dd⟩:=qdH I.hok e;refine⟨dd.typeIs,fun b q=>?_,hd⟩;cases q;obtain⟨ob,_,_,h1,h2,_⟩:=dd;exact⟨ob,h1,h2.2.1⟩
def qdb (td ty:TE):TE:=fun σ H Q=>td σ H fun x H1=>∃ a,x=.ref a∧IsD H1 a∧ty σ H1 fun y H2=>∃ kvs k v,H2 a=some (.dK kvs)∧y=kV k∧jI kvs k=some v∧Q v (upd H2 a (.dK (Qu kvs k)))
section
variable {X:Cx}{o e f:Expr}{apos cpos:Pos}{td ty tx:TE}
theorem qbm (ho:PE X o td) (he:PE X e ty) (m:M1 X o "pop" apos e cpos):PE X (.Call (.Attribute o "pop" apos) [e] [] cpos) (qdb td ty):=by
 intro pins s σ H Q I h;refine wpAny_Call_method m.base m.few m.line PySem.F.plainAttrs_dict PySem.F.slot_dict_pop PySem.F.type_dict_pop (thn (ho pins s σ H _ I h) fun u s1 zz_=>?_);obtain⟨x,H1,I1,rx,a,ex,d,q1⟩:=zz_;subst ex;obtain rfl:u=Value.ref a:=rx;obtain⟨t1,t2,_⟩:=qdB I1 d;refine⟨t1,t2,?_⟩;rw[m.trees];refine Calls.callWith_builtin rfl (Calls.evalArgs_plain (Calls.spliced_cons (thn (he pins s1 σ H1 _ I1 q1) fun iv s2 ⟨y,H2,I2,ry,kvs,k,v,ea,ey,l,q2⟩=>Calls.spliced_nil ?_)));subst ey;exact qen I2 ea ry l (.inl rfl) fun w' s3 I3 rw'=>⟨v,_,I3,rw',q2⟩
end
end L2
namespace Att
open PySem PySem.W PySem.Calls PyProof.Rows
theorem Zg {P:Params}{h:Heap}:∀ (ns:List Int) (vs:List Value),WellAll P h vs (ns.map WData.int)->IntsAre vs ns:=by
 intro ns
 induction ns with
 | nil =>
   intro vs w;rw[List.map_nil]at w;cases w;exact .nil
 | cons n ns ih =>
   intro vs w;rw[List.map_cons]at w
   cases w with
   | cons a b =>
     cases a;exact .cons _ _ (ih _ b)
theorem J0 {l:OpenLaw}{n:Nat} (hn:l.most=some n) {P:Params}{h:Heap}{args:List WData}{vals:List Value}
   (hpre:l.row.toRowW.claim.pre args=true) (hwl:WellAll P h vals args) :
   ∃ a vs ns,vals=[Value.ref a]∧args=[WData.list (ns.map WData.int)]∧h.get? a=some { cls:=.type "list",data:=.seq vs.toArray }∧IntsAre vs ns∧ns.length≤n:=by
 have hsh:WShape.hasAll [] args [.list .int]=true:=(pre_splitW hpre).1;have hc:l.pre.holds [] { args:=args }=true:=(pre_splitW hpre).2;obtain⟨d,r,rfl,h1,h2⟩:=hasAllW_cons hsh;obtain rfl:=hasAllW_nil h2;obtain⟨xs,rfl,h3⟩:=hasW_list h1;obtain⟨ns,rfl⟩:=items_int h3
 have hlen:ns.length≤n:=by
   unfold OpenLaw.pre at hc
   have h4:(WTm.not (.lt (.lit (.int (n:Int))) (.len (.arg 0)))).holds [] { args:=[.list (ns.map .int)] }=true:=by
     have h4:=(holds_andW hc).1;rw[hn]at h4;exact h4
   have h5:=condW_of h4 (w_not (w_lt w_lit (w_len_list (w_arg rfl))));rw[List.length_map]at h5;refine Nat.le_of_not_lt fun q=>?_;have q':(n:Int) < ((ns.length:Nat):Int):=by omega
   first
     | (rw[decide_eq_true q']at h5;exact absurd h5 (by decide))
     | (simp at h5;omega)
 cases hwl with
 | cons w1 w2 =>
   cases w2
   cases w1 with
   | list ho hall=>exact⟨_,_,ns,rfl,rfl,ho,Zg ns _ hall,hlen⟩
theorem qac (l:OpenLaw) (args:List WData):l.row.toRowW.claim.post args (.bool true) args=true :=
 postW_of (r:=l.row.toRowW) (X:=(true == true))
   (show WShape.has [] (.bool true) .bool=true by first|rfl|decide|simp[WShape.has,WShape.arms,WShape.armsAll])
   (show (WTm.eq .res (.lit (.bool true))).value [] { args:=args,res:=some (.bool true),after:=args }=some (.bool (true == true)) from w_eq_bool (w_res rfl) w_lit) rfl
theorem attach_call {l:OpenLaw}{n:Nat}{q:Program}{loose:List Str}{XP:(Str->Option Value)->Heap->Prop}{YP:World->Heap->Prop}{d:DefRec}
   (hn:l.most=some n) (hdf:d.params.defaults=[])
   (call:∀ (w:World) (s₀ s₁:Shared) (mg mb:Str->Option Value) (fa:Addr) (o:Obj) (pm cd doc:Value) (a:Addr) (vs:List Value) (ns:List Int),
     Ground q loose [] XP w s₀ mg mb s₁.heap->YP w s₁.heap ->
     s₁.heap.get? fa=some o->o.data=.func (docDef d.name d.params d.body d.scope pm cd doc)->s₁.heap.CodeRec cd d.name->mg d.name=some (.ref fa) ->
     s₁.heap.get? a=some { cls:=.type "list",data:=.seq vs.toArray }->IntsAre vs ns->ns.length≤n->s₁.gens=#[] ->
     codeAny (model l.prog w) callerA (.call (.ref fa) ⟨[.ref a],[]⟩) (fun r s'=>r=.ok (.ret (.bool true))∧OldK s₁.heap s'.heap∧s'.os=s₁.os∧AllBare s'.gens) s₁) :
   WalkO q loose XP YP l.row.toRowW d [] (fun f vs=>PySem.call f vs):=by
 intro w s₀ s₁ mg mb G Y fa o pm cd doc dV kV ho hd hcd hD hmg hg args vals as hpre hlay hrd hwl hlo;obtain rfl:dV=.none:=Dflts.none hD hdf;obtain rfl:kV=.none:=Dflts.noKw hD;obtain⟨a,vs,ns,rfl,rfl,hobj,hints,hlen⟩:=J0 hn hpre hwl;refine enter_call (codeAny_mono (call w s₀ s₁ mg mb fa o pm cd doc a vs ns G Y ho (fd_plain hd) hcd hmg hobj hints hlen hg) fun r s' hq=>?_);obtain⟨rfl,h2,h3,h4⟩:=hq;exact⟨.inl ⟨.bool true,.bool true,[],rfl,fun _=>rfl,.bool true,qac l _,fun _=>⟨List.Pairwise.nil,fun _ hm=>(nomatch hm)⟩⟩,h2,h3,h4⟩
end Att
namespace L2
open PySem PySem.Spec PyProof.Rows
open PySem.W (Frag keepIn kitOne fnOf codeIn kitAny kia_tup)
theorem ja:∀ {vs:List Value}{ns:List Int},IntsAre vs ns->Vals (ns.map V.int) vs
 | _,_,.nil=>.nil
 | _,_,.cons n t h=>.cons ⟨t,rfl⟩ (ja h)
def Zh (s:Stmt) (j:Nat):Stmt:=match s with
 | .ClassDef _ _ _ body _ _ _ _ _ _ _=>body.getD j (.Pass ⟨0,0,0,0⟩)
 | _=>.Pass ⟨0,0,0,0⟩
def zh (s:Stmt):Arguments:=match s with
 | .FunctionDef _ a _ _ _ _ _ _ _ _=>a
 | _=>{ posonlyargs:=[],args:=[],vararg:=none,kwonlyargs:=[],kw_defaults:=[],kwarg:=none,defaults:=[] }
def qX (s:Stmt):List Stmt:=match s with
 | .FunctionDef _ _ b _ _ _ _ _ _ _=>b
 | _=>[]
def qh (s:Stmt):Scope:=match s with
 | .FunctionDef _ _ _ _ _ _ sc _ _ _=>sc
 | _=>{ kind:=.function,names:=[],isGenerator:=false,isCoroutine:=false }
abbrev CX0:CXT:=fun _ _ _ _ _ _=>False
abbrev E0:XK:=fun _ _ _=>False
theorem qz {X:Cx}:Zo CX0 X E0:=fun _ _ _ _ _ _ _ h=>h.elim
structure Fun (K:Frag) (x qual:Str) (st:Stmt) (f:Addr) (fd:FuncData):Prop where
 ex:∃ (oc:Value) (od:Option Addr) (kV doc pm:Value) (an:Option Addr) (cdv ct:Value) (osl:Array (Option Value)),
   fd=fnOf x qual (zh st) (qX st) (qh st) .none kV doc pm an cdv ct∧K.lookup f=some ⟨oc,od,.func fd,osl⟩∧codeIn K cdv qual=true
 kp:keepIn K (.ref f)=true
section
variable {P:Program}{w:World}{K:Frag}{mg:Str->Option Value}{base:Heap}
theorem Fun.ok {x qual:Str}{st:Stmt}{f:Addr}{fd:FuncData}{N ps:List Str}{k:Nat}{sp:Sp} (F:Fun K x qual st f fd) (S:qt N ps (qh st)) (len:∀ vs H Q E,sp vs H Q E->vs.length=ps.length)
   (hbody:∀ (cdv:Value) (A:Around) (outer:List Env) (s:Shared) (H:Hp) (vs:List V) (Q:VK) (E:XK),Room k (A.deeper (envOfC qual (qh st) s.heap.objs.size f cdv))->sp vs H Q E ->
     ∃ t,PSs (zG CX0 P w K mg base N qual (qh st) f cdv A outer s H E).nox (qX st) t∧t { nx:=fun _ H'=>Q .non H',rt:=Q } (start N vs) H):FnOk P w K mg base CX0 (k+1) f fd ps sp:=by
 obtain⟨oc,od,kV,doc,pm,an,cdv,ct,osl,rfl,lk,hcd⟩:=F.ex;refine qdE lk hcd S len fun A outer s H vs Q E hr hsp=>?_;obtain⟨t,h,q⟩:=hbody cdv A outer s H vs Q E hr hsp;exact⟨t,h.nox,q⟩
theorem Fun.binds {x qual:Str}{st:Stmt}{f:Addr}{fd:FuncData}{ps:List Str} (F:Fun K x qual st f fd)
   (h:∀ (kV doc pm:Value) (an:Option Addr) (cdv ct:Value) (us:List Value),us.length=ps.length->bindArgs (fnOf x qual (zh st) (qX st) (qh st) .none kV doc pm an cdv ct) ⟨us,[]⟩=pure (ps.zip us)):Binds K fd ps []:=by
 obtain⟨oc,od,kV,doc,pm,an,cdv,ct,osl,rfl,lk,hcd⟩:=F.ex;exact .all (h kV doc pm an cdv ct)
theorem Jh {x qual:Str}{st:Stmt}{f:Addr}{oc:Value}{od an:Option Addr}{osl:Array (Option Value)}{kV doc pm cdv ct:Value} (l:K.lookup f=some ⟨oc,od,.func (fnOf x qual (zh st) (qX st) (qh st) .none kV doc pm an cdv ct),osl⟩)
   (c:codeIn K cdv qual=true) (k:keepIn K (.ref f)=true):Fun K x qual st f (fnOf x qual (zh st) (qX st) (qh st) .none kV doc pm an cdv ct):=⟨⟨oc,od,kV,doc,pm,an,cdv,ct,osl,rfl,l,c⟩,k⟩
end
theorem za {A:Around}{k:Nat} (hr:Room k A):A.units+1 < cLine:=Nat.lt_of_le_of_lt (Nat.add_le_add_left (by decide:1≤64) _) hr.units
theorem qD {n:Nat} (h:n≤1000):n < sizeLine:=Nat.lt_of_le_of_lt h (by decide)
section
variable {X:Cx}
theorem pv (i:Nat) {x:Str}{pos:Pos} (hN:X.N[i]?=some x:=by rfl) (hv:Vis X.env.scope x:=by first|exact Or.inl rfl|exact Or.inr (Or.inl rfl)|exact Or.inr (Or.inr rfl)) (hd:(x == ("__debug__":Str))=false:=by decide)
   (hcd:(x == ("__classdict__":Str))=false:=by decide):PE X (.Name x pos) (qeu i):=qdp hN hv hd hcd
end
theorem qeb {A B:Prop} (h:B):if false=true then A else B:=by
 rw[if_neg Bool.false_ne_true];exact h
theorem qch {A B:Prop} (h:A):if true=true then A else B:=by
 rw[if_pos rfl];exact h
def Same (H H':Hp):Prop:=∀ b o,H b=some o->H' b=some o
theorem Same.trans {H H1 H2:Hp} (a:Same H H1) (b:Same H1 H2):Same H H2:=fun c o h=>b c o (a c o h)
theorem Same.seq {K:Frag}{H H':Hp}{a:Addr}{xs:List V} (e:Same H H') (h:SqL K H a xs):SqL K H' a xs:=by
 rcases h with (h|⟨o,h⟩)|h
 · exact .inl (.inl (e _ _ h))
 · exact .inl (.inr ⟨o,e _ _ h⟩)
 · exact .inr h
section
variable {κ:Type} [DecidableEq κ]
theorem qaG {p:κ×V}{r:List (κ×V)}{k:κ} (e:p.1=k):Qu (p::r) k=Qu r k:=by
 unfold Qu;rw[List.filter_cons,if_neg (by simp[e])]
theorem qaH {p:κ×V}{r:List (κ×V)}{k:κ} (e:¬ p.1=k):Qu (p::r) k=p::Qu r k:=by
 unfold Qu;rw[List.filter_cons,if_pos (by simp[e])]
end
section
variable {X:Cx}{pins:List (Addr×Obj)}{σ:St}{H:Hp}{s:Shared}{h':Heap}
theorem Inv.turnLaid {ch:List Addr}{a:Addr}{o:HO}{t':Nat} (I:Inv X pins σ H s) (k:∀ b u,b∉ch->s.heap.get? b=some u->h'.get? b=some u) (hf:∀ b∈ch,JJ X pins H b)
   (hp:s.heap.objs.size≤a) (new:ObjOk X.prog X.w (upd H a o) h' a o):Inv X pins σ (upd H a o) { s with heap:=h',toks:=t' }:=by
 have hn:H a=none:=I.hok.fresh hp;refine I.step (g':=s.gens) (d':=s.drawn) (ch:=ch) (fun b hb=>?_) (fun b u _ _ hc e _=>k b u hc e) (fun b u _ _ hc e _=>⟨u.slots,k b u hc e⟩)
   (fun b u _ e n=>?_) (fun b u hc e=>⟨u,k b u hc e⟩) (fun b xs e=>?_) (fun b u v e=>?_) (fun b ps e=>?_) (fun m hm=>?_) (fun b u e=>?_) I.bare
 · obtain⟨_,f1,_,f3,f4,f5⟩:=hf b hb;exact⟨f3,f1,f4,f5⟩
 · rw[qf (Nat.ne_of_lt (Nat.lt_of_lt_of_le (Heap.lt_size e) hp))];exact n
 · rw[qf (qd e hn)];exact e
 · rw[qf (qd e hn)];exact e
 · exact⟨#[],by rw[qf (qd e hn),e];simp⟩
 · obtain⟨ob,es,ep,ho,r⟩:=hm;exact⟨ob,es,ep,k _ ob (fun z=>(hf _ z).2.1 rfl) ho,r⟩
 · by_cases hb:b=a
   · subst hb;rw[upd_same]at e;cases e;exact new
   · rw[qf hb]at e;refine(I.hok b u e).stay (fun c v hc q=>k c v ?_ q) (fun c q=>by rw[qf (qd q hn)];exact q) fun c xs q=>by rw[qf (qd q hn)];exact q
     intro z;have zz:=(hf c z).1;rcases hc with rfl|hc
     · rw[e]at zz;cases zz
     · rw[hc]at zz;cases zz
theorem Inv.turnL {ch:List Addr}{t':Nat} (I:Inv X pins σ H s) (k:∀ b u,b∉ch->s.heap.get? b=some u->h'.get? b=some u) (hf:∀ b∈ch,JJ X pins H b) :
   Inv X pins σ H { s with heap:=h',toks:=t' }:=by
 refine I.step (g':=s.gens) (d':=s.drawn) (ch:=ch) (fun b hb=>?_) (fun b u _ _ hc e _=>k b u hc e) (fun b u _ _ hc e _=>⟨u.slots,k b u hc e⟩)
   (fun b u _ e n=>n) (fun b u hc e=>⟨u,k b u hc e⟩) (fun b xs e=>e) (fun b u v e=>e) (fun b ps e=>⟨#[],by rw[e];simp⟩) (fun m hm=>?_) (fun b u e=>?_) I.bare
 · obtain⟨_,f1,_,f3,f4,f5⟩:=hf b hb;exact⟨f3,f1,f4,f5⟩
 · obtain⟨ob,es,ep,ho,r⟩:=hm;exact⟨ob,es,ep,k _ ob (fun z=>(hf _ z).2.1 rfl) ho,r⟩
 · refine(I.hok b u e).stay (fun c v hc q=>k c v ?_ q) (fun c q=>q) fun c xs q=>q;intro z;have zz:=(hf c z).1;rcases hc with rfl|hc
   · rw[e]at zz;cases zz
   · rw[hc]at zz;cases zz
end
def Ite (K:Frag) (a:Addr):It :=
 ⟨fun i H=>∃ xs x,SqL K H a xs∧xs[i]?=some x,
  fun i H x H'=>∃ p v,H p=none∧x=.ref p∧(∀ xs,SqL K H a xs->xs[i]?=some v)∧H'=upd H p (.tup [.int i,v]),
  fun i H=>∃ xs,SqL K H a xs∧xs.length≤i⟩
theorem JS {P:Program}{w:World}{K:Frag}{elts:List Expr}{k:Nat}{pos:Pos} (a e it:Addr) (hne:e≠it) :
   qdL P w K (.Tuple elts k pos) (Ite K a) [e,it] e (fun i h=>(∃ old,IsEnum h e it i old)∧h.IsListIter it a i) where
 mem:=by simp
 obj:=fun i h st b hb=>by
   obtain⟨⟨old,he⟩,hit⟩:=st;rcases List.mem_cons.mp hb with rfl|hb
   · exact⟨_,he,fun v z=>by cases z⟩
   · have e1:b=it:=by simpa using hb
     subst e1;obtain⟨o,q,c,d⟩:=hit;exact⟨o,q,fun v z=>by rw[d]at z;cases z⟩
 keep:=fun i h h' st kk=>by
   obtain⟨⟨old,he⟩,hit⟩:=st;exact⟨⟨old,kk e (by simp) _ he⟩,hit.at fun o q=>kk it (by simp) o q⟩
 item:=by
   intro X hP hw hK hc i pins s σ H E I hf st hg;subst hP hw hK;obtain⟨xs,x,hq,hx⟩:=hg;obtain⟨its,rv,p,hz⟩:=I.list hq;obtain⟨u,hu,ru⟩:=rv.get hx;obtain⟨⟨old,he⟩,hit⟩:=st;refine wpAny_pyNext_enum_item he hit p.isList (x:=u) (by simpa using hu) hne fun h1 ho hit1 hT hsz hk=>?_;refine⟨_,rfl,wpAny_letOwnedTupleGo_enum (s:={ s with heap:=h1,toks:=s.toks+1 }) ho fun h2 he2 hs2=>?_⟩;have hel:e < s.heap.objs.size:=Heap.lt_size he;have hil:it < s.heap.objs.size:=by obtain⟨_,q,_⟩:=hit;exact Heap.lt_size q
   have hT2:h2.get? s.heap.objs.size=some { cls:=.type "tuple",data:=.seq #[.int i s.toks,u] }:=(hs2.2 _ (Nat.ne_of_gt hel)).trans hT
   have I1:Inv X pins σ (upd H s.heap.objs.size (.tup [.int i,x])) { s with heap:=h2,toks:=s.toks+1 }:=by
     refine I.turnLaid (ch:=[e,it]) (fun b o hb q=>?_) hf (Nat.le_refl _) ⟨by show 2≤sizeLine;decide,[.int i s.toks,u],.cons ⟨_,rfl⟩ (.cons ru .nil),⟨_,hT2,rfl,_,rfl⟩⟩;have b1:b≠e:=fun z=>hb (by simp[z]);have b2:b≠it:=fun z=>hb (by simp[z]);exact(hs2.2 b b1).trans (hk b o b1 b2 q)
   refine⟨.ref s.heap.objs.size,_,I1,rfl,⟨_,x,I.hok.fresh (Nat.le_refl _),rfl,fun ys hy=>by rw[I.list_inj hy hq];exact hx,rfl⟩,⟨⟨_,by simpa using he2⟩,hit1.at fun o q=>(hs2.2 it hne.symm).trans q⟩,fun b hb=>?_⟩
   have hbl:b < s.heap.objs.size:=by
     rcases List.mem_cons.mp hb with rfl|hb
     · exact hel
     · have e1:b=it:=by simpa using hb
       rw[e1];exact hil
   rw[qf (Nat.ne_of_lt hbl)];exact(hf b hb).1
 done:=by
   intro X hP hw hK hc i pins s σ H E I hf st hg;subst hP hw hK;obtain⟨xs,hq,hx⟩:=hg;obtain⟨its,rv,p,hz⟩:=I.list hq;obtain⟨⟨old,he⟩,hit⟩:=st;have hl:=rv.length;refine wpAny_pyNext_enum_end (I.ok.hd hc) he hit p.isList (by simp;omega) fun h' eb=>⟨rfl,I.turnL (t':=s.toks) (ch:=[e,it]) (fun b o hb q=>eb b o (fun z=>hb (by simp[z])) q) hf⟩
 self:=fun _ _ _ _ _ st h=>by
   obtain⟨⟨old,he⟩,_⟩:=st;exact wpAny_pyIter_enum he h
theorem qaQ:bootBuiltins "enumerate"=some (.type "enumerate"):=by decide +kernel
inductive qaC (K:Frag) (R:(It->Hp->Prop)) (vs:List V) (H1:Hp):Prop
 | mk (a:_) (h1:vs=[.ref a]) (h2:(∃ xs,SqL K H1 a xs)) (h3:R (Ite K a) H1):qaC K R vs H1
def qee (K:Frag) (ta:TA):TI:=fun σ H R=>ta σ H fun vs H1=>qaC K R vs H1
section
variable {X:Cx}
theorem qad {a:Expr}{ta:TA}{p pos tp:Pos}{elts:List Expr}{kk:Nat} (hg:Gl X "enumerate") (hm:X.mg "enumerate"=none) (ha:PA X [a] ta) (hs:starEach [a] X.env=[(false,eval a X.env)]:=by rfl) :
   PI X (.Tuple elts kk tp) (.Call (.Name "enumerate" p) [a] [] pos) (qee X.K ta):=by
 intro pins s σ H R I h;refine Call_ (QO I hg hm qaQ (PyProof.Rows.callWith_type1 (thn (ha pos pins s σ H _ I h) fun us s1 zz_=>?_) hs rfl));obtain⟨vs,H1,I1,r1,q1⟩:=zz_;obtain⟨l,e,⟨xs,hq⟩,q⟩:=q1;subst e;obtain⟨u,rfl,ru⟩:=QX r1;cases ru;obtain⟨its,rv,pl,hz⟩:=I1.list hq;refine call_enumerate_list pl.isList fun h' he hit hsz hk=>?_;have I2:Inv X pins σ H1 { s1 with heap:=h' }:=I1.kept (t':=s1.toks) hk;refine wpAny_pyIter_enum he ⟨s1.heap.objs.size+1,[s1.heap.objs.size+1,s1.heap.objs.size],_,Ite X.K l,H1,rfl,I2,JS l _ _ (Nat.succ_ne_self _),⟨⟨_,he⟩,hit⟩,fun b hb=>?_,q⟩
 have hb1:s1.heap.objs.size≤b:=by
   rcases List.mem_cons.mp hb with e1|hb
   · rw[e1];exact Nat.le_succ _
   · have e1:b=s1.heap.objs.size:=by simpa using hb
     rw[e1];exact Nat.le_refl _
 exact I1.fpOk hb1 (I1.hok.fresh hb1)
end
theorem Ji {K:Frag}{a:Addr}{xs:List V}{g:TG}{tb:TS}{D:qa1}{σ:St}{H:Hp} (Pv:Nat->St->Hp->Prop) (h0:Pv 0 σ H) (hl:∀ i σ H,i≤xs.length->Pv i σ H->SqL K H a xs)
   (hs:∀ i x σ H p,xs[i]?=some x->Pv i σ H->H p=none->g (.ref p) σ (upd H p (.tup [.int i,x])) fun σ2 H2=>tb { D with nx:=Pv (i+1),ct:=Pv (i+1),bk:=D.nx } σ2 H2) (hd:∀ σ H,Pv xs.length σ H->D.nx σ H) :
   ∃ W:Nat->Nat->St->Hp->Prop,(∃ m,W 0 m σ H)∧∀ i m σ H,W i m σ H ->
     ((Ite K a).stop i H∧D.nx σ H)∨((Ite K a).go i H∧∃ N:St->Hp->Prop,(∀ σ' H',N σ' H'->∃ m',m' < m∧W (i+1) m' σ' H')∧∀ x H',(Ite K a).yld i H x H'->g x σ H' fun σ2 H2=>tb { D with nx:=N,ct:=N,bk:=D.nx } σ2 H2):=by
 refine⟨fun i m σ H=>m=xs.length - i∧i≤xs.length∧Pv i σ H,⟨xs.length,by simp,Nat.zero_le _,h0⟩,?_⟩;rintro i m σ H ⟨rfl,hi,p⟩;have q:=hl i σ H hi p;by_cases hlt:i < xs.length
 · refine .inr ⟨⟨xs,xs[i],q,by simp[hlt]⟩,Pv (i+1),fun σ' H' p'=>⟨xs.length - (i+1),by omega,rfl,hlt,p'⟩,fun x H' y=>?_⟩;obtain⟨t,v,hn,rfl,y,rfl⟩:=y;exact hs i v σ _ t (y xs q) p hn
 · have e:i=xs.length:=by omega
   subst e;exact .inl ⟨⟨xs,q,Nat.le_refl _⟩,hd σ H p⟩
def tyN (H:Hp):V->Option String
 | .non=>some "NoneType"
 | .bl _=>some "bool"
 | .int _=>some "int"
 | .str _=>some "str"
 | .ref a=>match H a with
   | some (.lst _)=>some "list"
   | some (.tup _)=>some "tuple"
   | some (.dK _)=>some "dict"
   | _=>none
 | _=>none
def qdU (c t:String):Bool:=t == c || (t == "bool" && c == "int")
theorem qa5 {K:Frag}{H:Hp}{v:V}{t:String} (h:tyN H v=some t):JH K H v (.type t):=by
 cases v with
 | non=>cases h;exact .non
 | bl b=>cases h;exact .bl b
 | int b=>cases h;exact .int b
 | str b=>cases h;exact .str b
 | byt b=>cases h
 | flt b=>cases h
 | ty b=>cases h
 | ref a =>
   simp only[tyN]at h;split at h
   · rename_i e;cases h;exact .lst e
   · rename_i e;cases h;exact .tup e
   · rename_i e;cases h;exact .dK e
   · cases h
def ZQ:List String:=["NoneType","bool","int","str","list","tuple","dict"]
theorem JQ {H:Hp}{v:V}{t:String} (h:tyN H v=some t):t∈ZQ:=by
 cases v with
 | non=>cases h;decide
 | bl b=>cases h;decide
 | int b=>cases h;decide
 | str b=>cases h;decide
 | byt b=>cases h
 | flt b=>cases h
 | ty b=>cases h
 | ref a =>
   simp only[tyN]at h;split at h<;>first|(cases h;decide)|cases h
def Qr:List String:=["bool","int","str","list","tuple","dict"]
theorem qci (K:Frag) {t c:String} (ht:t∈ZQ) (hc:c∈Qr):kitOne K (.type t) (.type c)=some (qdU c t):=by
 simp only[ZQ,Qr,List.mem_cons,List.not_mem_nil,or_false]at ht hc;rcases ht with rfl|rfl|rfl|rfl|rfl|rfl|rfl<;>rcases hc with rfl|rfl|rfl|rfl|rfl|rfl<;>(unfold kitOne PySem.W.kitCls;rfl)
inductive qb5 (xs:List V) (H:Hp) (Q:VK):Prop
 | mk (x c t:_) (h1:xs=[x,.ty c]) (h2:c∈Qr) (h3:tyN H x=some t) (h4:Q (.bl (qdU c t)) H):qb5 xs H Q
def qe0:List V->Hp->VK->Prop:=fun xs H Q=>qb5 xs H Q
section
variable {X:Cx}
theorem qP:QD X (.builtin "isinstance") qe0:=by
 intro pins s σ H xs us Q I r h;obtain⟨x,c,t,rfl,hc,ht,q⟩:=h;obtain⟨u,w',rfl,ru,rw'⟩:=JP r;cases (show w'=Value.type c from rw');exact qay I ru (qa5 ht) (qci X.K (JQ ht) hc) fun tk=>⟨.bl _,H,I.tok tk,rfl,q⟩
end
mutual
inductive DV (H:Hp):V->PyData->Prop
 | non:DV H .non .none
 | bl (b):DV H (.bl b) (.bool b)
 | int (i):DV H (.int i) (.int i)
 | str (x):DV H (.str x) (.str x)
 | lst {a xs ds}:Rd H a (.lst xs)->DVs H xs ds->DV H (.ref a) (.list ds)
 | tup {a xs ds}:Rd H a (.tup xs)->DVs H xs ds->DV H (.ref a) (.tuple ds)
inductive DVs (H:Hp):List V->List PyData->Prop
 | nil:DVs H [] []
 | cons {x xs d ds}:DV H x d->DVs H xs ds->DVs H (x::xs) (d::ds)
end
section
variable {P:Program}{w:World}{H:Hp}{h:Heap}
mutual
theorem DV.reads (ok:HOk P w H h):∀ {v:V}{d:PyData}{u:Value},DV H v d->RelV v u->∃ as,Reads h u d as
 | _,_,u,.non,r=>by cases (show u=Value.none from r);exact⟨_,.none⟩
 | _,_,u,.bl b,r=>by cases (show u=Value.bool b from r);exact⟨_,.bool b⟩
 | _,_,u,.int i,r=>by obtain⟨t,q⟩:=(show ∃ t,u=Value.int i t from r);cases q;exact⟨_,.int i t⟩
 | _,_,u,.str x,r=>by obtain⟨t,q⟩:=(show ∃ t,u=Value.str x t from r);cases q;exact⟨_,.str x t⟩
 | _,_,u,.lst (a:=a) rd q,r=>by
   cases (show u=Value.ref a from r);obtain⟨_,its,n,rv,e⟩:=rd.ok ok;obtain⟨as,z⟩:=DVs.reads ok q rv;exact⟨_,.list e rfl rfl z⟩
 | _,_,u,.tup (a:=a) rd q,r=>by
   cases (show u=Value.ref a from r);obtain⟨_,its,rv,ob,e,c,n,d⟩:=rd.ok ok;obtain⟨as,z⟩:=DVs.reads ok q rv;exact⟨_,.tuple e c d z⟩
theorem DVs.reads (ok:HOk P w H h):∀ {vs:List V}{ds:List PyData}{us:List Value},DVs H vs ds->Vals vs us->∃ as,ReadsAll h us ds as
 | _,_,_,.nil,.nil=>⟨_,.nil⟩
 | _,_,_,.cons a b,.cons r t=>by
   obtain⟨as,z⟩:=DV.reads ok a r;obtain⟨bs,y⟩:=DVs.reads ok b t;exact⟨_,.cons z y⟩
end
end
section
variable {X:Cx}
inductive qb6 (x:V) (y:V) (H:Hp) (Q:VK):Prop
 | mk (d e:_) (h1:DV H x d) (h2:DV H y e) (h3:SeqAt.shaped d=true) (h4:SeqAt.shaped e=true) (h5:Q (.bl (PyData.eqv d e)) H):qb6 x y H Q
def qeF:R2:=fun x y H Q=>qb6 x y H Q
inductive qb0 (x:V) (y:V) (H:Hp) (Q:VK):Prop
 | mk (d e:_) (h1:DV H x d) (h2:DV H y e) (h3:SeqAt.shaped d=true) (h4:SeqAt.shaped e=true) (h5:Q (.bl (!PyData.eqv d e)) H):qb0 x y H Q
def qeA:R2:=fun x y H Q=>qb0 x y H Q
theorem qdt (hu:X.A.units+64 < cLine):OpR X (compareOp .Eq) qeF:=by
 intro pins s σ H x y v u Q I rx ry h;obtain⟨d,e,hd,he,sd,se,q⟩:=h;obtain⟨as,ra⟩:=hd.reads I.hok rx;obtain⟨bs,rb⟩:=he.reads I.hok ry;exact eq_dataH ra rb sd se hu ⟨.bl _,H,I,rfl,q⟩
theorem qds (hu:X.A.units+64 < cLine):OpR X (compareOp .NotEq) qeA:=by
 intro pins s σ H x y v u Q I rx ry h;obtain⟨d,e,hd,he,sd,se,q⟩:=h;obtain⟨as,ra⟩:=hd.reads I.hok rx;obtain⟨bs,rb⟩:=he.reads I.hok ry;exact ne_dataH ra rb sd se hu ⟨.bl _,H,I,rfl,q⟩
def qd7:R2:=fun x y H Q=>rI0 (fun i j=>.int (i+j)) x y H Q∨qeG x y H Q∨∃ i j,x=.str i∧y=.str j∧i.length+j.length≤sizeLine∧Q (.str (i++j)) H
theorem QY:OpR X (binaryOp .Add) qd7:=op_add.or (op_cat.or Jq)
def qe1:R2:=fun x y H Q=>rEq x y H Q∨qeF x y H Q
def qez:R2:=fun x y H Q=>rNe x y H Q∨qeA x y H Q
theorem uEq (hU:X.A.units+64 < cLine):OpR X (compareOp .Eq) qe1:=op_eq.or (qdt hU)
theorem uNe (hU:X.A.units+64 < cLine):OpR X (compareOp .NotEq) qez:=op_ne.or (qds hU)
end
theorem zp:bootBuiltins "tuple"=some (.type "tuple"):=by decide +kernel
theorem qB:bootBuiltins "list"=some (.type "list"):=by decide +kernel
theorem Zn:bootBuiltins "int"=some (.type "int"):=by decide +kernel
theorem QB:bootBuiltins "bool"=some (.type "bool"):=by decide +kernel
theorem jt:bootBuiltins "str"=some (.type "str"):=by decide +kernel
theorem JF:bootBuiltins "dict"=some (.type "dict"):=by decide +kernel
theorem qF:bootBuiltins "len"=some (.builtin "len"):=by decide +kernel
theorem Zm:bootBuiltins "max"=some (.builtin "max"):=by decide +kernel
theorem ju:bootBuiltins "min"=some (.builtin "min"):=by decide +kernel
theorem qaS:bootBuiltins "abs"=some (.builtin "abs"):=by decide +kernel
theorem qj:bootBuiltins "isinstance"=some (.builtin "isinstance"):=by decide +kernel
structure Df (K:Frag) (mg:Str->Option Value) (x:Str) (st:Stmt) (ps:List Str) (f:Addr) (fd:FuncData):Prop where
 F:Fun K x x st f fd
 b:Binds K fd ps []
 m:mg x=some (.ref f)
 k:keepIn K (.ref f)=true
theorem ZP {H:Hp}{p q:Addr}{o:HO} (h:upd H p o q=none):q≠p∧H q=none:=by
 by_cases e:q=p
 · subst e;rw[upd_same]at h;cases h
 · rw[qf e]at h;exact⟨e,h⟩
theorem Same.new {H:Hp}{p:Addr} (o:HO) (h:H p=none):Same H (upd H p o):=fun b u e=>by rw[qf (qd e h)];exact e
theorem Same.then {H H1:Hp} (s:Same H H1) {p:Addr} (o:HO) (h:H1 p=none):Same H (upd H1 p o):=s.trans (Same.new o h)
def But (p:Addr) (H H':Hp):Prop:=∀ b o,H b=some o->b≠p->H' b=some o
theorem But.refl (p:Addr) (H:Hp):But p H H:=fun _ _ h _=>h
theorem But.trans {p:Addr}{H H1 H2:Hp} (a:But p H H1) (b:But p H1 H2):But p H H2:=fun c o h n=>b c o (a c o h n) n
theorem But.new {p:Addr}{H H1:Hp} (s:But p H H1) {q:Addr} (o:HO) (h:H1 q=none):But p H (upd H1 q o):=fun b u e n=>by
 have z:=s b u e n;rw[qf (qd z h)];exact z
theorem But.put {p:Addr}{H H1:Hp} (s:But p H H1) (o:HO):But p H (upd H1 p o):=fun b u e n=>by rw[qf n];exact s b u e n
theorem qx {n:Nat} (h:n≤1000):n≤sizeLine:=Nat.le_of_lt (qD h)
theorem Qq {b:Bool}{A B:Prop} (e:b=false) (h:B):if b=true then A else B:=by rw[e];exact qeb h
theorem qcO {b:Bool}{A B:Prop} (e:b=true) (h:A):if b=true then A else B:=by rw[e];exact qch h
theorem zM {c A B:Prop} [Decidable c] (h1:c->A) (h2:¬ c->B):if (decide c)=true then A else B:=by
 by_cases h:c
 · rw[decide_eq_true h];exact qch (h1 h)
 · rw[decide_eq_false h];exact qeb (h2 h)
theorem jS {c A B:Prop} [Decidable c] (h1:¬ c->A) (h2:c->B):if (!decide c)=true then A else B:=by
 by_cases h:c
 · rw[decide_eq_true h];exact qeb (h2 h)
 · rw[decide_eq_false h];exact qch (h1 h)
section
variable {prog:Program}{w:World}{A:Around}{R:Result->Shared->Prop}{s:Shared}
abbrev noE:Value->Shared->Prop:=fun _ _=>False
theorem Zk {elt target iter:Expr}{ifs:List Expr}{scope:Scope}{pos:Pos}{it acc:Value}{env:Env} (I:Nat->Shared->Prop)
   (turn:∀ n s,I n s->wpAny (model prog w) A (pyNext it) (fun r s₁=>match r with
     | none=>R (.ok .next) s₁
     | some v=>wpAny (model prog w) A (letOwnedTupleGo target it v) (fun _ s₀=>wpAny (model prog w) A (assign target env v) (fun _ s₂ =>
         wpAny (model prog w) A (forIn ifs true fun c r=>if r=true then do let ok ← isTrue c env (eval c env);pure (ForInStep.yield ok) else pure (ForInStep.yield r)) (fun ok s₃ =>
           if ok=true then wpAny (model prog w) A (eval elt env) (fun x s₄ =>
             wpAny (model prog w) A (call (.builtin "list.append") [acc,x]) (fun _ s₅=>∃ m,m < n∧I m s₅) noE s₄) noE s₃
           else ∃ m,m < n∧I m s₃) noE s₂) noE s₀) noE s₁) noE s)
   (n:Nat) (h:I n s) :
   codeAny (model prog w) A (.compLoop (.ListComp elt [⟨target,iter,ifs,0⟩] scope pos) 0 it acc env) R s:=by
 refine codeAny_loop rfl I (fun n s hI=>?_) n h;show wpAny _ A ((compTurn (.ListComp elt [⟨target,iter,ifs,0⟩] scope pos) 0 it acc env).onRaise (fun x=>do noteFrame x env;theTreesLotGoes x)) _ _ s;refine wpAny_noted ?_;rw[compTurn_list];refine wpAny_bind (wpAny_standAt (wpAny_bind (wpAny_mono (turn n s hI) (fun r s₁ h₁=>?_) fun _ _ h'=>h'.elim)))
 cases r with
 | none=>exact wpAny_pure h₁
 | some v =>
   refine wpAny_bind (wpAny_mono h₁ (fun _ s₀ h₀=>?_) fun _ _ h'=>h'.elim);refine wpAny_bind (wpAny_mono h₀ (fun _ s₂ h₂=>wpAny_bind (wpAny_mono h₂ (fun ok s₃ h₃=>?_) fun _ _ h'=>h'.elim)) fun _ _ h'=>h'.elim)
   cases ok with
   | false=>exact wpAny_pure ⟨rfl,h₃⟩
   | true =>
     exact wpAny_bind (wpAny_bind (wpAny_mono h₃ (fun x s₄ h₄=>wpAny_bind (wpAny_mono h₄ (fun _ s₅ h₅=>wpAny_pure (wpAny_pure ⟨rfl,h₅⟩)) fun _ _ h'=>h'.elim)) fun _ _ h'=>h'.elim))
end
def qM (X:Cx) (scope:Scope) (N:List Str) (cl:List (Str×Addr)) (C:Addr) (s₀:Shared) (H₀:Hp) (ex:List Addr) (pn:List (Addr×Obj)):Cx where
 prog:=X.prog
 w:=X.w
 K:=X.K
 mg:=X.mg
 base:=X.base
 A:=X.A
 N:=N
 s₀:=s₀
 H₀:=H₀
 env:=compEnvC scope cl C X.env
 outer:=X.stack
 stack:=X.stack
 ex:=ex
 fn:=fun x=>!(cl.lookup x).isSome
 calm:=X.calm
 pn:=pn
 xe:=noE
def st0 (js:List (Option Nat)) (σ:St):St:=js.map fun o=>o.bind fun j=>(σ[j]?).join
def PTs (X:Cx) (ifs:List Expr) (t:TT):Prop :=
 ∀ (pins:List (Addr×Obj)) (s:Shared) (σ:St) (H:Hp) (Q:Bool->Hp->Prop),Inv X pins σ H s->t σ H Q ->
   wpAny (model X.prog X.w) X.A (forIn ifs true fun c r=>if r=true then do let ok ← isTrue c X.env (eval c X.env);pure (ForInStep.yield ok) else pure (ForInStep.yield r)) (TP X pins σ Q) X.xe s
def qeP:TT:=fun _ H Q=>Q true H
theorem zn {X:Cx}:PTs X [] qeP:=fun _ _ _ H _ I h=>wpAny_tests_nil ⟨H,I,h⟩
def QW (J:It) (g:TG) (tt:TT) (te:TE) (D:Addr) (Q:VK) (σ0:St) (H0:Hp):Prop :=
 ∃ W:Nat->Nat->St->Hp->Prop,(∃ m,W 0 m σ0 H0)∧∀ i m σ' H',W i m σ' H' ->
   (J.stop i H'∧Q (.ref D) H')∨(J.go i H'∧∃ N:St->Hp->Prop,(∀ σ2 H2,N σ2 H2->∃ m',m' < m∧W (i+1) m' σ2 H2) ∧
     ∀ x H2,J.yld i H' x H2->g x σ' H2 fun σ3 H3=>tt σ3 H3 fun ok H4=>if ok=true then te σ3 H4 fun y H5=>∃ ys,H5 D=some (.lst ys)∧ys.length < sizeLine∧N σ3 (upd H5 D (.lst (ys++[y]))) else N σ3 H4)
def qdc (wi:TI) (g:TG) (tt:TT) (te:TE) (js:List (Option Nat)):TE:=fun σ H Q=>wi σ H fun J H1=>∀ D,H1 D=none->QW J g tt te D Q (st0 js σ) (upd H1 D (.lst []))
structure CompOk (X:Cx) (scope:Scope) (N:List Str) (cl:List (Str×Addr)) (js:List (Option Nat)):Prop where
 clos:closureFor scope X.env=pure cl
 sub:∀ x c,cl.lookup x=some c->X.env.cells.lookup x=some c
 all:∀ x,((relabel scope X.env).names.lookup x=some .cell∨(relabel scope X.env).names.lookup x=some .free)->∃ c,cl.lookup x=some c
 cell:∀ y∈scope.names,y.2≠.cell
 kind:scope.kind=.function
 names:∀ y∈scope.names,y.2=.local->scope.names.lookup y.1=some .local
 len:js.length=N.length
 fr:∀ (i j:Nat) (x:Str),js[i]?=some (some j)->N[i]?=some x->X.N[j]?=some x∧X.env.kindOf x=some .cell∧((relabel scope X.env).names.lookup x=some .cell∨(relabel scope X.env).names.lookup x=some .free)
section
variable {X:Cx}
theorem qcv {js:List (Option Nat)}{σ:St}{i:Nat}{v:V} (h:(st0 js σ)[i]?=some (some v)):∃ j,js[i]?=some (some j)∧σ[j]?=some (some v):=by
 unfold st0 at h;rw[List.getElem?_map]at h
 cases e:js[i]? with
 | none=>rw[e]at h;cases h
 | some o =>
   rw[e]at h
   cases o with
   | none=>cases h
   | some j =>
     refine⟨j,rfl,?_⟩;have h':(σ[j]?).join=some v:=by simpa using h
     cases e2:σ[j]? with
     | none=>rw[e2]at h';cases h'
     | some o2=>rw[e2]at h';cases o2 with
       | none=>cases h'
       | some u=>rw[show u=v by simpa using h']
theorem qcW {pins:List (Addr×Obj)}{σ:St}{H:Hp}{s:Shared}{scope:Scope}{N:List Str}{cl:List (Str×Addr)}{js:List (Option Nat)}{C:Addr}{fp:List Addr} (k:CompOk X scope N cl js) (I:Inv X pins σ H s)
   (hf:∀ b∈fp,JJ X pins H b) (hfl:∀ b∈fp,b < s.heap.objs.size) (hC:s.heap.objs.size≤C):(qM X scope N cl C s H fp (X.pn++pins)).Ok where
 mod:=I.ok.mod
 kind:=k.kind
 glob:=I.ok.glob
 blt:=I.ok.blt
 above:=hC
 inj:=fun x y c h1 h2=>I.ok.inj x y c (k.sub _ _ h1) (k.sub _ _ h2)
 has:=fun x h=>k.all x h
 cab:=fun x c h1 h2=>by
   have h1':(!(cl.lookup x).isSome)=true:=h1;have h2':cl.lookup x=some c:=h2;rw[h2']at h1';cases h1'
 hd:=I.ok.hd
 frames:=I.ok.frames
 stk:=.inl rfl
 exf:=fun b hb=>⟨Nat.ne_of_lt (Nat.lt_of_lt_of_le (hfl b hb) hC),fun x c h=>(hf b hb).2.2.2.2.1 x c (k.sub _ _ h)⟩
 bs:=I.bs
 bsz:=Nat.le_trans I.ok.bsz I.sz
 noex:=fun b o e hb=>by
   rcases (hf b hb).2.2.2.1 with z|z
   · exact I.ok.noex b o e z
   · exact absurd (Nat.lt_of_lt_of_le (Heap.lt_size e) (Nat.le_trans I.ok.bsz z)) (Nat.lt_irrefl _)
 exfs:=fun b hb z=>by
   rcases List.mem_cons.mp (I.stkSub b z) with e|e
   · exact(hf b hb).2.1 e
   · exact(hf b hb).2.2.1 e
 funs:=I.stack
 frf:=I.stkFree
theorem Jk {pins:List (Addr×Obj)}{σ:St}{H:Hp}{s:Shared}{h1:Heap}{t':Nat}{scope:Scope}{N:List Str}{cl:List (Str×Addr)}{js:List (Option Nat)}{C D:Addr}{fp:List Addr}{m:Str->Option Value} (k:CompOk X scope N cl js) (I:Inv X pins σ H s)
   (hf:∀ b∈fp,JJ X pins H b) (hfl:∀ b∈fp,b < s.heap.objs.size) (hD:s.heap.objs.size≤D) (hC:s.heap.objs.size≤C) (hDC:D≠C)
   (hn:h1.Ns C m) (hl:h1.get? D=some { cls:=.type "list",data:=.seq ([]:List Value).toArray }) (hk:∀ b o,s.heap.get? b=some o->h1.get? b=some o) :
   Inv (qM X scope N cl C s H fp (X.pn++pins)) [] (st0 js σ) (upd H D (.lst [])) { s with heap:=h1,toks:=t' }:=by
 have fD:H D=none:=I.hok.fresh hD;have fC:H C=none:=I.hok.fresh hC;have nC:∀ b,b < s.heap.objs.size->b≠C:=fun b hb=>Nat.ne_of_lt (Nat.lt_of_lt_of_le hb hC);refine⟨qcW k I hf hfl hC,rfl,I.bare,?_,?_,?_,?_,?_,?_,?_,?_⟩
 · exact(Un.laid (fs:=frs X.stack) (ex:=fp) (o:=.lst []) hk hD fD)
 · refine⟨m,hn,fun i x v e1 e2 e3=>?_⟩;obtain⟨j,f1,f2⟩:=qcv e2;obtain⟨g1,g2,g3⟩:=k.fr i j x f1 e1;obtain⟨m',hn',hl'⟩:=I.loc;obtain⟨u,ru,lk⟩:=hl' j x v g1 f2 (.inr (.inl g2));refine⟨u,ru,.inr ⟨g3,?_⟩⟩;obtain⟨c,hc⟩:=k.all x g3;rcases lk with ⟨z,_⟩|⟨_,c',hc',ic⟩
   · rw[g2]at z;cases z
   · have e:=k.sub _ _ hc;rw[hc']at e;cases e;obtain⟨o,ho,hd⟩:=ic;exact⟨c,hc,o,hk _ _ ho,hd⟩
 · intro x c h;obtain⟨v,o,ho,hd⟩:=I.cell x c (k.sub _ _ h);exact⟨v,o,hk _ _ ho,hd⟩
 · show (upd H D (.lst [])) C=none;rw[qf hDC.symm];exact fC
 · intro x c h;obtain⟨v,o,ho,hd⟩:=I.cell x c (k.sub _ _ h);rw[qf (Nat.ne_of_lt (Nat.lt_of_lt_of_le (Heap.lt_size ho) hD))];exact I.freeC x c (k.sub _ _ h)
 · intro p hp;have hp':p∈X.pn++pins:=by simpa[qM] using hp
   obtain⟨e,n,ne,nf,d⟩:=I.pin p hp';have lt:=Heap.lt_size e;refine⟨hk _ _ e,by rw[qf (Nat.ne_of_lt (Nat.lt_of_lt_of_le lt hD))];exact n,nC _ lt,fun z=>?_,d⟩;rcases List.mem_cons.mp (I.stkSub _ z) with e|e
   · exact ne e
   · exact nf e
 · exact I.hok.laid hk hD ⟨Nat.zero_le _,[],0,.nil,hl⟩
 · show (st0 js σ).length=N.length;unfold st0;rw[List.length_map];exact k.len
theorem Zc {elt iter tg:Expr}{ifs:List Expr}{scope:Scope}{pos:Pos}{wi:TI}{g:TG}{tt:TT}{te:TE}{N:List Str}{cl:List (Str×Addr)}{js:List (Option Nat)} (hc:X.calm=true) (k:CompOk X scope N cl js) (hi:PI X tg iter wi)
   (hg:∀ C s₀ H₀ ex pn,PG (qM X scope N cl C s₀ H₀ ex pn) tg g) (ht:∀ C s₀ H₀ ex pn,PTs (qM X scope N cl C s₀ H₀ ex pn) ifs tt) (he:∀ C s₀ H₀ ex pn,PE (qM X scope N cl C s₀ H₀ ex pn) elt te)
   (hs:∀ x,foldedSetIterable iter X.env x=pure x:=by intro _;rfl) :
   PE X (.ListComp elt [⟨tg,iter,ifs,0⟩] scope pos) (qdc wi g tt te js):=by
 intro pins s σ H Q I h;rw[eval_ListComp];refine wpAny_comprehension_free (use:=none) rfl hs k.clos k.kind k.names ?_;refine thn (hi pins s σ H _ I h) fun v s1 h1=>thn h1 fun itv s2 h2=>?_;obtain⟨it,fp,tn,J,H2,e,I2,T,st2,f2,hD⟩:=h2;subst e;refine wpAny_newObj_type (wpAny_newFunctionEnv k.cell (by intro y hy;simp at hy) (fun h₁ hns₁ hsb₁=>?_) k.kind);dsimp only at hns₁ hsb₁ ⊢;generalize hH2:s2.heap.push { cls:=.type "list",dict:=none,data:=.seq ([]:List Value).toArray }=P2 at hns₁ hsb₁ ⊢;have hC:P2.objs.size=s2.heap.objs.size+1:=by rw[← hH2,Heap.size_push]
 have hDC:s2.heap.objs.size≠P2.objs.size:=by rw[hC];exact Nat.ne_of_lt (Nat.lt_succ_self _)
 have hCle:s2.heap.objs.size≤P2.objs.size:=by rw[hC];exact Nat.le_succ _
 have old:∀ b o,s2.heap.get? b=some o->h₁.get? b=some o:=fun b o e=>hsb₁.extBut b o (Nat.ne_of_lt (Nat.lt_of_lt_of_le (Heap.lt_size e) hCle)) (Heap.get?_push_of_some _ (hH2▸Heap.get?_push_of_some _ e));have hacc:h₁.get? s2.heap.objs.size=some { cls:=.type "list",data:=.seq ([]:List Value).toArray }:=hsb₁.extBut _ _ hDC (Heap.get?_push_of_some _ (hH2▸Heap.get?_push_size _ rfl))
 have hfl:∀ b∈fp,b < s2.heap.objs.size:=fun b hb=>by
   obtain⟨o,e,_⟩:=T.obj _ _ st2 b hb;exact Heap.lt_size e
 have fD:H2 s2.heap.objs.size=none:=I2.hok.fresh (Nat.le_refl _);obtain⟨W,⟨m0,w0⟩,turn⟩:=hD _ fD
 have IX:Inv (qM X scope N cl P2.objs.size s2 H2 fp (X.pn++pins)) [] (st0 js σ) (upd H2 s2.heap.objs.size (.lst [])) { s2 with heap:=h₁,toks:=s2.toks+([]:List (Str×Value)).length } :=
   Jk k I2 f2 hfl (Nat.le_refl _) hCle hDC hns₁ hacc old
 have hg':=hg P2.objs.size s2 H2 fp (X.pn++pins);have ht':=ht P2.objs.size s2 H2 fp (X.pn++pins);have he':=he P2.objs.size s2 H2 fp (X.pn++pins)
 have stat:∀ {H':Hp},(∀ b∈fp,H' b=none)->∀ b∈fp,JJ (qM X scope N cl P2.objs.size s2 H2 fp (X.pn++pins)) [] H' b:=fun hn b hb=>by
   obtain⟨g0,g1,g2,g3,g4,g5⟩:=f2 b hb;refine⟨hn b hb,Nat.ne_of_lt (Nat.lt_of_lt_of_le (hfl b hb) hCle),fun z=>?_,.inl hb,fun x c h=>g4 x c (k.sub _ _ h),fun p hp=>g5 p (by simpa[qM] using hp)⟩;rcases List.mem_cons.mp (I2.stkSub b z) with e|e
   · exact g1 e
   · exact g2 e
 have loop:∀ s₃:Shared,s₃={ s2 with heap:=h₁,toks:=s2.toks+([]:List (Str×Value)).length } ->
     codeAny (model X.prog X.w) X.A (.compLoop (.ListComp elt [⟨tg,iter,ifs,0⟩] scope pos) 0 (.ref it) (.ref s2.heap.objs.size) (compEnvC scope cl P2.objs.size X.env))
       (compPost (model X.prog X.w) X.A X.xe none (EP X pins σ Q) (.ref s2.heap.objs.size) P2.objs.size) s₃:=by
   rintro s₃ rfl;refine Zk (fun n s'=>∃ i σ' H',Inv (qM X scope N cl P2.objs.size s2 H2 fp (X.pn++pins)) [] σ' H' s'∧tn i s'.heap∧(∀ b∈fp,H' b=none)∧W i n σ' H') ?_ m0
     ⟨0,st0 js σ,_,IX,T.keep _ _ _ st2 (fun b hb o e=>old b o e),fun b hb=>by rw[qf (Nat.ne_of_lt (hfl b hb))];exact(f2 b hb).1,w0⟩
   rintro n s3 ⟨i,σ3,H3,I3,st3,fr3,w3⟩;rcases turn i n σ3 H3 w3 with ⟨stop,qn⟩|⟨go,N2,hN,step⟩
   · refine thn (T.done (qM X scope N cl P2.objs.size s2 H2 fp (X.pn++pins)) rfl rfl rfl hc i [] s3 σ3 H3 noE I3 (stat fr3) st3 stop) fun r s4 ⟨hr,I4⟩=>?_;subst hr;obtain⟨m4,hn4,_⟩:=id I4.loc;refine⟨m4,hn4,fun h' hsb=>⟨.ref s2.heap.objs.size,H3,?_,rfl,qn⟩⟩;have u4:Un (frs X.stack) fp H2 H3 s2.heap s4.heap:=I4.base;have ltC:∀ b o,s2.heap.get? b=some o->b≠P2.objs.size:=fun b o e=>Nat.ne_of_lt (Nat.lt_of_lt_of_le (Heap.lt_size e) hCle)
     have u5:Un (frs X.stack) fp H2 H3 s2.heap h' :=
       { keep:=fun b o e n hb hx=>hsb.extBut b o (ltC b o e) (u4.keep b o e n hb hx)
         slot:=fun b o e n hb hx=>by
           obtain⟨sl,q⟩:=u4.slot b o e n hb hx;exact⟨sl,hsb.extBut b _ (ltC b o e) q⟩
         free:=u4.free
         there:=fun b o e hx=>by
           obtain⟨o',q⟩:=u4.there b o e hx;exact⟨o',hsb.extBut b _ (ltC b o e) q⟩
         tups:=u4.tups
         frzs:=u4.frzs
         tbls:=u4.tbls }
     have fC:H3 P2.objs.size=none:=I4.free
     have hok5:HOk X.prog X.w H3 h':=fun b u e=>(I4.hok b u e).stay (fun c v hc' q=>hsb.extBut c v (fun z=>by
       rcases hc' with y|y
       · rw[y]at z;rw[z,fC]at e;cases e
       · rw[z,fC]at y;cases y) q) (fun _ q=>q) fun _ _ q=>q
     exact I2.call' (s':={ s4 with heap:=h' }) I4.os u5 hok5 I4.bare fun b hb=>by
       obtain⟨g0,g1,g2,g3,g4,g5⟩:=f2 b hb;exact⟨g3,g1,g4,g5⟩
   · refine thn (T.item (qM X scope N cl P2.objs.size s2 H2 fp (X.pn++pins)) rfl rfl rfl hc i [] s3 σ3 H3 noE I3 (stat fr3) st3 go) fun r s4 ⟨u,hr,h4⟩=>?_;subst hr;refine thn h4 fun _ s5 zz_=>?_;obtain⟨x,H5,I5,r5,y5,st5,fr5⟩:=zz_;have I5':=I5.pinned (stat fr5) (T.obj _ _ st5);refine thn (hg' _ s5 σ3 H5 x u _ I5' r5 (step x H5 y5)) fun _ s6 zz_=>?_;obtain⟨σ6,H6,I6,q6⟩:=zz_;refine thn (ht' _ s6 σ6 H6 _ I6 q6) fun ok s7 zz_=>?_;obtain⟨H7,I7,q7⟩:=zz_;have again:∀ {s8:Shared}{σ8:St}{H8:Hp},Inv (qM X scope N cl P2.objs.size s2 H2 fp (X.pn++pins)) ([]++ZE fp s5.heap) σ8 H8 s8->N2 σ8 H8 ->
         ∃ m,m < n∧∃ i σ' H',Inv (qM X scope N cl P2.objs.size s2 H2 fp (X.pn++pins)) [] σ' H' s8∧tn i s8.heap∧(∀ b∈fp,H' b=none)∧W i m σ' H':=fun {s8 σ8 H8} I8 n8=>by
       obtain⟨m',hm,w8⟩:=hN σ8 H8 n8;refine⟨m',hm,i+1,σ8,H8,I8.unpinned,T.keep _ _ _ st5 fun b hb o e=>(I8.pin (b,o) (List.mem_append_right _ (List.mem_append_right _ (qW hb e)))).1,fun b hb=>?_,w8⟩;obtain⟨o,e,d⟩:=T.obj _ _ st5 b hb;exact(I8.pin (b,o) (List.mem_append_right _ (List.mem_append_right _ (qW hb e)))).2.1
     cases ok with
     | false=>exact again I7 (by simpa using q7)
     | true =>
       have q7':te σ6 H7 fun y H5=>∃ ys,H5 s2.heap.objs.size=some (.lst ys)∧ys.length < sizeLine∧N2 σ6 (upd H5 s2.heap.objs.size (.lst (ys++[y]))):=by simpa using q7
       refine thn (he' _ s7 σ6 H7 _ I7 q7') fun xv s8 zz_=>?_;obtain⟨y,H8,I8,r8,ys,hy,hlen,n8⟩:=zz_;refine thn (qS (X:=qM X scope N cl P2.objs.size s2 H2 fp (X.pn++pins)) _ s8 σ6 H8 (.ref s2.heap.objs.size) [y] (.ref s2.heap.objs.size) [xv] (fun _ H9=>N2 σ6 H9) I8 rfl (.cons r8 .nil) ⟨_,ys,y,rfl,rfl,hy,hlen,n8⟩) fun _ s9 ⟨_,H9,I9,_,n9⟩=>again I9 n9
 exact codeAny_compStart_list (loop _ rfl) (T.self _ 0 _ _ _ (T.keep _ _ _ st2 (fun b hb o e=>old b o e)) (loop _ rfl))
end
theorem Qz {lo:Int}{n:Nat}{g:TG}{tt:TT}{te:TE}{D:Addr}{Q:VK}{σ:St}{H:Hp} (Pv:Nat->St->Hp->Prop) (h0:Pv 0 σ H)
   (hs:∀ i σ H,i < n->Pv i σ H->g (.int (lo+i)) σ H fun σ3 H3=>tt σ3 H3 fun ok H4=>if ok=true then te σ3 H4 fun y H5=>∃ ys,H5 D=some (.lst ys)∧ys.length < sizeLine∧Pv (i+1) σ3 (upd H5 D (.lst (ys++[y]))) else Pv (i+1) σ3 H4)
   (hd:∀ σ H,Pv n σ H->Q (.ref D) H) :
   QW (Itr lo n) g tt te D Q σ H:=by
 refine⟨fun i m σ H=>m=n - i∧i≤n∧Pv i σ H,⟨n,by simp,Nat.zero_le _,h0⟩,?_⟩;rintro i m σ H ⟨rfl,hi,p⟩;by_cases hlt:i < n
 · refine .inr ⟨hlt,Pv (i+1),fun σ' H' p'=>⟨n - (i+1),by omega,rfl,hlt,p'⟩,fun v H' y=>?_⟩;obtain⟨rfl,rfl⟩:=y;exact hs i σ _ hlt p
 · have e:i=n:=by omega
   subst e;exact .inl ⟨Nat.le_refl _,hd σ H p⟩
theorem zH {K:Frag}{a:Addr}{xs:List V}{g:TG}{tt:TT}{te:TE}{D:Addr}{Q:VK}{σ:St}{H:Hp} (Pv:Nat->St->Hp->Prop) (h0:Pv 0 σ H) (hl:∀ i σ H,i≤xs.length->Pv i σ H->SqL K H a xs)
   (hs:∀ i x σ H,xs[i]?=some x->Pv i σ H->g x σ H fun σ3 H3=>tt σ3 H3 fun ok H4=>if ok=true then te σ3 H4 fun y H5=>∃ ys,H5 D=some (.lst ys)∧ys.length < sizeLine∧Pv (i+1) σ3 (upd H5 D (.lst (ys++[y]))) else Pv (i+1) σ3 H4)
   (hd:∀ σ H,Pv xs.length σ H->Q (.ref D) H) :
   QW (Itl K a) g tt te D Q σ H:=by
 refine⟨fun i m σ H=>m=xs.length - i∧i≤xs.length∧Pv i σ H,⟨xs.length,by simp,Nat.zero_le _,h0⟩,?_⟩;rintro i m σ H ⟨rfl,hi,p⟩;have q:=hl i σ H hi p;by_cases hlt:i < xs.length
 · refine .inr ⟨⟨xs,xs[i],q,by simp[hlt]⟩,Pv (i+1),fun σ' H' p'=>⟨xs.length - (i+1),by omega,rfl,hlt,p'⟩,fun v H' y=>?_⟩;obtain⟨e,y⟩:=y;subst e;exact hs i v σ _ (y xs q) p
 · have e:i=xs.length:=by omega
   subst e;exact .inl ⟨⟨xs,q,Nat.le_refl _⟩,hd σ H p⟩
theorem qaT:∀ {bs:List Bool}{us:List Value},Vals (bs.map V.bl) us->us=bs.map Value.bool
 | [],_,r=>by cases r;rfl
 | b::bs,_,r=>by
   cases r with
   | cons r t =>
     cases r;rw[qaT t];rfl
section
variable {X:Cx}
def qe2 (K:Frag):List V->Hp->VK->Prop:=fun xs H Q=>∃ (p:Addr) (bs:List Bool),xs=[.ref p]∧SqL K H p (bs.map V.bl)∧Q (.bl (bs.all id)) H
theorem jz {α:Type} (f:α->Bool) (d:α):∀ l:List α,(List.range l.length).all (fun i=>f (l.getD i d))=l.all f
 | []=>rfl
 | a::l=>by
   rw[List.length_cons,List.range_succ_eq_map,List.all_cons,List.all_map,List.all_cons,← jz f d l];rfl
theorem qaO (hc:X.calm=true):QD X (.builtin "all") (qe2 X.K):=by
 intro pins s σ H xs us Q I r h;obtain⟨p,bs,rfl,hq,q⟩:=h;obtain⟨u,rfl,ru⟩:=QX r;cases ru;obtain⟨its,rv,pl,hz⟩:=I.list hq;have eits:=qaT rv;subst eits;have hlt:p < s.heap.objs.size:=by obtain⟨_,_,e,_⟩:=pl;exact Heap.lt_size e
 refine call_all_walk (wpAny_pyIter_list pl.isList ?_);have W:=Walks.list (prog:=X.prog) (w:=X.w) (A:=X.A.in1) (I.ok.hd hc) s.heap.objs.size p (Nat.ne_of_lt hlt) (bs.map Value.bool).toArray;refine⟨_,_,_,_,_,_,(fun i=>(bs.getD i true)),rfl,W,⟨⟨_,Heap.get?_push_size _ rfl,rfl,rfl⟩,pl.isList.push _⟩,?_,?_⟩
 · intro i v s' Q' E' hP hQ;have hv:(bs.map Value.bool)[i]?=some v:=by simpa using hP
   rw[List.getElem?_map]at hv
   cases e:bs[i]? with
   | none=>rw[e]at hv;cases hv
   | some b =>
     rw[e]at hv;cases hv;have e2:bs.getD i true=b:=by rw[List.getD_eq_getElem?_getD,e];rfl
     have hQ:Q' (bs.getD i true) s':=hQ;rw[e2]at hQ;exact wpAny_truthy_bool hQ
 · intro h' tk hk;have es:(bs.map Value.bool).toArray.size=bs.length:=by simp
   have ea:(List.range (bs.map Value.bool).toArray.size).all (fun i=>bs.getD i true)=bs.all id:=by rw[es];exact jz id true bs
   refine⟨.bl _,H,?_,by rw[ea];rfl,q⟩;exact I.kept (t':=tk) fun b o e=>hk b o (by simp;exact Nat.ne_of_lt (Heap.lt_size e)) (Heap.get?_push_of_some _ e)
end
theorem qaR:bootBuiltins "all"=some (.builtin "all"):=by decide +kernel
def zc (cells:List (Str×Addr)):List (Str×NameKind)->List (Str×Addr)->List (Str×Addr)
 | [],acc=>acc
 | (n,k)::r,acc=>zc cells r (if k == .free then (n,(cells.lookup n).getD 0)::acc else acc)
def qcp (env:Env) (x:Str×NameKind) (cs:List (Str×Addr)):Sem (ForInStep (List (Str×Addr))):=match x with
 | (name,kind)=>if (kind == NameKind.free)=true then (do let a ← cellOf env name;pure (ForInStep.yield ((name,a)::cs))) else pure (ForInStep.yield cs)
theorem qaM {env:Env}{n:Str}{k:NameKind}{acc:List (Str×Addr)} (h:k=.free->∃ c,env.cells.lookup n=some c) :
   qcp env (n,k) acc=pure (ForInStep.yield (if k == .free then (n,(env.cells.lookup n).getD 0)::acc else acc)):=by
 by_cases hk:k=.free
 · subst hk;obtain⟨c,hc⟩:=h rfl;show (do let a ← cellOf env n;pure (ForInStep.yield ((n,a)::acc)))=(pure (ForInStep.yield ((n,(env.cells.lookup n).getD 0)::acc)):Sem _);unfold cellOf;rw[hc];rfl
 · cases k<;>first|exact absurd rfl hk|rfl
theorem ZM {env:Env}:∀ (names:List (Str×NameKind)) (acc:List (Str×Addr)),(∀ y∈names,y.2=.free->∃ c,env.cells.lookup y.1=some c) ->
   (forIn names acc (qcp env))=(pure (zc env.cells names acc):Sem (List (Str×Addr)))
 | [],acc,_=>rfl
 | (n,k)::r,acc,h=>by
   rw[List.forIn_cons,qaM fun e=>h (n,k) List.mem_cons_self e];exact ZM (env:=env) r _ fun y hy=>h y (List.mem_cons_of_mem _ hy)
theorem QA {scope:Scope}{env:Env} (h:∀ y∈scope.names,y.2=.free->∃ c,env.cells.lookup y.1=some c):closureFor scope env=pure (zc env.cells scope.names []):=by
 unfold closureFor;exact(congrArg (fun (m:Sem (List (Str×Addr)))=>m >>= fun cs=>pure cs) (ZM (env:=env) scope.names [] h)).trans rfl
theorem qT {cells:List (Str×Addr)}{x:Str}:∀ (names:List (Str×NameKind)) (acc:List (Str×Addr)),(∀ y∈names,y.2=.free->∃ c,cells.lookup y.1=some c)->(∀ c,acc.lookup x=some c->cells.lookup x=some c) ->
   (∀ c,(zc cells names acc).lookup x=some c->cells.lookup x=some c)∧(((x,NameKind.free)∈names∨(acc.lookup x).isSome=true)->((zc cells names acc).lookup x).isSome=true)
 | [],acc,_,ha=>⟨ha,fun h=>h.elim (fun z=>nomatch z) id⟩
 | (n,k)::r,acc,h,ha=>by
   unfold zc;have hr:∀ y∈r,y.2=.free->∃ c,cells.lookup y.1=some c:=fun y hy=>h y (List.mem_cons_of_mem _ hy)
   cases hk:(k == NameKind.free) with
   | false =>
     obtain⟨i1,i2⟩:=qT (cells:=cells) (x:=x) r acc hr ha;refine⟨by simpa using i1,fun z=>?_⟩
     have:((zc cells r acc).lookup x).isSome=true:=i2 (by
       rcases z with z|z
       · rcases List.mem_cons.mp z with e|e
         · cases e;cases hk
         · exact .inl e
       · exact .inr z)
     simpa using this
   | true =>
     obtain⟨c,hc⟩:=h (n,k) List.mem_cons_self (by simpa using hk);have hc:cells.lookup n=some c:=hc;have ek:k=NameKind.free:=by simpa using hk
     subst ek
     have ha':∀ c',((n,(cells.lookup n).getD 0)::acc).lookup x=some c'->cells.lookup x=some c':=fun c' z=>by
       rw[List.lookup_cons]at z
       cases e:x == n with
       | true =>
         rw[e]at z;have e':x=n:=by simpa using e
         rw[e',hc]at *;simpa using z
       | false=>rw[e]at z;exact ha c' z
     obtain⟨i1,i2⟩:=qT (cells:=cells) (x:=x) r _ hr ha';refine⟨i1,fun z=>i2 ?_⟩;by_cases e:x=n
     · right;rw[List.lookup_cons,e];simp
     · rcases z with z|z
       · rcases List.mem_cons.mp z with q|q
         · cases q;exact absurd rfl e
         · exact .inl q
       · right;rw[List.lookup_cons]
         have:(x == n)=false:=by simpa using e
         rw[this];exact z
theorem zL {x:Str}{k:NameKind}:∀ {names:List (Str×NameKind)},names.lookup x=some k->(x,k)∈names
 | [],h=>by cases h
 | (n,j)::r,h=>by
   rw[List.lookup_cons]at h
   cases e:x == n with
   | true =>
     rw[e]at h;have e':x=n:=by simpa using e
     cases h;rw[e'];exact List.mem_cons_self
   | false=>rw[e]at h;exact List.mem_cons_of_mem _ (zL h)
theorem Q9 {scope:Scope}{env:Env}{x:Str}{k:NameKind} (h:(x,k)∈(relabel scope env).names):(x,k)∈scope.names∨(k=.cell∧(x,NameKind.free)∈scope.names):=by
 have h':(x,k)∈scope.names.map fun (n,k)=>if (k == .free && env.scope.kind == .function && env.kindOf n == some .cell) then (n,.cell) else (n,k):=h
 obtain⟨⟨n,j⟩,hm,e⟩:=List.mem_map.mp h';simp only at e;split at e
 · rename_i c
   cases e
   have:j=.free:=by
     have c1:=(Bool.and_eq_true_iff.mp (Bool.and_eq_true_iff.mp c).1).1;simpa using c1
   subst this;exact .inr ⟨rfl,hm⟩
 · cases e;exact .inl hm
theorem zd {env:Env}{x:Str} (hX:env.scope.kind=.function) (g3:env.kindOf x=some .cell):∀ {names:List (Str×NameKind)},names.lookup x=some .free ->
   (names.map fun (n,k)=>if (k == NameKind.free && env.scope.kind == .function && env.kindOf n == some .cell) then (n,NameKind.cell) else (n,k)).lookup x=some .cell
 | [],h=>by cases h
 | (n,k)::r,h=>by
   have ih:=zd hX g3 (names:=r);show List.lookup x ((if (k == NameKind.free && env.scope.kind == .function && env.kindOf n == some .cell)=true then (n,NameKind.cell) else (n,k))::_)=_;rw[List.lookup_cons]at h
   cases e:x == n with
   | true =>
     rw[e]at h;have e':x=n:=by simpa using e
     have ek:k=.free:=by simpa using h
     rw[ek,← e',if_pos (show (NameKind.free == NameKind.free && env.scope.kind == .function && env.kindOf x == some .cell)=true by rw[hX,g3];decide),List.lookup_cons];simp
   | false =>
     rw[e]at h;by_cases hc:(k == NameKind.free && env.scope.kind == .function && env.kindOf n == some .cell)=true
     · rw[if_pos hc,List.lookup_cons,e];exact ih h
     · rw[if_neg hc,List.lookup_cons,e];exact ih h
theorem CompOk.of {X:Cx}{scope:Scope}{N:List Str}{js:List (Option Nat)} (hkind:scope.kind=.function) (hcell:∀ y∈scope.names,y.2≠.cell) (hnames:∀ y∈scope.names,y.2=.local->scope.names.lookup y.1=some .local)
   (hX:X.env.scope.kind=.function) (hfree:∀ y∈scope.names,y.2=.free->X.env.kindOf y.1=some .cell∧∃ c,X.env.cells.lookup y.1=some c) (len:js.length=N.length)
   (hfr:∀ (i j:Nat) (x:Str),js[i]?=some (some j)->N[i]?=some x->X.N[j]?=some x∧scope.names.lookup x=some .free) :
   CompOk X scope N (zc X.env.cells scope.names []) js where
 clos:=QA fun y hy z=>(hfree y hy z).2
 sub:=fun x c h=>(qT scope.names [] (fun y hy z=>(hfree y hy z).2) (fun c h=>by cases h)).1 c h
 all:=fun x h=>by
   have hm:(x,NameKind.free)∈scope.names:=by
     rcases h with h|h
     · rcases Q9 (zL h) with z|⟨_,z⟩
       · exact absurd rfl (hcell _ z)
       · exact z
     · rcases Q9 (zL h) with z|⟨e,_⟩
       · exact z
       · cases e
   have:=(qT (cells:=X.env.cells) (x:=x) scope.names [] (fun y hy z=>(hfree y hy z).2) (fun c h=>by cases h)).2 (.inl hm)
   exact Option.isSome_iff_exists.mp this
 cell:=hcell
 kind:=hkind
 names:=hnames
 len:=len
 fr:=fun i j x h1 h2=>by
   obtain⟨g1,g2⟩:=hfr i j x h1 h2;obtain⟨g3,_⟩:=hfree (x,.free) (zL g2) rfl;refine⟨g1,g3,.inl ?_⟩;exact zd hX g3 g2
def qdD (sc:Scope) (N0 N:List Str) (js:List (Option Nat)):Bool:=(js.zip N).all fun p=>match p.1 with
 | none=>true
 | some j=>N0[j]? == some p.2 && sc.names.lookup p.2 == some .free
theorem qbF {sc:Scope}{N0:List Str}:∀ {js:List (Option Nat)}{N:List Str},qdD sc N0 N js=true->∀ (i j:Nat) (x:Str),js[i]?=some (some j)->N[i]?=some x->N0[j]?=some x∧sc.names.lookup x=some .free:=by
 intro js N h i j x h1 h2
 have hm:(some j,x)∈js.zip N:=by
   refine List.mem_of_getElem? (i:=i) ?_;rw[List.getElem?_zip_eq_some];exact⟨h1,h2⟩
 have:=List.all_eq_true.mp h _ hm
 simpa using this
theorem CompOk.def {CX:CXT}{P:Program}{w:World}{K:Frag}{mg:Str->Option Value}{base:Heap}{N0:List Str}{qual:Str}{sc0:Scope}{f:Addr}{cd:Value}{A:Around}{outer:List Env}{s:Shared}{H:Hp}{E:XK}{scope:Scope}
   (N:List Str) (js:List (Option Nat)) (hk0:sc0.kind=.function:=by rfl) (hk:scope.kind=.function:=by rfl) (hcell:∀ y∈scope.names,y.2≠.cell:=by decide +kernel) (hnames:∀ y∈scope.names,y.2=.local->scope.names.lookup y.1=some .local:=by decide +kernel)
   (hfr0:∀ y∈scope.names,y.2=.free->sc0.names.lookup y.1=some .cell:=by decide +kernel) (len:js.length=N.length:=by rfl) (hfr:qdD scope N0 N js=true:=by decide +kernel) :
   CompOk (zG CX P w K mg base N0 qual sc0 f cd A outer s H E).nox scope N (zc (zG CX P w K mg base N0 qual sc0 f cd A outer s H E).nox.env.cells scope.names []) js :=
 CompOk.of hk hcell hnames hk0 (fun y hy z=>⟨hfr0 y hy z,Option.isSome_iff_exists.mp (PySem.W.cellsFrom_some _ _ _ (.inl (hfr0 y hy z)))⟩) len (qbF hfr)
section
variable {prog:Program}{w:World}{A:Around}{E:Value->Shared->Prop}{s:Shared}
theorem qbs {j u:Addr}{k:Nat}{xs:Array Value}{x:Value}{Q:Value->Shared->Prop} (a:s.heap.IsTupleIter j u k) (b:s.heap.IsTuple u xs) (e:xs[k]?=some x)
   (q:∀ h',h'.IsTupleIter j u (k+1)->Heap.SameBut j s.heap h'->Q x { s with heap:=h' }):wpAny (model prog w) A (Builtin.SmallTypes.nextOf (.ref j)) Q E s:=by
 obtain⟨oj,gj,cj,dj⟩:=id a;obtain⟨ou,gu,_,nu,du⟩:=b;unfold Builtin.SmallTypes.nextOf;refine wpAny_bind (wpAny_callSpecial?_slot (name:=Str.ofString "__next__") a.typeIs F.slot_tuple_iterator_next (wpAny_call_entry F.slot_tuple_iterator_next a.typeIs F.entry_tuple_iterator_next ?_ (F.args_tuple_iterator_next_1 _)));show wpAny _ _ (field (.ref j) 0 >>= _) _ _ s;refine wpAny_bind (wpAny_field gj dj (x:=.ref u) rfl ?_);show wpAny _ _ (if (Value.ref u == Value.none)=true then _ else _) _ _ s;rw[if_neg (show ¬ ((Value.ref u == Value.none)=true) from Bool.false_ne_true)];show wpAny _ _ (field (.ref j) 1 >>= _) _ _ s;refine wpAny_bind (wpAny_field gj dj (x:=.int k 0) rfl ?_);show wpAny _ _ (seqItems? (.ref u) >>= _) _ _ s;refine wpAny_bind (wpAny_seqItems gu du ?_);simp only[Int.toNat_natCast,e];refine wpAny_bind (wpAny_setField gj dj (by simp) (wpAny_pure ⟨x,rfl,wpAny_pure (q _ ?_ (Heap.SameBut.update ..))⟩));refine⟨_,Heap.get?_update_self _ gj (Obj.isFreed_of_fields (Obj.data_mapFields dj _)),(Obj.cls_mapFields ..).trans cj,?_⟩;rw[Obj.data_mapFields dj];simp[rawInt]
theorem qcH {j u:Addr}{k:Nat}{xs:Array Value}{Q:Value->Shared->Prop} (hd:A.handled=none) (a:s.heap.IsTupleIter j u k) (b:s.heap.IsTuple u xs) (e:xs[k]?=none)
   (q:∀ h' z,Heap.ExtBut j s.heap h'->(∃ o,h'.get? z=some o∧o.cls=.type "StopIteration")->E (.ref z) { s with heap:=h' }):wpAny (model prog w) A (Builtin.SmallTypes.nextOf (.ref j)) Q E s:=by
 obtain⟨oj,gj,cj,dj⟩:=id a;obtain⟨ou,gu,_,nu,du⟩:=b;unfold Builtin.SmallTypes.nextOf;refine wpAny_bind (wpAny_callSpecial?_slot (name:=Str.ofString "__next__") a.typeIs F.slot_tuple_iterator_next (wpAny_call_entry F.slot_tuple_iterator_next a.typeIs F.entry_tuple_iterator_next ?_ (F.args_tuple_iterator_next_1 _)));show wpAny _ _ (field (.ref j) 0 >>= _) _ _ s;refine wpAny_bind (wpAny_field gj dj (x:=.ref u) rfl ?_);show wpAny _ _ (if (Value.ref u == Value.none)=true then _ else _) _ _ s;rw[if_neg (show ¬ ((Value.ref u == Value.none)=true) from Bool.false_ne_true)];show wpAny _ _ (field (.ref j) 1 >>= _) _ _ s;refine wpAny_bind (wpAny_field gj dj (x:=.int k 0) rfl ?_);show wpAny _ _ (seqItems? (.ref u) >>= _) _ _ s;refine wpAny_bind (wpAny_seqItems gu du ?_);simp only[Int.toNat_natCast,e];refine wpAny_bind (wpAny_rule (wpAny_bind (wpAny_setField gj dj (by simp) ?_)));show wpAny _ _ (newExc (.type "StopIteration") [] >>= _) _ _ { s with heap:=_ };refine wpAny_bind ?_;simp only[newExc,newTuple];refine wpAny_bind (wpAny_newObj_type ?_ (by size_fits));refine wpAny_bind (m:=firstArgMember _ _) (wpAny_of_eq (a:=Value.none) (by first|rfl|(simp only[firstArgMember];rfl)) (wpAny_newObj_type ?_ (by size_fits)));simp only[raiseNew];refine wpAny_bind (wpAny_handled ?_)
 first|rw[show A.in1.handled=none from hd]|rw[hd]
 exact wpAny_bind (wpAny_pure (wpAny_throw (q _ _ (((Heap.SameBut.update ..).extBut.push _).push _) ⟨_,Heap.get?_push_size _ rfl,rfl⟩)))
def itK:Bool->Heap->Addr->Addr->Nat->Prop
 | false,h,j,u,k=>h.IsListIter j u k
 | true,h,j,u,k=>h.IsTupleIter j u k
def sqK:Bool->Heap->Addr->Array Value->Prop
 | false,h,u,xs=>h.IsList u xs
 | true,h,u,xs=>h.IsTuple u xs
theorem itK.at {t:Bool}{h h':Heap}{j u:Addr}{k:Nat} (x:itK t h j u k) (e:∀ o,h.get? j=some o->h'.get? j=some o):itK t h' j u k:=by
 cases t with
 | false=>exact Heap.IsListIter.at x e
 | true=>obtain⟨o,g,r⟩:=x;exact⟨o,e o g,r⟩
theorem itK.get {t:Bool}{h:Heap}{j u:Addr}{k:Nat} (x:itK t h j u k):∃ o,h.get? j=some o∧o.data=.fields #[.ref u,.int k 0]:=by
 cases t with
 | false=>obtain⟨o,g,_,d⟩:=x;exact⟨o,g,d⟩
 | true=>obtain⟨o,g,_,d⟩:=x;exact⟨o,g,d⟩
theorem sqK.at {t:Bool}{h h':Heap}{u:Addr}{xs:Array Value} (x:sqK t h u xs) (e:∀ o,h.get? u=some o->h'.get? u=some o):sqK t h' u xs:=by
 cases t with
 | false=>exact Heap.IsList.at x e
 | true=>obtain⟨o,g,r⟩:=x;exact⟨o,e o g,r⟩
theorem sqK.lt {t:Bool}{h:Heap}{u:Addr}{xs:Array Value} (x:sqK t h u xs):u < h.objs.size:=by
 cases t with
 | false=>obtain⟨o,g,_⟩:=x;exact Heap.lt_size g
 | true=>obtain⟨o,g,_⟩:=x;exact Heap.lt_size g
theorem Z4 {t:Bool}{j u:Addr}{k:Nat}{xs:Array Value}{x:Value}{Q:Value->Shared->Prop} (a:itK t s.heap j u k) (b:sqK t s.heap u xs) (e:xs[k]?=some x)
   (q:∀ h',itK t h' j u (k+1)->Heap.SameBut j s.heap h'->Q x { s with heap:=h' }):wpAny (model prog w) A (Builtin.SmallTypes.nextOf (.ref j)) Q E s:=by
 cases t with
 | false=>exact wpAny_nextOf_list_item a b e q
 | true=>exact qbs a b e q
theorem qaq {t:Bool}{j u:Addr}{k:Nat}{xs:Array Value}{Q:Value->Shared->Prop} (hd:A.handled=none) (a:itK t s.heap j u k) (b:sqK t s.heap u xs) (e:xs[k]?=none)
   (q:∀ h' z,Heap.ExtBut j s.heap h'->(∃ o,h'.get? z=some o∧o.cls=.type "StopIteration")->E (.ref z) { s with heap:=h' }):wpAny (model prog w) A (Builtin.SmallTypes.nextOf (.ref j)) Q E s:=by
 cases t with
 | false=>exact wpAny_nextOf_list_end hd a b e q
 | true=>exact qcH hd a b e q
theorem qcs {t:Bool}{z TI TO i1 i2 l1 l2:Addr}{k:Nat}{xs ys:Array Value}{x y a b:Value}{Q:Value->Shared->Prop} (D:ZipApart z TI TO i1 i2 l1 l2)
   (gz:IsZip s.heap z TI TO .none) (gI:IsPair s.heap TI (.ref i1) (.ref i2)) (gO:IsPair s.heap TO a b) (j1:itK t s.heap i1 l1 k) (j2:itK t s.heap i2 l2 k) (m1:sqK t s.heap l1 xs) (m2:sqK t s.heap l2 ys) (ex:xs[k]?=some x) (ey:ys[k]?=some y)
   (q:∀ h',IsZip h' z TI TO (rawInt s.heap.objs.size)->IsPair h' TO x y->itK t h' i1 l1 (k+1)->itK t h' i2 l2 (k+1)->IsPair h' s.heap.objs.size x y ->
     (∀ c o,c≠z->c≠TO->c≠i1->c≠i2->s.heap.get? c=some o->h'.get? c=some o)->Q (.ref s.heap.objs.size) { s with heap:=h' }) :
   wpAny (model prog w) A (Builtin.«zip.__next__» ⟨[.ref z],[]⟩) (fun fin s'=>∃ v,fin=.done (.ret v)∧Q v s') E s:=by
 show wpAny _ _ (field (.ref z) 2 >>= _) _ _ s;refine wpAny_bind (wpAny_field gz rfl (x:=.bool false) rfl ?_);show wpAny _ _ (field (.ref z) 3 >>= _) _ _ s;refine wpAny_bind (wpAny_field gz rfl (x:=.ref TI) rfl (wpAny_bind (wpAny_seqItems gI rfl ?_)));show wpAny _ _ (Builtin.SmallTypes.ownedTupleIsFree (.ref z) >>= _) _ _ s;refine wpAny_bind ?_;unfold Builtin.SmallTypes.ownedTupleIsFree;refine wpAny_bind (wpAny_field gz rfl (x:=.none) rfl (wpAny_pure ?_));simp only[if_true];refine wpAny_bind (wpAny_rule (wpAny_bind (wpAny_field gz rfl (x:=.ref TO) rfl (wpAny_bind (wpAny_setField_rec gz (by simp) fun g1 z1 n1=>?_)))));replace z1:IsZip g1 z TI TO .ellipsis:=z1;refine wpAny_bind ?_;simp only[List.zipIdx_cons,List.zipIdx_nil,List.forIn_cons,List.forIn_nil];refine wpAny_bind (wpAny_bind (wpAny_onRaise ?_));show wpAny _ _ (Builtin.SmallTypes.nextOf (.ref i1) >>= _) _ _ { s with heap:=g1 };refine wpAny_bind (Z4 (t:=t) (s:={ s with heap:=g1 }) (j1.at fun o e=>n1.extBut _ o D.i1z e) (m1.at fun o e=>n1.extBut _ o D.l1z e) ex fun g2 j12 n2=>wpAny_pure ?_);have O2:IsPair g2 TO a b:=n2.extBut _ _ D.TOi1 (n1.extBut _ _ D.TOz gO);refine wpAny_bind (wpAny_seqItems O2 rfl (wpAny_bind (wpAny_updateSeq_pair O2 fun g3 O3 n3=>?_)));replace O3:IsPair g3 TO x b:=O3;refine wpAny_bind (wpAny_letGo (wpAny_pure (wpAny_bind (wpAny_bind (wpAny_onRaise ?_)))));show wpAny _ _ (Builtin.SmallTypes.nextOf (.ref i2) >>= _) _ _ { s with heap:=g3 };have k3:∀ c o,c≠z->c≠i1->c≠TO->s.heap.get? c=some o->g3.get? c=some o:=fun c o c1 c2 c3 e=>n3.extBut _ _ c3 (n2.extBut _ _ c2 (n1.extBut _ _ c1 e));refine wpAny_bind (Z4 (t:=t) (s:={ s with heap:=g3 }) (j2.at fun o e=>k3 _ o D.i2z D.i12.symm D.TOi2.symm e) (m2.at fun o e=>k3 _ o D.l2z D.l2i1 D.l2TO e) ey fun g4 j24 n4=>wpAny_pure ?_);have O4:IsPair g4 TO x b:=n4.extBut _ _ D.TOi2 O3;refine wpAny_bind (wpAny_seqItems O4 rfl (wpAny_bind (wpAny_updateSeq_pair O4 fun g5 O5 n5=>?_)));replace O5:IsPair g5 TO x y:=O5;refine wpAny_bind (wpAny_letGo (wpAny_pure (wpAny_pure (wpAny_bind (wpAny_seqItems O5 rfl (wpAny_bind (wpAny_newTuple ?_)))))));have sz:g5.objs.size=s.heap.objs.size:=by rw[n5.1,n4.1,n3.1,n2.1,n1.1]
 have z5:IsZip g5 z TI TO .ellipsis:=n5.extBut _ _ D.TOz.symm (n4.extBut _ _ D.i2z.symm (n3.extBut _ _ D.TOz.symm (n2.extBut _ _ D.i1z.symm z1)));have k5:∀ c o,c≠z->c≠TO->c≠i1->c≠i2->s.heap.get? c=some o->g5.get? c=some o:=fun c o c1 c2 c3 c4 e=>n5.extBut _ _ c2 (n4.extBut _ _ c4 (k3 c o c1 c3 c2 e));have p1:itK t g5 i1 l1 (k+1):=((j12.at fun o e=>n3.extBut _ o D.TOi1.symm e).at fun o e=>n4.extBut _ o D.i12 e).at fun o e=>n5.extBut _ o D.TOi1.symm e;have p2:itK t g5 i2 l2 (k+1):=j24.at fun o e=>n5.extBut _ o D.TOi2.symm e;have lz:z < g5.objs.size:=Heap.lt_size z5;show wpAny _ _ (Builtin.SmallTypes.ownedTupleHandOut (.ref z) (.ref g5.objs.size) >>= _) _ _ { s with heap:=_ };refine wpAny_bind ?_;unfold Builtin.SmallTypes.ownedTupleHandOut;have z6:IsZip (g5.push { cls:=.type "tuple",data:=.seq #[x,y] }) z TI TO .ellipsis:=Heap.get?_push_of_some _ z5;refine wpAny_bind (wpAny_setField_rec z6 (by simp) fun g7 z7 n7=>?_);replace z7:IsZip g7 z TI TO (rawInt g5.objs.size):=z7;refine wpAny_setField_rec z7 (by simp) fun g8 z8 n8=>?_;replace z8:IsZip g8 z TI TO (rawInt g5.objs.size):=z8;have up:∀ c o,c≠z->g5.get? c=some o->g8.get? c=some o:=fun c o c1 e=>n8.extBut _ _ c1 (n7.extBut _ _ c1 (Heap.get?_push_of_some _ e));have T8:IsPair g8 g5.objs.size x y:=n8.extBut _ _ (Nat.ne_of_gt lz) (n7.extBut _ _ (Nat.ne_of_gt lz) (Heap.get?_push_size _ rfl));rw[sz]at z8 T8;refine wpAny_pure ⟨_,rfl,?_⟩;show Q (.ref g5.objs.size) { s with heap:=g8 };rw[sz];exact q g8 z8 (up _ _ D.TOz O5) (p1.at fun o e=>up _ o D.i1z e) (p2.at fun o e=>up _ o D.i2z e) T8 fun c o c1 c2 c3 c4 e=>up c o c1 (k5 c o c1 c2 c3 c4 e)
theorem qc7 {t:Bool}{z TI TO i1 i2 l1 l2:Addr}{k:Nat}{xs ys:Array Value}{a b:Value}{Q:Fin->Shared->Prop} (hd:A.handled=none) (D:ZipApart z TI TO i1 i2 l1 l2)
   (gz:IsZip s.heap z TI TO .none) (gI:IsPair s.heap TI (.ref i1) (.ref i2)) (gO:IsPair s.heap TO a b) (j1:itK t s.heap i1 l1 k) (j2:itK t s.heap i2 l2 k) (m1:sqK t s.heap l1 xs) (m2:sqK t s.heap l2 ys) (en:xs[k]?=none∨ys[k]?=none)
   (q:∀ h' v,(∀ c o,c≠z->c≠TO->c≠i1->c≠i2->s.heap.get? c=some o->h'.get? c=some o)->(∃ o,h'.get? v=some o∧o.cls=.type "StopIteration")->E (.ref v) { s with heap:=h' }) :
   wpAny (model prog w) A (Builtin.«zip.__next__» ⟨[.ref z],[]⟩) Q E s:=by
 show wpAny _ _ (field (.ref z) 2 >>= _) _ _ s;refine wpAny_bind (wpAny_field gz rfl (x:=.bool false) rfl ?_);show wpAny _ _ (field (.ref z) 3 >>= _) _ _ s;refine wpAny_bind (wpAny_field gz rfl (x:=.ref TI) rfl (wpAny_bind (wpAny_seqItems gI rfl ?_)));show wpAny _ _ (Builtin.SmallTypes.ownedTupleIsFree (.ref z) >>= _) _ _ s;refine wpAny_bind ?_;unfold Builtin.SmallTypes.ownedTupleIsFree;refine wpAny_bind (wpAny_field gz rfl (x:=.none) rfl (wpAny_pure ?_));simp only[if_true];refine wpAny_bind (wpAny_rule (wpAny_bind (wpAny_field gz rfl (x:=.ref TO) rfl (wpAny_bind (wpAny_setField_rec gz (by simp) fun g1 z1 n1=>?_)))));replace z1:IsZip g1 z TI TO .ellipsis:=z1;refine wpAny_bind ?_;simp only[List.zipIdx_cons,List.zipIdx_nil,List.forIn_cons,List.forIn_nil];refine wpAny_bind (wpAny_bind (wpAny_onRaise ?_));show wpAny _ _ (Builtin.SmallTypes.nextOf (.ref i1) >>= _) _ _ { s with heap:=g1 };have a1:itK t g1 i1 l1 k:=j1.at fun o e=>n1.extBut _ o D.i1z e;have b1:sqK t g1 l1 xs:=m1.at fun o e=>n1.extBut _ o D.l1z e
 cases ex:xs[k]? with
 | none =>
   refine wpAny_bind (qaq (t:=t) (s:={ s with heap:=g1 }) hd a1 b1 ex fun g2 v n2 sv=>?_);obtain⟨ov,gv,cv⟩:=sv;have z2:IsZip g2 z TI TO .ellipsis:=n2 _ _ D.i1z.symm z1;have vz:v≠z:=fun e=>by subst e;rw[z2]at gv;cases gv;simp at cv
   exact wpAny_setField_rec z2 (by simp) fun g3 _ n3=>q g3 v (fun c o c1 _ c3 _ e=>n3.extBut _ _ c1 (n2 _ _ c3 (n1.extBut _ _ c1 e))) ⟨ov,n3.extBut _ _ vz gv,cv⟩
 | some x =>
   have ey:ys[k]?=none:=en.resolve_left fun e=>by rw[ex]at e;cases e
   refine wpAny_bind (Z4 (t:=t) (s:={ s with heap:=g1 }) a1 b1 ex fun g2 j12 n2=>wpAny_pure ?_);have O2:IsPair g2 TO a b:=n2.extBut _ _ D.TOi1 (n1.extBut _ _ D.TOz gO);refine wpAny_bind (wpAny_seqItems O2 rfl (wpAny_bind (wpAny_updateSeq_pair O2 fun g3 O3 n3=>?_)));refine wpAny_bind (wpAny_letGo (wpAny_pure (wpAny_bind (wpAny_bind (wpAny_onRaise ?_)))));show wpAny _ _ (Builtin.SmallTypes.nextOf (.ref i2) >>= _) _ _ { s with heap:=g3 };have k3:∀ c o,c≠z->c≠i1->c≠TO->s.heap.get? c=some o->g3.get? c=some o:=fun c o c1 c2 c3 e=>n3.extBut _ _ c3 (n2.extBut _ _ c2 (n1.extBut _ _ c1 e));refine wpAny_bind (qaq (t:=t) (s:={ s with heap:=g3 }) hd (j2.at fun o e=>k3 _ o D.i2z D.i12.symm D.TOi2.symm e) (m2.at fun o e=>k3 _ o D.l2z D.l2i1 D.l2TO e) ey fun g4 v n4 sv=>?_);obtain⟨ov,gv,cv⟩:=sv;have z4:IsZip g4 z TI TO .ellipsis:=n4 _ _ D.i2z.symm (n3.extBut _ _ D.TOz.symm (n2.extBut _ _ D.i1z.symm z1));have vz:v≠z:=fun e=>by subst e;rw[z4]at gv;cases gv;simp at cv
   exact wpAny_setField_rec z4 (by simp) fun g5 _ n5=>q g5 v (fun c o c1 c2 c3 c4 e=>n5.extBut _ _ c1 (n4 _ _ c4 (k3 c o c1 c3 c2 e))) ⟨ov,n5.extBut _ _ vz gv,cv⟩
theorem qbj {t:Bool}{z TI TO i1 i2 l1 l2:Addr}{k:Nat}{xs ys:Array Value}{x y a b:Value}{Q:Option Value->Shared->Prop} (D:ZipApart z TI TO i1 i2 l1 l2)
   (gz:IsZip s.heap z TI TO .none) (gI:IsPair s.heap TI (.ref i1) (.ref i2)) (gO:IsPair s.heap TO a b) (j1:itK t s.heap i1 l1 k) (j2:itK t s.heap i2 l2 k) (m1:sqK t s.heap l1 xs) (m2:sqK t s.heap l2 ys) (ex:xs[k]?=some x) (ey:ys[k]?=some y)
   (q:∀ h',IsZip h' z TI TO (rawInt s.heap.objs.size)->IsPair h' TO x y->itK t h' i1 l1 (k+1)->itK t h' i2 l2 (k+1)->IsPair h' s.heap.objs.size x y ->
     (∀ c o,c≠z->c≠TO->c≠i1->c≠i2->s.heap.get? c=some o->h'.get? c=some o)->Q (some (.ref s.heap.objs.size)) { s with heap:=h' }) :
   wpAny (model prog w) A (pyNext (.ref z)) Q E s:=by
 have T:s.TypeIs (.ref z) "zip":=⟨_,gz,rfl⟩
 unfold pyNext
 exact wpAny_bind (wpAny_attempt (wpAny_callSpecial?_slot (name:=Str.ofString "__next__") T F.slot_zip_next (wpAny_call_entry F.slot_zip_next T F.entry_zip_next
   (qcs D gz gI gO j1 j2 m1 m2 ex ey fun h' c1 c2 c3 c4 c5 c6=>wpAny_pure (q h' c1 c2 c3 c4 c5 c6)) (F.args_zip_next_1 _))))
theorem qcB {t:Bool}{z TI TO i1 i2 l1 l2:Addr}{k:Nat}{xs ys:Array Value}{a b:Value}{Q:Option Value->Shared->Prop} (hd:A.handled=none) (D:ZipApart z TI TO i1 i2 l1 l2)
   (gz:IsZip s.heap z TI TO .none) (gI:IsPair s.heap TI (.ref i1) (.ref i2)) (gO:IsPair s.heap TO a b) (j1:itK t s.heap i1 l1 k) (j2:itK t s.heap i2 l2 k) (m1:sqK t s.heap l1 xs) (m2:sqK t s.heap l2 ys) (en:xs[k]?=none∨ys[k]?=none)
   (q:∀ h',(∀ c o,c≠z->c≠TO->c≠i1->c≠i2->s.heap.get? c=some o->h'.get? c=some o)->Q none { s with heap:=h' }):wpAny (model prog w) A (pyNext (.ref z)) Q E s:=by
 have T:s.TypeIs (.ref z) "zip":=⟨_,gz,rfl⟩
 unfold pyNext
 refine wpAny_bind (wpAny_attempt (wpAny_callSpecial?_slot (name:=Str.ofString "__next__") T F.slot_zip_next (wpAny_call_entry F.slot_zip_next T F.entry_zip_next
   (qc7 hd D gz gI gO j1 j2 m1 m2 en fun h' v hk sv=>?_) (F.args_zip_next_1 _))))
 obtain⟨o,go,co⟩:=sv;exact wpAny_bind (wpAny_isInstance (T:="StopIteration") (b:=true) ⟨o,go,co⟩ isSubtype_stop (wpAny_pure (q _ hk)))
end
def itN:Bool->String
 | false=>"list_iterator"
 | true=>"tuple_iterator"
abbrev zk1 (t:Bool) (h:Heap) (u:Addr):Heap:=h.push { cls:=.type (itN t),data:=.fields #[.ref u,.int 0 0] }
abbrev zk3 (t:Bool) (h:Heap) (u v:Addr):Heap:=(zk1 t (zk1 t h u) v).push { cls:=.type "tuple",data:=.seq #[.ref h.objs.size,.ref (zk1 t h u).objs.size] }
abbrev zk4 (t:Bool) (h:Heap) (u v:Addr):Heap:=(zk3 t h u v).push { cls:=.type "tuple",data:=.seq #[.none,.none] }
abbrev zk5 (t:Bool) (h:Heap) (u v:Addr):Heap:=(zk4 t h u v).push { cls:=.type "zip",data:=.fields #[.none,.bool false,.bool false,.ref (zk1 t (zk1 t h u) v).objs.size,.ref (zk3 t h u v).objs.size] }
theorem qc6 (t:Bool) (u v:Addr) (xs ys:Array Value):Meets (Builtin.«zip.__new__» ⟨[.type "zip",.ref u,.ref v],[]⟩) (fun _ R s=>sqK t s.heap u xs∧sqK t s.heap v ys ∧
     R (.ok (.ret (.ref (zk4 t s.heap u v).objs.size))) { s with heap:=zk5 t s.heap u v }) :=
 .of_wp fun prog w A R s h=>by
   obtain⟨hp,g,d,tk,os⟩:=s;obtain⟨m1,m2,h⟩:=h;have hsub:=sub_zip
   cases t with
   | false =>
     have L1:Heap.IsList (Shared.heap ⟨hp,g,d,tk,os⟩) u xs:=m1;have L2:Heap.IsList (Shared.heap ⟨hp.push { cls:=.type "list_iterator",data:=.fields #[.ref u,.int 0 0] },g,d,tk,os⟩) v ys:=Heap.IsList.push m2 _
     wp_walk using wpAny_pyIter_list L1,wpAny_pyIter_list L2
     exact⟨_,rfl,h⟩
   | true =>
     have L1:Heap.IsTuple (Shared.heap ⟨hp,g,d,tk,os⟩) u xs:=m1;have L2:Heap.IsTuple (Shared.heap ⟨hp.push { cls:=.type "tuple_iterator",data:=.fields #[.ref u,.int 0 0] },g,d,tk,os⟩) v ys:=Heap.IsTuple.push m2 _
     wp_walk using wpAny_pyIter_tuple L1,wpAny_pyIter_tuple L2
     exact⟨_,rfl,h⟩
section
variable {prog:Program}{w:World}{A:Around}{E:Value->Shared->Prop}{s:Shared}
theorem itK.new {t:Bool}{h:Heap}{j u:Addr} (g:h.get? j=some { cls:=.type (itN t),data:=.fields #[.ref u,.int 0 0] }):itK t h j u 0:=by
 cases t with
 | false=>exact⟨_,g,rfl,rfl⟩
 | true=>exact⟨_,g,rfl,rfl⟩
theorem qaN {t:Bool}{u v:Addr}{xs ys:Array Value}{Q:Value->Shared->Prop} (m1:sqK t s.heap u xs) (m2:sqK t s.heap v ys)
   (q:∀ h',IsZip h' (s.heap.objs.size+4) (s.heap.objs.size+2) (s.heap.objs.size+3) .none->IsPair h' (s.heap.objs.size+2) (.ref s.heap.objs.size) (.ref (s.heap.objs.size+1)) ->
     IsPair h' (s.heap.objs.size+3) .none .none->itK t h' s.heap.objs.size u 0->itK t h' (s.heap.objs.size+1) v 0->(∀ c o,s.heap.get? c=some o->h'.get? c=some o)->Q (.ref (s.heap.objs.size+4)) { s with heap:=h' }) :
   wpAny (model prog w) A (call (.type "zip") [.ref u,.ref v]) Q E s:=by
 refine callType_new F.called_zip (by decide) (F.typeCall_zip_2 _ _) (F.newCall_zip_2 _ _) (fun obj=>F.args_object_init_3 obj _ _) F.entry_zip_new (qc6 t u v xs ys) ⟨m1,m2,?_⟩;have y1:(zk1 t s.heap u).objs.size=s.heap.objs.size+1:=Heap.size_push ..;have y2:(zk1 t (zk1 t s.heap u) v).objs.size=s.heap.objs.size+2:=by rw[Heap.size_push,y1]
 have y3:(zk3 t s.heap u v).objs.size=s.heap.objs.size+3:=by rw[Heap.size_push,y2]
 have y4:(zk4 t s.heap u v).objs.size=s.heap.objs.size+4:=by rw[Heap.size_push,y3]
 have f5:(zk5 t s.heap u v).get? (zk4 t s.heap u v).objs.size=some _:=Heap.get?_push_size _ rfl;have f4:(zk5 t s.heap u v).get? (zk3 t s.heap u v).objs.size=some _:=Heap.get?_push_of_some _ (Heap.get?_push_size _ rfl);have f3:(zk5 t s.heap u v).get? (zk1 t (zk1 t s.heap u) v).objs.size=some _:=Heap.get?_push_of_some _ (Heap.get?_push_of_some _ (Heap.get?_push_size _ rfl));have f2:(zk5 t s.heap u v).get? (zk1 t s.heap u).objs.size=some _:=Heap.get?_push_of_some _ (Heap.get?_push_of_some _ (Heap.get?_push_of_some _ (Heap.get?_push_size _ rfl)));have f1:(zk5 t s.heap u v).get? s.heap.objs.size=some _:=Heap.get?_push_of_some _ (Heap.get?_push_of_some _ (Heap.get?_push_of_some _ (Heap.get?_push_of_some _ (Heap.get?_push_size _ rfl))));show _∧_;rw[y2,y3,y4]at f5;rw[y1,y2]at f3;rw[y3]at f4;rw[y1]at f2;rw[y4];exact⟨⟨_,f5,rfl⟩,q _ f5 f3 f4 (.new f1) (.new f2) fun c o e=>Heap.get?_push_of_some _ (Heap.get?_push_of_some _ (Heap.get?_push_of_some _ (Heap.get?_push_of_some _ (Heap.get?_push_of_some _ e))))⟩
end
def SqK (K:Frag):Bool->Hp->Addr->List V->Prop
 | false=>SqL K
 | true=>SqT K
def Itz (K:Frag) (t:Bool) (a b:Addr):It :=
 ⟨fun i H=>∃ xs ys x y,SqK K t H a xs∧SqK K t H b ys∧xs[i]?=some x∧ys[i]?=some y,
  fun i H v H'=>∃ p x y,H p=none∧v=.ref p∧(∀ xs ys,SqK K t H a xs->SqK K t H b ys->xs[i]?=some x∧ys[i]?=some y)∧H'=upd H p (.tup [x,y]),
  fun i H=>∃ xs ys,SqK K t H a xs∧SqK K t H b ys∧(xs.length≤i∨ys.length≤i)⟩
section
variable {X:Cx}{pins:List (Addr×Obj)}{σ:St}{H:Hp}{s:Shared}
theorem Inv.seqK {t:Bool}{a:Addr}{xs:List V} (I:Inv X pins σ H s) (h:SqK X.K t H a xs):∃ its:List Value,Vals xs its∧sqK t s.heap a its.toArray∧xs.length≤sizeLine:=by
 cases t with
 | false =>
   obtain⟨its,rv,p,z⟩:=I.list h;exact⟨its,rv,p.isList,z⟩
 | true=>exact I.tuple h
theorem Inv.seqK_inj {t:Bool}{a:Addr}{xs ys:List V} (I:Inv X pins σ H s) (h:SqK X.K t H a xs) (h':SqK X.K t H a ys):xs=ys:=by
 cases t with
 | false=>exact I.list_inj h h'
 | true=>exact I.tuple_inj h h'
end
structure ZSt (t:Bool) (z TI TO i1 i2 a b:Addr) (i:Nat) (h:Heap):Prop where
 gz:IsZip h z TI TO .none
 gI:IsPair h TI (.ref i1) (.ref i2)
 gO:∃ u v,IsPair h TO u v
 j1:itK t h i1 a i
 j2:itK t h i2 b i
theorem qa6 {P:Program}{w:World}{K:Frag}{elts:List Expr}{k:Nat}{pos:Pos}{t:Bool} (z TI TO i1 i2 a b:Addr) (D:ZipApart z TI TO i1 i2 a b) :
   qdL P w K (.Tuple elts k pos) (Itz K t a b) [z,TI,TO,i1,i2] z (ZSt t z TI TO i1 i2 a b) where
 mem:=by simp
 obj:=fun i h st c hc=>by
   obtain⟨gz,gI,⟨u,v,gO⟩,j1,j2⟩:=st;simp only[List.mem_cons,List.not_mem_nil,or_false]at hc;rcases hc with rfl|rfl|rfl|rfl|rfl
   · exact⟨_,gz,fun v e=>by cases e⟩
   · exact⟨_,gI,fun v e=>by cases e⟩
   · exact⟨_,gO,fun v e=>by cases e⟩
   · obtain⟨o,g,d⟩:=j1.get;exact⟨o,g,fun v e=>by rw[d]at e;cases e⟩
   · obtain⟨o,g,d⟩:=j2.get;exact⟨o,g,fun v e=>by rw[d]at e;cases e⟩
 keep:=fun i h h' st kk=>by
   obtain⟨gz,gI,⟨u,v,gO⟩,j1,j2⟩:=st;exact⟨kk z (by simp) _ gz,kk TI (by simp) _ gI,⟨u,v,kk TO (by simp) _ gO⟩,j1.at fun o e=>kk i1 (by simp) o e,j2.at fun o e=>kk i2 (by simp) o e⟩
 item:=by
   intro X hP hw hK hc i pins s σ H E I hf st hg;subst hP hw hK;obtain⟨xs,ys,x,y,hq,hq2,hx,hy⟩:=hg;obtain⟨its,rv,p,hz⟩:=I.seqK hq;obtain⟨its2,rv2,p2,hz2⟩:=I.seqK hq2;obtain⟨u,hu,ru⟩:=rv.get hx;obtain⟨u2,hu2,ru2⟩:=rv2.get hy;obtain⟨gz,gI,⟨_,_,gO⟩,j1,j2⟩:=st;refine qbj (t:=t) D gz gI gO j1 j2 p p2 (x:=u) (y:=u2) (by simpa using hu) (by simpa using hu2) fun h1 w1 w2 w3 w4 w5 hk=>?_;refine⟨_,rfl,wpAny_letOwnedTupleGo_zip (s:={ s with heap:=h1 }) w1 fun h2 gz2 hs2=>?_⟩;have lz:z < s.heap.objs.size:=Heap.lt_size gz;have lI:TI < s.heap.objs.size:=Heap.lt_size gI;have lO:TO < s.heap.objs.size:=Heap.lt_size gO;have l1:i1 < s.heap.objs.size:=by obtain⟨o,g,_⟩:=j1.get;exact Heap.lt_size g
   have l2:i2 < s.heap.objs.size:=by obtain⟨o,g,_⟩:=j2.get;exact Heap.lt_size g
   have T2:h2.get? s.heap.objs.size=some { cls:=.type "tuple",data:=.seq #[u,u2] }:=(hs2.2 _ (Nat.ne_of_gt lz)).trans w5
   have I1:Inv X pins σ (upd H s.heap.objs.size (.tup [x,y])) { s with heap:=h2,toks:=s.toks }:=by
     refine I.turnLaid (ch:=[z,TI,TO,i1,i2]) (fun c o hc q=>?_) hf (Nat.le_refl _) ⟨by show 2≤sizeLine;decide,[u,u2],.cons ru (.cons ru2 .nil),⟨_,T2,rfl,_,rfl⟩⟩;have c1:c≠z:=fun e=>hc (by simp[e]);exact(hs2.2 c c1).trans (hk c o c1 (fun e=>hc (by simp[e])) (fun e=>hc (by simp[e])) (fun e=>hc (by simp[e])) q)
   refine⟨.ref s.heap.objs.size,_,I1,rfl,⟨_,x,y,I.hok.fresh (Nat.le_refl _),rfl,fun ys1 ys2 q1 q2=>by rw[I.seqK_inj q1 hq,I.seqK_inj q2 hq2];exact⟨hx,hy⟩,rfl⟩,?_,fun c hc=>?_⟩
   · exact⟨gz2,(hs2.2 _ D.TIz).trans (hk _ _ D.TIz D.TITO D.TIi1 D.TIi2 gI),⟨_,_,(hs2.2 _ D.TOz).trans w2⟩,w3.at fun o e=>(hs2.2 _ D.i1z).trans e,w4.at fun o e=>(hs2.2 _ D.i2z).trans e⟩
   · have hcl:c < s.heap.objs.size:=by
       simp only[List.mem_cons,List.not_mem_nil,or_false]at hc;rcases hc with rfl|rfl|rfl|rfl|rfl<;>assumption
     rw[qf (Nat.ne_of_lt hcl)];exact(hf c hc).1
 done:=by
   intro X hP hw hK hc i pins s σ H E I hf st hg;subst hP hw hK;obtain⟨xs,ys,hq,hq2,hx⟩:=hg;obtain⟨its,rv,p,hz⟩:=I.seqK hq;obtain⟨its2,rv2,p2,hz2⟩:=I.seqK hq2;obtain⟨gz,gI,⟨_,_,gO⟩,j1,j2⟩:=st;have e1:=rv.length;have e2:=rv2.length;refine qcB (t:=t) (I.ok.hd hc) D gz gI gO j1 j2 p p2 (by simp;omega) fun h' hk=>⟨rfl,I.turnL (t':=s.toks) (ch:=[z,TI,TO,i1,i2]) (fun c o hc q=>hk c o (fun e=>hc (by simp[e])) (fun e=>hc (by simp[e])) (fun e=>hc (by simp[e])) (fun e=>hc (by simp[e])) q) hf⟩
 self:=fun _ _ _ _ _ st h=>wpAny_pyIter_zip st.gz h
theorem qaP:bootBuiltins "zip"=some (.type "zip"):=by decide +kernel
inductive qcj (K:Frag) (R:(It->Hp->Prop)) (vs:List V) (H1:Hp):Prop
 | mk (t a b:_) (h1:vs=[.ref a,.ref b]) (h2:(∃ xs,SqK K t H1 a xs)) (h3:(∃ ys,SqK K t H1 b ys)) (h4:R (Itz K t a b) H1):qcj K R vs H1
def qe4 (K:Frag) (ta:TA):TI:=fun σ H R=>ta σ H fun vs H1=>qcj K R vs H1
section
variable {X:Cx}
theorem qdo {e1 e2:Expr}{ta:TA}{p pos tp:Pos}{elts:List Expr}{kk:Nat} (hg:Gl X "zip") (hm:X.mg "zip"=none) (ha:PA X [e1,e2] ta) (hs:starEach [e1,e2] X.env=(false,eval e1 X.env)::starEach [e2] X.env:=by rfl)
   (hpl:(backTo pos (starEach [e2] X.env)).any (·.1)=false:=by rfl):PI X (.Tuple elts kk tp) (.Call (.Name "zip" p) [e1,e2] [] pos) (qe4 X.K ta):=by
 intro pins s σ H R I h;refine Call_ (QO I hg hm qaP (PyProof.Rows.callWith_type1 (thn (ha pos pins s σ H _ I h) fun us s1 zz_=>?_) hs hpl));obtain⟨vs,H1,I1,r1,q1⟩:=zz_;obtain⟨t,a,b,e,⟨xs,hq⟩,⟨ys,hq2⟩,q⟩:=q1;subst e;obtain⟨u,v,rfl,ru,rv⟩:=JP r1;cases ru;cases rv;obtain⟨its,rv,pl,hz⟩:=I1.seqK hq;obtain⟨its2,rv2,pl2,hz2⟩:=I1.seqK hq2;refine qaN (t:=t) pl pl2 fun h' gz gI gO j1 j2 hk=>?_;have I2:Inv X pins σ H1 { s1 with heap:=h' }:=I1.kept (t':=s1.toks) hk;have la:=pl.lt;have lb:=pl2.lt
 have D:ZipApart (s1.heap.objs.size+4) (s1.heap.objs.size+2) (s1.heap.objs.size+3) s1.heap.objs.size (s1.heap.objs.size+1) a b:=by
   constructor<;>(intro h;have h':=@id (@Eq Nat _ _) h;clear h;revert la lb h';exact fun (la:@LT.lt Nat _ _ _) (lb:@LT.lt Nat _ _ _) h'=>by omega)
 refine wpAny_pyIter_zip gz ⟨s1.heap.objs.size+4,_,_,Itz X.K t a b,H1,rfl,I2,qa6 _ _ _ _ _ _ _ D,⟨gz,gI,⟨_,_,gO⟩,j1,j2⟩,fun c hc=>?_,q⟩
 have hc1:s1.heap.objs.size≤c:=by
   simp only[List.mem_cons,List.not_mem_nil,or_false]at hc;rcases hc with rfl|rfl|rfl|rfl|rfl<;>omega
 exact I1.fpOk hc1 (I1.hok.fresh hc1)
end
theorem qbJ {K:Frag}{t:Bool}{a b:Addr}{xs ys:List V}{g:TG}{tt:TT}{te:TE}{D:Addr}{Q:VK}{σ0:St}{H0:Hp} (Pv:Nat->St->Hp->Prop) (he:xs.length=ys.length) (h0:Pv 0 σ0 H0)
   (hl:∀ i σ H,i≤xs.length->Pv i σ H->SqK K t H a xs∧SqK K t H b ys)
   (hs:∀ i x y σ H p,xs[i]?=some x->ys[i]?=some y->Pv i σ H->H p=none->g (.ref p) σ (upd H p (.tup [x,y])) fun σ3 H3=>tt σ3 H3 fun ok H4=>if ok=true then te σ3 H4 fun v H5=>∃ zs,H5 D=some (.lst zs)∧zs.length < sizeLine∧Pv (i+1) σ3 (upd H5 D (.lst (zs++[v]))) else Pv (i+1) σ3 H4)
   (hd:∀ σ H,Pv xs.length σ H->Q (.ref D) H):QW (Itz K t a b) g tt te D Q σ0 H0:=by
 refine⟨fun i m σ H=>m=xs.length - i∧i≤xs.length∧Pv i σ H,⟨xs.length,by simp,Nat.zero_le _,h0⟩,?_⟩;rintro i m σ H ⟨rfl,hi,p⟩;obtain⟨q1,q2⟩:=hl i σ H hi p;by_cases hlt:i < xs.length
 · have hlt2:i < ys.length:=by omega
   refine .inr ⟨⟨xs,ys,xs[i],ys[i],q1,q2,by simp[hlt],by simp[hlt2]⟩,Pv (i+1),fun σ' H' p'=>⟨xs.length - (i+1),by omega,rfl,hlt,p'⟩,fun x H' y=>?_⟩;obtain⟨c,u,v,hn,rfl,z,rfl⟩:=y;obtain⟨z1,z2⟩:=z xs ys q1 q2;exact hs i u v σ _ c z1 z2 p hn
 · have e:i=xs.length:=by omega
   subst e;exact .inl ⟨⟨xs,ys,q1,q2,.inl (Nat.le_refl _)⟩,hd σ H p⟩
def jo (t:String) (cs:List String):Bool:=cs.any fun c=>qdU c t
theorem jn (K:Frag) {t:String} (ht:t∈ZQ):∀ {cs:List String},(∀ c∈cs,c∈Qr)->kitAny K (.type t) (cs.map Value.type)=some (jo t cs)
 | [],_=>rfl
 | c::r,h=>by
   have e:=qci K ht (h c List.mem_cons_self);have ih:=jn K ht (cs:=r) fun d hd=>h d (List.mem_cons_of_mem _ hd);show (match kitOne K (.type t) (.type c) with|some true=>some true|some false=>kitAny K (.type t) (r.map Value.type)|none=>none)=_;rw[e]
   cases q:qdU c t with
   | true=>simp[jo,q]
   | false=>simp only[ih];simp[jo,q]
theorem JO:∀ {cs:List String}{us:List Value},Vals (cs.map V.ty) us->us=cs.map Value.type
 | [],_,.nil=>rfl
 | c::r,_,.cons a b=>by
   cases (show _=Value.type c from a);rw[JO b];rfl
section
variable {X:Cx}{pins:List (Addr×Obj)}{σ:St}{H:Hp}{s:Shared}{A:Around}{E:Value->Shared->Prop}{Q:Value->Shared->Prop}{b:Bool}
theorem Jx {x:V}{u:Value}{t:String}{tp:Addr}{dd:Option Addr}{its:List Value}{n:Nat}{sl:Array (Option Value)} (I:Inv X pins σ H s) (rx:RelV x u) (ty:tyN H x=some t) (g:s.heap.get? tp=some ⟨.type "tuple",dd,.seq its.toArray n,sl⟩)
   (e:kitAny X.K (.type t) its=some b) (h:∀ tk,Q (.bool b) { s with toks:=tk }):wpAny (model X.prog X.w) A (call (.builtin "isinstance") [u,.ref tp]) Q E s:=by
 cases x with
 | non=>cases ty;cases (show u=Value.none from rx);exact kia_tup PySem.W.kitx_none I.kIn True.intro g e (fun z=>nomatch z) h
 | bl y=>cases ty;cases (show u=Value.bool y from rx);exact kia_tup PySem.W.kitx_bool I.kIn True.intro g e (fun z=>nomatch z) h
 | int i=>cases ty;obtain⟨k,q⟩:=(show ∃ t,u=Value.int i t from rx);cases q;exact kia_tup PySem.W.kitx_int I.kIn True.intro g e (fun z=>nomatch z) h
 | str y=>cases ty;obtain⟨k,q⟩:=(show ∃ t,u=Value.str y t from rx);cases q;exact kia_tup PySem.W.kitx_str I.kIn True.intro g e (fun z=>nomatch z) h
 | byt y=>cases ty
 | flt y=>cases ty
 | ty y=>cases ty
 | ref a =>
   cases (show u=Value.ref a from rx);simp only[tyN]at ty;split at ty
   · rename_i ea;cases ty
     obtain⟨_,_,n,_,h1⟩:=(show ObjOk X.prog X.w H s.heap a (.lst _) from I.hok a _ ea)
     exact kia_tup PySem.W.kitx_list I.kIn ⟨_,h1,rfl⟩ g e (fun z=>nomatch z) h
   · rename_i ea;cases ty
     obtain⟨_,_,_,p⟩:=(show ObjOk X.prog X.w H s.heap a (.tup _) from I.hok a _ ea)
     obtain⟨o,h1,h2,_⟩:=p;exact kia_tup PySem.W.kitx_tuple I.kIn ⟨o,h1,h2⟩ g e (fun z=>nomatch z) h
   · rename_i ea;cases ty
     obtain⟨_,_,vs,_,p⟩:=(show ObjOk X.prog X.w H s.heap a (.dK _) from I.hok a _ ea)
     obtain⟨o,es,ep,h1,h2,_⟩:=p;exact kia_tup PySem.W.kitx_dict I.kIn ⟨o,h1,h2.1⟩ g e (fun z=>nomatch z) h
   · cases ty
end
def qeZ:List V->Hp->VK->Prop:=fun xs H Q=>∃ x p cs t,xs=[x,.ref p]∧H p=some (.tup (cs.map V.ty))∧(∀ c∈cs,c∈Qr)∧tyN H x=some t∧Q (.bl (jo t cs)) H
theorem qbN {X:Cx}:QD X (.builtin "isinstance") qeZ:=by
 intro pins s σ H xs us Q I r h;obtain⟨x,p,cs,t,rfl,hp,hc,ht,q⟩:=h;obtain⟨u,w',rfl,ru,rw'⟩:=JP r;cases rw';obtain⟨_,its,rv,o,g,c,n,d⟩:=(show ObjOk X.prog X.w H s.heap p (.tup _) from I.hok p _ hp)
 obtain rfl:=JO rv;obtain⟨oc,od,oda,osl⟩:=o;simp only at c d;subst c d;exact Jx I ru ht g (jn X.K (JQ ht) hc) fun tk=>⟨.bl _,H,I.tok tk,rfl,q⟩
theorem Same.but {G H H':Hp}{p:Addr} (s:Same G H) (b:But p H H') (n:G p=none):Same G H':=fun c o e=>b c o (s c o e) (qd e n)
theorem Same.put {G H:Hp}{p:Addr} (s:Same G H) (n:G p=none) (o:HO):Same G (upd H p o):=fun c u e=>by rw[qf (qd e n)];exact s c u e
theorem Same.none {G H:Hp}{p:Addr} (s:Same G H) (n:H p=none):G p=none:=by
 cases e:G p with
 | none=>rfl
 | some o=>rw[s p o e]at n;cases n
theorem But.none {H H':Hp}{p q:Addr} (b:But p H H') (n:H' q=none) (h:q≠p):H q=none:=by
 cases e:H q with
 | none=>rfl
 | some o=>rw[b q o e h]at n;cases n
theorem But.putN {H H':Hp}{p q:Addr} (b:But p H H') (n:H q=Option.none) (o:HO):But p H (upd H' q o):=fun c u e h=>by rw[qf (qd e n)];exact b c u e h
def cut (H:Hp) (ts:List Addr):Hp:=fun b=>if b∈ts then none else H b
theorem QP {H:Hp}{ts:List Addr}{b:Addr} (h:b∈ts):cut H ts b=none:=by unfold cut;rw[if_pos h]
theorem qY {H:Hp}{ts:List Addr}{b:Addr} (h:b∉ts):cut H ts b=H b:=by unfold cut;rw[if_neg h]
theorem zN (H:Hp) (ts:List Addr):Same (cut H ts) H:=fun b o e=>by
 by_cases h:b∈ts
 · rw[QP h]at e;cases e
 · rw[qY h]at e;exact e
theorem Same.cut {G H:Hp}{ts:List Addr} (s:Same G H) (n:∀ b∈ts,G b=Option.none):Same G (L2.cut H ts):=fun b o e=>by
 rw[qY fun z=>by rw[n b z]at e;cases e];exact s b o e
inductive Jm (H:Hp) (p:Addr):Prop
 | mk (c x y:Int) (h1:H p=some (.lst [.int c,.int x,.int y])):Jm H p
def PoolAt (H:Hp) (p:Addr):Prop:=Jm H p
theorem PoolAt.same {H H':Hp}{p:Addr} (h:PoolAt H p) (s:Same H H'):PoolAt H' p:=by
 obtain⟨c,x,y,e⟩:=h;exact⟨c,x,y,s _ _ e⟩
theorem PoolAt.ne {H:Hp}{p q:Addr} (h:PoolAt H p) (hq:H q=none):q≠p:=by
 obtain⟨c,x,y,e⟩:=h;exact(qd e hq).symm
theorem PoolAt.upd {H:Hp}{p q:Addr} (h:PoolAt H p) (n:q≠p) (o:HO):PoolAt (L2.upd H q o) p:=by
 obtain⟨c,x,y,e⟩:=h;exact⟨c,x,y,by rw[qf n.symm];exact e⟩
def Tups (H:Hp) (zs:List V):Prop:=∀ z∈zs,∃ (t:Addr) (ns:List Int),z=.ref t∧ns.length≤10∧H t=some (.tup (ns.map V.int))
theorem Tups.same {H H':Hp}{zs:List V} (h:Tups H zs) (s:Same H H'):Tups H' zs:=fun z m=>by
 obtain⟨t,ns,e,l,q⟩:=h z m;exact⟨t,ns,e,l,s _ _ q⟩
structure LL (H:Hp) (a:Addr) (qs:List Addr) (zss:List (List V)):Prop where
 at_:H a=some (.lst (qs.map V.ref))
 len:qs.length=zss.length
 each:∀ (i:Nat) q zs,qs[i]?=some q->zss[i]?=some zs->H q=some (.lst zs)
 out:a∉qs
theorem LL.same {H H':Hp}{a:Addr}{qs:List Addr}{zss:List (List V)} (h:LL H a qs zss) (s:Same H H'):LL H' a qs zss :=
 ⟨s _ _ h.at_,h.len,fun i q zs e1 e2=>s _ _ (h.each i q zs e1 e2),h.out⟩
theorem LL.get {H:Hp}{a:Addr}{qs:List Addr}{zss:List (List V)} (h:LL H a qs zss) {q:Addr} (m:q∈qs):∃ zs∈zss,H q=some (.lst zs):=by
 obtain⟨i,hi,e⟩:=List.mem_iff_getElem.mp m;have hz:i < zss.length:=by rw[← h.len];exact hi
 exact⟨zss[i],List.getElem_mem hz,h.each i q _ (by rw[List.getElem?_eq_getElem hi,e]) (List.getElem?_eq_getElem hz)⟩
theorem LL.cut {H:Hp}{a:Addr}{qs ts:List Addr}{zss:List (List V)} (h:LL H a qs zss) (n:a∉ts) (m:∀ q∈qs,q∉ts):LL (L2.cut H ts) a qs zss :=
 ⟨by rw[qY n];exact h.at_,h.len,fun i q zs e1 e2=>by rw[qY (m q (List.mem_of_getElem? e1))];exact h.each i q zs e1 e2,h.out⟩
theorem q8 {α:Type}{xs:List α}{x y:α}{i:Nat} (h:(xs++[x])[i]?=some y):xs[i]?=some y∨(i=xs.length∧y=x):=by
 rw[List.getElem?_append]at h;by_cases hi:i < xs.length
 · rw[if_pos hi]at h;exact .inl h
 · rw[if_neg hi]at h
   have e:i - xs.length=0:=by
     cases n:i - xs.length with
     | zero=>rfl
     | succ k=>rw[n]at h;simp at h
   rw[e]at h;exact .inr ⟨by omega,by simpa using h.symm⟩
theorem LL.snoc {H:Hp}{a q:Addr}{qs:List Addr}{zss:List (List V)}{zs:List V} (h:LL H a qs zss) (hq:H q=some (.lst zs)) (n:q≠a):LL (upd H a (.lst ((qs.map V.ref)++[.ref q]))) a (qs++[q]) (zss++[zs]) where
 at_:=by rw[upd_same,List.map_append];rfl
 len:=by rw[List.length_append,List.length_append,h.len];rfl
 each:=fun i r ys e1 e2=>by
   have hr:r≠a:=by
     rcases q8 e1 with e|⟨_,e⟩
     · intro z;exact h.out (z▸List.mem_of_getElem? e)
     · rw[e];exact n
   rw[qf hr];rcases q8 e1 with e|⟨ei,e⟩
   · rcases q8 e2 with e'|⟨ei',_⟩
     · exact h.each i r ys e e'
     · have:=(List.getElem?_eq_some_iff.mp e).1
       rw[ei',← h.len]at this;exact absurd this (Nat.lt_irrefl _)
   · rcases q8 e2 with e'|⟨_,e'⟩
     · have:=(List.getElem?_eq_some_iff.mp e').1
       rw[ei,h.len]at this;exact absurd this (Nat.lt_irrefl _)
     · rw[e,e'];exact hq
 out:=fun m=>by
   rcases List.mem_append.mp m with m|m
   · exact h.out m
   · exact n (by simpa using m:a=q).symm
theorem LL.nil {H:Hp}{a:Addr} (h:H a=some (.lst [])):LL H a [] []:=⟨h,rfl,fun i q zs e=>by simp at e,by simp⟩
theorem jV {xs:List V}{i:Int} (h0:0≤i) (h1:i < xs.length):∃ v,atI xs i=some v∧v∈xs:=by
 obtain⟨n,rfl⟩:=Int.eq_ofNat_of_zero_le h0;have hn:n < xs.length:=by omega
 exact⟨xs[n],qJ (List.getElem?_eq_getElem hn),List.getElem_mem hn⟩
def qep:List V->Bool
 | []=>true
 | .int _::r=>qep r
 | _::_=>false
theorem qaW:∀ {xs:List V},qep xs=true->∀ v∈xs,∃ i,v=.int i
 | .int j::r,h,v,m=>by
   rcases List.mem_cons.mp m with e|m
   · exact⟨j,e⟩
   · exact qaW (xs:=r) h v m
 | .non::r,h,_,_=>by cases h
 | .bl _::r,h,_,_=>by cases h
 | .str _::r,h,_,_=>by cases h
 | .byt _::r,h,_,_=>by cases h
 | .flt _::r,h,_,_=>by cases h
 | .ty _::r,h,_,_=>by cases h
 | .ref _::r,h,_,_=>by cases h
theorem qcz {K:Frag}{G:Hp}{l:Addr}{xs:List V}{d:Int}{Q:VK} (e:G l=some (.lst xs)) (d0:0≤d) (d1:d < xs.length) (ai:qep xs=true) (k:∀ i,Q (.int i) G):rIx K (.ref l) (.int d) G Q:=by
 obtain⟨v,hv,mv⟩:=jV d0 d1;obtain⟨i,rfl⟩:=qaW ai v mv;exact .inl ⟨l,_,_,_,rfl,rfl,SqL.of e,hv,k i⟩
def bnd (lo hi:Int):List V->Bool
 | []=>true
 | .int i::r=>decide (lo≤i) && decide (i≤hi) && bnd lo hi r
 | _::_=>false
theorem qcq {lo hi:Int}:∀ {xs:List V},bnd lo hi xs=true->∀ v∈xs,∃ i,v=.int i∧lo≤i∧i≤hi
 | .int j::r,h,v,m=>by
   simp only[bnd,Bool.and_eq_true,decide_eq_true_eq]at h;rcases List.mem_cons.mp m with e|m
   · exact⟨j,e,h.1.1,h.1.2⟩
   · exact qcq (xs:=r) h.2 v m
 | .non::r,h,_,_=>by cases h
 | .bl _::r,h,_,_=>by cases h
 | .str _::r,h,_,_=>by cases h
 | .byt _::r,h,_,_=>by cases h
 | .flt _::r,h,_,_=>by cases h
 | .ty _::r,h,_,_=>by cases h
 | .ref _::r,h,_,_=>by cases h
theorem qdj {K:Frag} (lo hi:Int) {G:Hp}{l:Addr}{xs:List V}{d:Int}{Q:VK} (e:G l=some (.lst xs)) (d0:0≤d) (d1:d < xs.length) (ai:bnd lo hi xs=true) (k:∀ i,lo≤i->i≤hi->Q (.int i) G):rIx K (.ref l) (.int d) G Q:=by
 obtain⟨v,hv,mv⟩:=jV d0 d1;obtain⟨i,rfl,h1,h2⟩:=qcq ai v mv;exact .inl ⟨l,_,_,_,rfl,rfl,SqL.of e,hv,k i h1 h2⟩
def ho:Bool->List V->HO
 | false,xs=>.lst xs
 | true,xs=>.tup xs
def SV (H:Hp):Nat->V->V->Prop
 | 0,x,y=>(∃ i,x=.int i∧y=.int i)∨(x=.non∧y=.non)
 | n+1,x,y=>∃ (t:Bool) (a b:Addr) (xs ys:List V),x=.ref a∧y=.ref b∧H a=some (ho t xs)∧H b=some (ho t ys)∧xs.length=ys.length∧xs.length≤1000∧∀ (i:Nat) u v,xs[i]?=some u->ys[i]?=some v->SV H n u v
theorem SqK.of {K:Frag}{H:Hp}{t:Bool}{a:Addr}{xs:List V} (h:H a=some (ho t xs)):SqK K t H a xs:=by
 cases t with
 | false=>exact SqL.of h
 | true=>exact SqT.of h
def tnK:Bool->String
 | false=>"list"
 | true=>"tuple"
theorem tyK {H:Hp}{t:Bool}{a:Addr}{xs:List V} (h:H a=some (ho t xs)):tyN H (.ref a)=some (tnK t):=by
 cases t with
 | false=>simp only[tyN,ho]at h ⊢;rw[h];rfl
 | true=>simp only[tyN,ho]at h ⊢;rw[h];rfl
theorem qea {K:Frag}{H:Hp}{t:Bool}{a:Addr}{xs:List V} (h:H a=some (ho t xs)):qeM K (.ref a) H xs.length:=by
 cases t with
 | false=>exact .inl ⟨xs,SqL.of h,rfl⟩
 | true=>exact .inr ⟨xs,SqT.of h,rfl⟩
theorem qdO {H:Hp}{t:Addr}{ns:List Int} (h:H t=some (.tup (ns.map V.int))) (hl:ns.length≤10):SV H 1 (.ref t) (.ref t):=by
 refine⟨true,t,t,_,_,rfl,rfl,h,h,rfl,by rw[List.length_map];omega,fun i u v e1 e2=>?_⟩;rw[e1]at e2;cases e2;rw[List.getElem?_map]at e1
 cases e:ns[i]? with
 | none=>rw[e]at e1;cases e1
 | some j=>rw[e]at e1;cases e1;exact .inl ⟨j,rfl,rfl⟩
theorem qaY {H:Hp}{q r:Addr}{zs:List V} (h1:H q=some (.lst zs)) (h2:H r=some (.lst zs)) (T:Tups H zs) (hl:zs.length≤1000):SV H 2 (.ref q) (.ref r):=by
 refine⟨false,q,r,_,_,rfl,rfl,h1,h2,rfl,hl,fun i u v e1 e2=>?_⟩;rw[e1]at e2;cases e2;obtain⟨t,ns,rfl,l,e⟩:=T u (List.mem_of_getElem? e1);exact qdO e l
theorem qes {H:Hp}{a b:Addr}{qs rs:List Addr}{zss:List (List V)} (L1:LL H a qs zss) (L2:LL H b rs zss) (T:∀ zs∈zss,Tups H zs∧zs.length≤1000) (hl:zss.length≤1000):SV H 3 (.ref a) (.ref b):=by
 refine⟨false,a,b,_,_,rfl,rfl,L1.at_,L2.at_,by rw[List.length_map,List.length_map,L1.len,L2.len],by rw[List.length_map,L1.len];exact hl,fun i u v e1 e2=>?_⟩;rw[List.getElem?_map]at e1 e2
 cases f1:qs[i]? with
 | none=>rw[f1]at e1;cases e1
 | some q =>
   cases f2:rs[i]? with
   | none=>rw[f2]at e2;cases e2
   | some r =>
     rw[f1]at e1;rw[f2]at e2;cases e1;cases e2;have hi:i < zss.length:=by rw[← L1.len];exact(List.getElem?_eq_some_iff.mp f1).1
     exact qaY (L1.each i q _ f1 (List.getElem?_eq_getElem hi)) (L2.each i r _ f2 (List.getElem?_eq_getElem hi)) (T _ (List.getElem_mem hi)).1 (T _ (List.getElem_mem hi)).2
theorem QU {H H':Hp} (e:Same H H') {v:V}{t:String} (h:tyN H v=some t):tyN H' v=some t:=by
 cases v with
 | ref a =>
   simp only[tyN]at h ⊢;split at h
   · rename_i q;rw[e _ _ q];exact h
   · rename_i q;rw[e _ _ q];exact h
   · rename_i q;rw[e _ _ q];exact h
   · cases h
 | _=>exact h
def qbd (K:Frag):List V->Hp->VK->Prop:=fun xs H Q=>∃ p ys,xs=[.ref p]∧(SqL K H p ys∨SqT K H p ys)∧∀ l,H l=none->Q (.ref l) (upd H l (.lst ys))
theorem qbZ {H:Hp}{p c:Addr}{ys:List V} (hp:PoolAt H p) (e:H c=some (.lst ys)) (r:∀ y∈ys,∃ t,y=.ref t):c∉[p]:=fun z=>by
 have z':c=p:=by simpa using z
 obtain⟨i,x,y,q⟩:=hp;rw[z',q]at e;cases e;obtain⟨t,h⟩:=r (.int i) (by simp);cases h
theorem Tups.refs {H:Hp}{zs:List V} (h:Tups H zs):∀ y∈zs,∃ t,y=.ref t:=fun y m=>by
 obtain⟨t,_,e,_⟩:=h y m;exact⟨t,e⟩
theorem LL.cutP {H:Hp}{p c:Addr}{qs:List Addr}{zss:List (List V)} (h:LL H c qs zss) (hp:PoolAt H p) (tz:∀ zs∈zss,Tups H zs):LL (L2.cut H [p]) c qs zss:=by
 refine h.cut (qbZ hp h.at_ fun y m=>?_) fun q m=>?_
 · obtain⟨t,_,e⟩:=List.mem_map.mp m;exact⟨t,e.symm⟩
 · obtain⟨zs,mz,e⟩:=h.get m;exact qbZ hp e (tz zs mz).refs
section
variable {X:Cx}
theorem ZX {i:Nat}{x:Str}{pos' pos:Pos}{elt iter tg:Expr}{ifs:List Expr}{scope:Scope}{cpos:Pos}{wi:TI}{g:TG}{tt:TT}{te:TE}{N:List Str}{cl:List (Str×Addr)}{js:List (Option Nat)} (hN:X.N.Nodup) (hi0:X.N[i]?=some x) (hx:Loc X.env.scope x)
   (hc:X.calm=true) (k:CompOk X scope N cl js) (hi:PI X tg iter wi)
   (hg:∀ C s₀ H₀ ex pn,PG (qM X scope N cl C s₀ H₀ ex pn) tg g) (ht:∀ C s₀ H₀ ex pn,PTs (qM X scope N cl C s₀ H₀ ex pn) ifs tt) (he:∀ C s₀ H₀ ex pn,PE (qM X scope N cl C s₀ H₀ ex pn) elt te)
   (hsw:swapsWith (.ListComp elt [⟨tg,iter,ifs,0⟩] scope cpos) (some (.Name x pos')) pos.line X.env=pure true:=by rfl)
   (hf:X.fn x=true∨X.env.scope.names.lookup x=some .local:=by first|exact .inl rfl|exact .inr rfl|assumption)
   (hs:∀ x,foldedSetIterable iter X.env x=pure x:=by intro _;rfl) :
   PS X (.Assign [.Name x pos'] (.ListComp elt [⟨tg,iter,ifs,0⟩] scope cpos) pos) (qdf (qdc wi g tt te js) (qbD i)):=by
 intro pins s σ H D0 I h;rw[exec_Assign_Name_used _ _ _ _ hsw];refine wpAny_bind (wpAny_standAt (wpAny_bind ?_));show wpAny _ X.A (do let _ ← comprehension (.ListComp elt [⟨tg,iter,ifs,0⟩] scope cpos) scope X.env _ (newList []) false (eval iter X.env) (some (assign (.Name x pos') X.env))) _ _ s;refine wpAny_bind (wpAny_mono (wpAny_comprehension_free (use:=some (assign (.Name x pos') X.env)) (Q:=fun _ s'=>∃ σ' H',Inv X pins σ' H' s'∧D0.nx σ' H') rfl hs k.clos k.kind k.names ?_) (fun _ s' hq=>wpAny_pure (wpAny_pure hq)) fun _ _ e=>e);refine thn (hi pins s σ H _ I h) fun v s1 h1=>thn h1 fun itv s2 h2=>?_;obtain⟨it,fp,tn,J,H2,e,I2,T,st2,f2,hD⟩:=h2;subst e;refine wpAny_newObj_type (wpAny_newFunctionEnv k.cell (by intro y hy;simp at hy) (fun h₁ hns₁ hsb₁=>?_) k.kind);dsimp only at hns₁ hsb₁ ⊢;generalize hH2:s2.heap.push { cls:=.type "list",dict:=none,data:=.seq ([]:List Value).toArray }=P2 at hns₁ hsb₁ ⊢;have hC:P2.objs.size=s2.heap.objs.size+1:=by rw[← hH2,Heap.size_push]
 have hDC:s2.heap.objs.size≠P2.objs.size:=by rw[hC];exact Nat.ne_of_lt (Nat.lt_succ_self _)
 have hCle:s2.heap.objs.size≤P2.objs.size:=by rw[hC];exact Nat.le_succ _
 have old:∀ b o,s2.heap.get? b=some o->h₁.get? b=some o:=fun b o e=>hsb₁.extBut b o (Nat.ne_of_lt (Nat.lt_of_lt_of_le (Heap.lt_size e) hCle)) (Heap.get?_push_of_some _ (hH2▸Heap.get?_push_of_some _ e));have hacc:h₁.get? s2.heap.objs.size=some { cls:=.type "list",data:=.seq ([]:List Value).toArray }:=hsb₁.extBut _ _ hDC (Heap.get?_push_of_some _ (hH2▸Heap.get?_push_size _ rfl))
 have hfl:∀ b∈fp,b < s2.heap.objs.size:=fun b hb=>by
   obtain⟨o,e,_⟩:=T.obj _ _ st2 b hb;exact Heap.lt_size e
 have fD:H2 s2.heap.objs.size=none:=I2.hok.fresh (Nat.le_refl _);obtain⟨W,⟨m0,w0⟩,turn⟩:=hD _ fD
 have IX:Inv (qM X scope N cl P2.objs.size s2 H2 fp (X.pn++pins)) [] (st0 js σ) (upd H2 s2.heap.objs.size (.lst [])) { s2 with heap:=h₁,toks:=s2.toks+([]:List (Str×Value)).length } :=
   Jk k I2 f2 hfl (Nat.le_refl _) hCle hDC hns₁ hacc old
 have hg':=hg P2.objs.size s2 H2 fp (X.pn++pins);have ht':=ht P2.objs.size s2 H2 fp (X.pn++pins);have he':=he P2.objs.size s2 H2 fp (X.pn++pins)
 have stat:∀ {H':Hp},(∀ b∈fp,H' b=none)->∀ b∈fp,JJ (qM X scope N cl P2.objs.size s2 H2 fp (X.pn++pins)) [] H' b:=fun hn b hb=>by
   obtain⟨g0,g1,g2,g3,g4,g5⟩:=f2 b hb;refine⟨hn b hb,Nat.ne_of_lt (Nat.lt_of_lt_of_le (hfl b hb) hCle),fun z=>?_,.inl hb,fun x c h=>g4 x c (k.sub _ _ h),fun p hp=>g5 p (by simpa[qM] using hp)⟩;rcases List.mem_cons.mp (I2.stkSub b z) with e|e
   · exact g1 e
   · exact g2 e
 have loop:∀ s₃:Shared,s₃={ s2 with heap:=h₁,toks:=s2.toks+([]:List (Str×Value)).length } ->
     codeAny (model X.prog X.w) X.A (.compLoop (.ListComp elt [⟨tg,iter,ifs,0⟩] scope cpos) 0 (.ref it) (.ref s2.heap.objs.size) (compEnvC scope cl P2.objs.size X.env))
       (compPost (model X.prog X.w) X.A X.xe (some (assign (.Name x pos') X.env)) (fun _ s'=>∃ σ' H',Inv X pins σ' H' s'∧D0.nx σ' H') (.ref s2.heap.objs.size) P2.objs.size) s₃:=by
   rintro s₃ rfl;refine Zk (fun n s'=>∃ i σ' H',Inv (qM X scope N cl P2.objs.size s2 H2 fp (X.pn++pins)) [] σ' H' s'∧tn i s'.heap∧(∀ b∈fp,H' b=none)∧W i n σ' H') ?_ m0
     ⟨0,st0 js σ,_,IX,T.keep _ _ _ st2 (fun b hb o e=>old b o e),fun b hb=>by rw[qf (Nat.ne_of_lt (hfl b hb))];exact(f2 b hb).1,w0⟩
   rintro n s3 ⟨i,σ3,H3,I3,st3,fr3,w3⟩;rcases turn i n σ3 H3 w3 with ⟨stop,qn⟩|⟨go,N2,hN,step⟩
   · refine thn (T.done (qM X scope N cl P2.objs.size s2 H2 fp (X.pn++pins)) rfl rfl rfl hc i [] s3 σ3 H3 noE I3 (stat fr3) st3 stop) fun r s4 ⟨hr,I4⟩=>?_;subst hr;obtain⟨m4,hn4,_⟩:=id I4.loc;have u4:Un (frs X.stack) fp H2 H3 s2.heap s4.heap:=I4.base;have fC:H3 P2.objs.size=none:=I4.free
     have I6:Inv X pins σ H3 s4:=I2.call' (s':=s4) I4.os u4 I4.hok I4.bare fun b hb=>by
       obtain⟨g0,g1,g2,g3,g4,g5⟩:=f2 b hb;exact⟨g3,g1,g4,g5⟩
     have fpC:JJ X pins H3 P2.objs.size:=I2.fpOk hCle fC;have hn4':s4.heap.Ns P2.objs.size m4:=hn4;obtain⟨oC,esC,epC,gC,rC⟩:=id hn4';have I7:=I6.pinned (fp:=[P2.objs.size]) (fun b hb=>by rw[show b=P2.objs.size by simpa using hb];exact fpC) (fun b hb=>⟨oC,by rw[show b=P2.objs.size by simpa using hb];exact gC,fun v z=>by rw[rC.1]at z;cases z⟩);show wpAny _ X.A (assign (.Name x pos') X.env (.ref s2.heap.objs.size)) _ _ s4;refine wpAny_assign_Name (ZS I7 hN hi0 hx (v:=.ref s2.heap.objs.size) rfl (fun s5 I8=>?_) hf);have g5:=(I8.pin (P2.objs.size,oC) (List.mem_append_right _ (List.mem_append_right _ (qW (by simp) gC)))).1;refine⟨m4,hn4'.at' (fun o e=>by rw[gC]at e;cases e;exact g5),fun h' hsb=>⟨_,H3,?_,qn⟩⟩;exact I8.unpinned.turnL (t':=s5.toks) (ch:=[P2.objs.size]) (fun b o hb e=>hsb.extBut b o (fun z=>hb (by simp[z])) e) (fun b hb=>by rw[show b=P2.objs.size by simpa using hb];exact fpC)
   · refine thn (T.item (qM X scope N cl P2.objs.size s2 H2 fp (X.pn++pins)) rfl rfl rfl hc i [] s3 σ3 H3 noE I3 (stat fr3) st3 go) fun r s4 ⟨u,hr,h4⟩=>?_;subst hr;refine thn h4 fun _ s5 zz_=>?_;obtain⟨x,H5,I5,r5,y5,st5,fr5⟩:=zz_;have I5':=I5.pinned (stat fr5) (T.obj _ _ st5);refine thn (hg' _ s5 σ3 H5 x u _ I5' r5 (step x H5 y5)) fun _ s6 zz_=>?_;obtain⟨σ6,H6,I6,q6⟩:=zz_;refine thn (ht' _ s6 σ6 H6 _ I6 q6) fun ok s7 zz_=>?_;obtain⟨H7,I7,q7⟩:=zz_;have again:∀ {s8:Shared}{σ8:St}{H8:Hp},Inv (qM X scope N cl P2.objs.size s2 H2 fp (X.pn++pins)) ([]++ZE fp s5.heap) σ8 H8 s8->N2 σ8 H8 ->
         ∃ m,m < n∧∃ i σ' H',Inv (qM X scope N cl P2.objs.size s2 H2 fp (X.pn++pins)) [] σ' H' s8∧tn i s8.heap∧(∀ b∈fp,H' b=none)∧W i m σ' H':=fun {s8 σ8 H8} I8 n8=>by
       obtain⟨m',hm,w8⟩:=hN σ8 H8 n8;refine⟨m',hm,i+1,σ8,H8,I8.unpinned,T.keep _ _ _ st5 fun b hb o e=>(I8.pin (b,o) (List.mem_append_right _ (List.mem_append_right _ (qW hb e)))).1,fun b hb=>?_,w8⟩;obtain⟨o,e,d⟩:=T.obj _ _ st5 b hb;exact(I8.pin (b,o) (List.mem_append_right _ (List.mem_append_right _ (qW hb e)))).2.1
     cases ok with
     | false=>exact again I7 (by simpa using q7)
     | true =>
       have q7':te σ6 H7 fun y H5=>∃ ys,H5 s2.heap.objs.size=some (.lst ys)∧ys.length < sizeLine∧N2 σ6 (upd H5 s2.heap.objs.size (.lst (ys++[y]))):=by simpa using q7
       refine thn (he' _ s7 σ6 H7 _ I7 q7') fun xv s8 zz_=>?_;obtain⟨y,H8,I8,r8,ys,hy,hlen,n8⟩:=zz_;refine thn (qS (X:=qM X scope N cl P2.objs.size s2 H2 fp (X.pn++pins)) _ s8 σ6 H8 (.ref s2.heap.objs.size) [y] (.ref s2.heap.objs.size) [xv] (fun _ H9=>N2 σ6 H9) I8 rfl (.cons r8 .nil) ⟨_,ys,y,rfl,rfl,hy,hlen,n8⟩) fun _ s9 ⟨_,H9,I9,_,n9⟩=>again I9 n9
 exact codeAny_compStart_list (loop _ rfl) (T.self _ 0 _ _ _ (T.keep _ _ _ st2 (fun b hb o e=>old b o e)) (loop _ rfl))
end
theorem zC {t u:TS}{D:qa1}{σ:St}{H:Hp} (Post:St->Hp->Prop) (h1:∀ N:St->Hp->Prop,(∀ σ' H',Post σ' H'->N σ' H')->t { D with nx:=N } σ H) (h2:∀ σ' H',Post σ' H'->u D σ' H'):qev t u D σ H:=h1 (u D) h2
inductive qdM {β:Type} (f:β->List V) (H:Hp) (ps:List β) (i:Nat) (z:V):Prop
 | mk (p:β) (t:Addr) (h1:ps[i]?=some p) (h2:z=.ref t) (h3:H t=some (.tup (f p))):qdM f H ps i z
inductive qdN {β:Type} (f:β->List V) (H:Hp) (zs:List V) (i:Nat) (p:β):Prop
 | mk (t:Addr) (h1:zs[i]?=some (.ref t)) (h2:H t=some (.tup (f p))):qdN f H zs i p
def TupL {β:Type} (f:β->List V) (H:Hp) (zs:List V) (ps:List β):Prop:=zs.length=ps.length∧∀ (i:Nat) z p,zs[i]?=some z->ps[i]?=some p->∃ t,z=.ref t∧H t=some (.tup (f p))
section
variable {β:Type}{f:β->List V}{H H':Hp}{zs:List V}{ps:List β}
theorem TupL.nil:TupL f H [] []:=⟨rfl,fun i z p e=>by simp at e⟩
theorem TupL.same (h:TupL f H zs ps) (s:Same H H'):TupL f H' zs ps:=⟨h.1,fun i z p e1 e2=>by
 obtain⟨t,e,q⟩:=h.2 i z p e1 e2
 exact⟨t,e,s _ _ q⟩⟩
theorem TupL.put {q:Addr}{xs ys:List V} (h:TupL f H zs ps) (hq:H q=some (.lst xs)):TupL f (upd H q (.lst ys)) zs ps:=⟨h.1,fun i z y e1 e2=>by
 obtain⟨t,e,r⟩:=h.2 i z y e1 e2
 exact⟨t,e,by rw[qf (qO r hq (by intro z;cases z))];exact r⟩⟩
theorem TupL.snoc {t:Addr}{p:β} (h:TupL f H zs ps) (q:H t=some (.tup (f p))):TupL f H (zs++[.ref t]) (ps++[p]):=⟨by rw[List.length_append,List.length_append,h.1];rfl,fun i z y e1 e2=>by
 rcases q8 e1 with e|⟨ei,e⟩
 · rcases q8 e2 with e'|⟨ei',_⟩
   · exact h.2 i z y e e'
   · have:=(List.getElem?_eq_some_iff.mp e).1
     rw[ei',← h.1]at this;exact absurd this (Nat.lt_irrefl _)
 · rcases q8 e2 with e'|⟨_,e'⟩
   · have:=(List.getElem?_eq_some_iff.mp e').1
     rw[ei,h.1]at this;exact absurd this (Nat.lt_irrefl _)
   · exact⟨t,e,e'▸q⟩⟩
theorem TupL.at_ (h:TupL f H zs ps) {i:Nat}{p:β} (e:ps[i]?=some p):qdN f H zs i p:=by
 have hi:i < zs.length:=by rw[h.1];exact(List.getElem?_eq_some_iff.mp e).1
 obtain⟨t,et,q⟩:=h.2 i _ p (List.getElem?_eq_getElem hi) e;exact⟨t,by rw[List.getElem?_eq_getElem hi,et],q⟩
theorem TupL.of (h:TupL f H zs ps) {i:Nat}{z:V} (e:zs[i]?=some z):qdM f H ps i z:=by
 have hi:i < ps.length:=by rw[← h.1];exact(List.getElem?_eq_some_iff.mp e).1
 obtain⟨t,et,q⟩:=h.2 i z _ e (List.getElem?_eq_getElem hi);exact⟨_,t,List.getElem?_eq_getElem hi,et,q⟩
end
theorem jT {H:Hp}:∀ (ns:List Int),DVs H (ns.map V.int) (ns.map PyData.int)
 | []=>.nil
 | n::r=>.cons (.int n) (jT r)
theorem Jf:∀ (ns:List Int),PyData.canLayAll0 (ns.map PyData.int)=true∧PyData.depthAll (ns.map PyData.int)≤1
 | []=>⟨rfl,by simp[PyData.depthAll]⟩
 | n::r=>by
   obtain⟨h1,h2⟩:=Jf r;refine⟨by simp[PyData.canLayAll0,PyData.canLay0,h1],?_⟩;simp only[List.map_cons,PyData.depthAll,PyData.depth];omega
end L2
namespace KC
open PySem L2 PySem.NumText PyProof.Rows
end KC
namespace L2
open PySem PySem.Spec PyProof.Rows
open PySem.W (Frag)
section
variable {M:Model}{A:Around}{E:Value->Shared->Prop}{h:Heap}{g:Array GenState}{d:Drawn}{t:Nat}{os:OsState}
variable {nm q:Str}{C N:Addr}{bs bm bmB:List Value}{sn:List Str}{sub:List Value}{ab:Bool}{col:Option Bool}{dd:Option Addr}{k0 k1 k2 k3 k5:Option Value}{B newId initId:String}
end
section
variable {prog:Program}{w:World}{A:Around}{R:Result->Shared->Prop}{E:Value->Shared->Prop}{h:Heap}{g:Array GenState}{d:Drawn}{t:Nat}{os:OsState}
variable {nm q:Str}{C N:Addr}{bs bm bmB:List Value}{sn:List Str}{sub:List Value}{ab:Bool}{col:Option Bool}{dd:Option Addr}{k0 k1 k2 k3 k5:Option Value}{B newId initId:String}
end
end L2
namespace Srt
open PySem PySem.W PyProof.Rows
end Srt
namespace L2
open PySem PySem.Spec PyProof.Rows
open PySem.W (Frag)
def jA (base h:Heap) (L:Addr):List (Addr×Obj):=(List.range h.objs.size).filterMap fun a=>if a=L then none else if (base.get? a).isSome then none else (h.get? a).map fun o=>(a,o)
theorem JG (base h:Heap) (L:Addr):News base L h (jA base h L):=by
 intro p hp;unfold jA at hp;obtain⟨a,_,e⟩:=List.mem_filterMap.mp hp;by_cases c1:a=L
 · rw[if_pos c1]at e;cases e
 · rw[if_neg c1]at e;by_cases c2:(base.get? a).isSome=true
   · rw[if_pos c2]at e;cases e
   · rw[if_neg c2]at e
     cases q:h.get? a with
     | none=>rw[q]at e;cases e
     | some o =>
       rw[q]at e;cases e;refine⟨q,c1,?_⟩
       cases z:base.get? a with
       | none=>rfl
       | some _=>rw[z]at c2;exact absurd rfl c2
theorem qaV {base h:Heap}{L b:Addr}{o:Obj} (e:h.get? b=some o) (ne:b≠L) (n:base.get? b=none):(b,o)∈jA base h L:=by
 unfold jA;refine List.mem_filterMap.mpr ⟨b,List.mem_range.mpr (Heap.lt_size e),?_⟩;rw[if_neg ne,n,e];rfl
theorem qdv {h:Heap}{a:Addr}{m m':Str->Option Value} (x:h.Ns a m) (y:h.Ns a m'):m=m':=by
 obtain⟨o,es,ep,ho,hd,_,f⟩:=x;obtain⟨o',es',ep',ho',hd',_,f'⟩:=y;rw[ho]at ho';cases ho';rw[hd]at hd';cases hd';exact funext fun n=>(f n).symm.trans (f' n)
section
variable {X:Cx}{pins:List (Addr×Obj)}{σ:List (Option V)}{H:Hp}{s:Shared}{h':Heap}
theorem Jg:∀ {ns:List Int}{vs:List Value},Vals (ns.map V.int) vs->IntsAre vs ns
 | [],_,.nil=>.nil
 | n::ns,_,.cons r t=>by
   obtain⟨tk,rfl⟩:=(show ∃ t,_=Value.int n t from r)
   exact .cons n tk (Jg t)
end
theorem jH:∀ {xs:List V}{us:List Value},us.length=xs.length->(∀ (i:Nat) (x:V) (u:Value),xs[i]?=some x->us[i]?=some u->RelV x u)->Vals xs us
 | [],[],_,_=>.nil
 | [],_::_,h,_=>by cases h
 | _::_,[],h,_=>by cases h
 | x::xs,u::us,h,r=>.cons (r 0 x u rfl rfl) (jH (Nat.succ.inj h) fun i y v e1 e2=>r (i+1) y v e1 e2)
theorem qcN {k:Key}{v:Value} (h:jR k v=true):RelV (kV k) v:=by
 rcases qI h with ⟨i,t,rfl,rfl⟩|⟨x,t,rfl,rfl⟩
 · exact⟨t,rfl⟩
 · exact⟨t,rfl⟩
theorem qcf:∀ {kvs:List (Key×V)}{vs:List (Key×Value)},KV kvs vs->∀ {i:Nat}{k:Key}{x:Value},vs[i]?=some (k,x)->∃ y,kvs[i]?=some (k,y)∧RelV y x
 | _,_,.nil,i,k,x,e=>by cases e
 | _,_,.cons (a:=a) (b:=b) r t,i,k,x,e=>by
   cases i with
   | zero =>
     cases e;exact⟨a.2,by rw[List.getElem?_cons_zero];obtain⟨a1,a2⟩:=a;have:=r.1;simp at this;rw[this],r.2⟩
   | succ i=>exact qcf t e
theorem qau:∀ {kvs:List (Key×V)}{vs:List (Key×Value)},KV kvs vs->vs.length=kvs.length
 | _,_,.nil=>rfl
 | _,_,.cons _ t=>by rw[List.length_cons,List.length_cons,qau t]
section
variable {X:Cx}
def qb2:List V->Hp->VK->Prop:=fun xs H Q=>∃ a kvs,xs=[V.ref a]∧Rd H a (.dK kvs)∧∀ l,H l=none->Q (.ref l) (upd H l (.lst (kvs.map fun p=>kV p.1)))
theorem JC (hc:X.calm=true):QD X (.type "list") qb2:=by
 intro pins s σ H xs us Q I r h;obtain⟨a,kvs,rfl,hq,q⟩:=h;obtain⟨u,rfl,ru⟩:=QX r;cases ru;obtain⟨hz,hS,vs,rel,o,es,ep,e,x,d,k,p,n⟩:=qcU I.hok hq;have D:s.heap.DictAt (qA X.prog X.w) a vs ep:=⟨o,es,e,x,d,k,p,n⟩
 refine PySem.W.kdl_call (PySem.W.kdl_dict (knd:=qA X.prog X.w) (kvs:=vs) (ep:=ep) hS) (I.ok.hd hc) D (by rw[qau rel];exact hz) fun h' tk acc' c' kp e' it=>?_;obtain⟨al,ag⟩:=it
 have rv:Vals (kvs.map fun p=>kV p.1) acc'.toList:=by
   refine jH (by rw[Array.length_toList,al,List.length_map,qau rel]) fun i y v e1 e2=>?_;obtain⟨k',x',e3,e4⟩:=ag i v (by rw[← Array.getElem?_toList];exact e2);obtain⟨y',e5,_⟩:=qcf rel e3;rw[List.getElem?_map,e5]at e1;cases e1;exact qcN e4
 refine⟨.ref s.heap.objs.size,_,I.laid (t':=tk) kp (Nat.le_refl _) (show ObjOk X.prog X.w _ h' _ (.lst _) from ⟨by rw[List.length_map];exact hz,acc'.toList,c',rv,?_⟩),rfl,q _ (I.hok.fresh (Nat.le_refl _))⟩;rw[Array.toArray_toList];exact e'
end
theorem ZL:entryFor table "dict.update.loop"=some Builtin.«dict.update.loop»:=entryFor_of_tree (by kernel_rfl)
theorem zJ:plainId "dict.update.loop"=true:=by decide +kernel
theorem jl:typeLookup (.type "list") (Str.ofString "keys")=pure none:=am_miss_of_fast (by kernel_rfl)
section
variable {prog:Program}{w:World}{A:Around}{E:Value->Shared->Prop}{s:Shared}
theorem qcJ {l:Addr}{o:Obj}{xs:Array Value}{k:Nat}{Q:Option Value->Shared->Prop} (hx:s.heap.get? l=some o) (hc:o.cls=.type "list") (hdat:o.data=.seq xs k) (hd:o.dict=none) (hA:A.handled=none)
   (q:∀ h' tk,(∀ b ob,s.heap.get? b=some ob->h'.get? b=some ob)->Q none { s with heap:=h',toks:=tk }):wpAny (model prog w) A (getAttr? (.ref l) (Str.ofString "keys")) Q E s:=by
 obtain⟨c,dct,dat,sl⟩:=o;simp only at hc hdat hd;subst hc;subst hdat;subst hd;obtain⟨hp,g,d,tk,os⟩:=s;have f1:=sub_AttributeError;have f3:=F.slot_list_getattribute.lookup;have f4:=F.slot_list_getattribute.bind (Value.ref l);have f5:=am_list_getattr_none;have f6:=attrError_no_first;unfold getAttr? getAttrBy? getAttrBy getAttrByItsOwn hookBefore callGetattribute boundAndCalled;refine wpAny_bind (wpAny_mkText (wpAny_bind (wpAny_attempt (wpAny_holding (wpAny_bind (wpAny_typeOf (s:={ heap:=hp,gens:=g,drawn:=d,toks:=tk+1,os:=os }) (T:="list") ⟨_,hx,rfl⟩ (wpAny_bind (wpAny_of_eq f3 ?_))))))));rw[if_neg (by decide)];refine wpAny_bind ?_;rw[if_neg (by decide)];refine wpAny_pure (wpAny_bind (wpAny_attempt (wpAny_holding ?_)));show wpAny _ _ (bindSpecial (.builtin "list.__getattribute__") (.ref l) >>= _) _ _ _;refine wpAny_bind (wpAny_of_eq f4 ?_);refine call_meets F.slot_list_getattribute ⟨_,hx,rfl⟩ am_entry_list_getattribute (F.args_list_getattribute_2 (.ref l) (.str (Str.ofString "keys") tk)) (meets_getattribute_miss_list l xs k sl (Str.ofString "keys") tk jl (by decide +kernel) (by decide +kernel)) ⟨hx,hA,fun h' tk' e hx'=>?_⟩;obtain⟨kp,nw,t,u,he⟩:=hx';dsimp only;unfold getattributeRaised hookBehind;have hT:Shared.TypeIs { heap:=h',gens:=g,drawn:=d,toks:=tk',os:=os } (.ref e) "AttributeError":=⟨_,he,rfl⟩
 refine wpAny_bind (wpAny_isInstance hT f1 ?_);simp only[if_true];rw[if_neg (by decide)];refine wpAny_bind (wpAny_of_eq f5 ?_);unfold hookOrError attributeErrorLeaves;simp only[Bool.not_false,if_true];refine wpAny_bind (wpAny_throw ?_);refine wpAny_bind (wpAny_isInstance hT f1 ?_);simp only[if_true];exact wpAny_pure (q h' tk' kp)
end
section
variable {prog:Program}{w:World}{A:Around}{R:Result->Shared->Prop}{I:Addr}{fp wr:List Addr}{n:Nat}{P:Nat->Value->Prop}{St:Nat->Heap->Prop}
theorem qcT (W:Walks prog w A.in1 I fp wr n P St) (S:Addr) (nS:S∉fp) (vs:List (Key×Value)) (ln:vs.length=n) (hb:n≤sizeLine) (ts:Nat->Addr) (keys:Nat->Value)
   (hP:∀ i v,i < n->P i v->v=.ref (ts i)) (ok:∀ i k x,vs[i]?=some (k,x)->(qA prog w).is k (keys i)=true∧ts i≠S∧ts i∉wr) :
   ∀ (k i:Nat) (s:Shared),n - i=k->i≤n->St i s.heap->s.heap.DictOf (qA prog w) S (merged [] (vs.take i))->(∀ j kk x,vs[j]?=some (kk,x)->s.heap.IsTuple (ts j) #[keys j,x]) ->
     (∀ h' tk,(∀ b o,b≠S->b∉wr->s.heap.get? b=some o->h'.get? b=some o)->h'.DictOf (qA prog w) S (merged [] vs)->R (.ok (.ret .none)) { s with heap:=h',toks:=tk }) ->
     codeAny (model prog w) A (.builtin "dict.update.loop" ⟨[.ref S,.ref I,rawInt (i:Int),.none],[]⟩) R s:=by
 have wS:S∉wr:=fun z=>nS (W.sub _ z);intro k
 induction k with
 | zero =>
   intro i s k0 i0 st dS tu fin;have e:i=n:=by omega
   subst e;rw[← ln,List.take_length]at dS;refine codeAny_builtin ZL ?_;rw[Around.under_plainId zJ _];show wpAny _ A.in1 (pyNext (.ref I) >>= _) _ _ s;refine wpAny_bind (W.done s _ _ st fun h' tk mv=>?_)
   have dS':h'.DictOf (qA prog w) S (merged [] vs):=by
     obtain⟨o,es,ep,e,c⟩:=dS;exact⟨o,es,ep,mv _ _ wS e,c⟩
   show wpAny _ A.in1 (Builtin.Dict.addKeywords S [] >>= fun _=>ret Value.none) _ _ _;unfold Builtin.Dict.addKeywords;refine wpAny_bind (wpAny_bind (wpAny_pure (wpAny_pure ?_)));exact wpAny_pure (fin h' tk (fun b o _ nb e=>mv b o nb e) dS')
 | succ k ih =>
   intro i s k0 i0 st dS tu fin;have lt:i < n:=by omega
   obtain⟨⟨kk,x⟩,hv⟩:∃ p,vs[i]?=some p:=⟨_,List.getElem?_eq_getElem (by omega)⟩
   obtain⟨hk,n1,n2⟩:=ok i kk x hv;refine codeAny_builtin ZL ?_;rw[Around.under_plainId zJ _];show wpAny _ A.in1 (pyNext (.ref I) >>= _) _ _ s;refine wpAny_bind (W.item i s _ _ lt st fun v h' tk pv st' mv=>?_);have hvv:=hP i v lt pv;subst hvv
   have dS':h'.DictOf (qA prog w) S (merged [] (vs.take i)):=by
     obtain⟨o,es,ep,e,c⟩:=dS;exact⟨o,es,ep,mv _ _ wS e,c⟩
   have tu':∀ j kk x,vs[j]?=some (kk,x)->h'.IsTuple (ts j) #[keys j,x]:=fun j kk x e=>by
     obtain⟨o,e1,c⟩:=tu j kk x e;exact⟨o,mv _ _ (ok j kk x e).2.2 e1,c⟩
   obtain⟨ot,et,ct,nt,dt⟩:=tu' i kk x hv;have hT:Shared.TypeIs { s with heap:=h',toks:=tk } (.ref (ts i)) "tuple":=⟨_,et,ct⟩
   show wpAny _ A.in1 (holding [Value.ref (ts i)] _ >>= _) _ _ _;refine wpAny_bind (wpAny_holding (wpAny_bind (wpAny_tryCatch ?_)));unfold Builtin.Dict.pairItems;refine wpAny_bind (wpAny_typeOf hT ?_);rw[if_pos (by decide)];refine wpAny_bind (wpAny_seqItems (s:={ s with heap:=h',toks:=tk }) et dt (wpAny_pure ?_));show wpAny _ A.in1 (holding [keys i,x] (dictSet S (keys i) x)) _ _ _;refine wpAny_holding (wpAny_dictSet_pairs (s:={ s with heap:=h',toks:=tk }) hk dS' (fun h2 dS2 sb=>?_) ?_)
   · rw[← merged_take_succ [] vs i (kk,x) hv]at dS2;refine wpAny_pure ⟨plainId_quiet zJ _,?_⟩;refine ih (i+1) _ (by omega) lt (W.frame _ h' _ st' fun b mb o e=>?_) dS2 (fun j k2 x2 e=>?_) fun h3 tk3 mv3 dS3=>?_
     · rw[sb.2 b (fun z:b=S=>nS (by rw[← z];exact mb))];exact e
     · obtain⟨o,e1,c⟩:=tu' j k2 x2 e;exact⟨o,by rw[sb.2 _ (ok j k2 x2 e).2.1];exact e1,c⟩
     · refine fin h3 tk3 (fun b o b1 b2 e=>mv3 b o b1 b2 ?_) dS3;rw[sb.2 b b1];exact mv b o b2 e
   · have:=merged_length_le ([]:List (Key×Value)) (vs.take i)
     rw[List.length_take]at this;simp at this;omega
end
section
variable {prog:Program}{w:World}{A:Around}{E:Value->Shared->Prop}{s:Shared}
theorem qbI {l:Addr}{o:Obj}{items:Array Value}{nl:Nat}{vs:List (Key×Value)}{ts:Nat->Addr}{keys:Nat->Value}{Q:Value->Shared->Prop} (hh:A.handled=none) (hl:s.heap.get? l=some o) (hc:o.cls=.type "list") (hdat:o.data=.seq items nl) (hd:o.dict=none)
   (ln:vs.length=items.size) (hb:items.size≤sizeLine) (hI:∀ (i:Nat) v,items[i]?=some v->v=.ref (ts i)) (ok:∀ i k x,vs[i]?=some (k,x)->(qA prog w).is k (keys i)=true∧s.heap.IsTuple (ts i) #[keys i,x])
   (fin:∀ h' tk,(∀ b o,s.heap.get? b=some o->h'.get? b=some o)->h'.DictOf (qA prog w) s.heap.objs.size (merged [] vs)->Q (.ref s.heap.objs.size) { s with heap:=h',toks:=tk }) :
   wpAny (model prog w) A (call (.type "dict") [.ref l]) Q E s:=by
 refine callType_codes F.kt_called_dict (F.kt_typeCall_dict_1 (.ref l)) F.entry_dict_init (kt_code_dict_new (Q₁:=fun obj s₁=>obj=.ref s.heap.objs.size∧s₁={ s with heap:=s.heap.push { cls:=.type "dict",data:=.dict #[] } }) (.ref l) ⟨rfl,rfl⟩) fun obj s₁ a=>?_;obtain⟨rfl,rfl⟩:=a;have hnew:=Heap.DictOf.new (knd:=qA prog w) s.heap;refine⟨hnew.typeIs,F.args_dict_init_2 _ _,?_⟩;have hl':(s.heap.push { cls:=.type "dict",data:=.dict #[] }).get? l=some o:=Heap.get?_push_of_some _ hl;unfold Builtin.«dict.__init__» Builtin.Dict.selfAndRest;refine wpAny_bind ?_;show wpAny _ _ (_ >>= _) _ _ _;refine wpAny_bind (wpAny_notOrdered_dict hnew.typeIs ?_);show wpAny _ _ (pure (s.heap.objs.size,[Value.ref l])) _ _ _;refine wpAny_pure ?_;show wpAny _ _ (Builtin.Dict.updateFrom "dict.__init__" s.heap.objs.size (.ref l) [] .none) _ _ _;unfold Builtin.Dict.updateFrom;have hT:Shared.TypeIs { s with heap:=s.heap.push { cls:=.type "dict",data:=.dict #[] } } (.ref l) "list":=⟨o,hl',hc⟩
 refine wpAny_bind (wpAny_typeOf hT ?_);rw[if_pos (by decide)];refine wpAny_bind (qcJ (s:={ s with heap:=s.heap.push { cls:=.type "dict",data:=.dict #[] } }) hl' hc hdat hd (by simp[hh]) fun h1 tk1 kp=>?_);simp only[Option.isNone_none,if_true];have hlt:=Heap.lt_size hl;have hl1:h1.get? l=some o:=kp _ _ hl';have hL1:h1.IsList l items:=⟨o,hl1,hc,nl,hdat⟩
 refine wpAny_bind (wpAny_rule (wpAny_bind (wpAny_pyIter_list (s:={ s with heap:=h1,toks:=tk1 }) hL1 (wpAny_pure ⟨plainId_quiet zJ _,?_⟩))))
 have hS1:h1.DictOf (qA prog w) s.heap.objs.size []:=by
   obtain⟨ob,es,ep,e,c⟩:=hnew;exact⟨ob,es,ep,kp _ _ e,c⟩
 have hSlt:s.heap.objs.size < h1.objs.size:=by
   obtain⟨ob,es,ep,e,c⟩:=hS1;exact Heap.lt_size e
 have hl1t:l < h1.objs.size:=Heap.lt_size hl1;have hh3:A.in1.in1.handled=none:=by simp[hh]
 have nS:s.heap.objs.size∉[h1.objs.size,l]:=by
   simp only[List.mem_cons,List.mem_singleton,List.not_mem_nil,or_false,not_or];exact⟨Nat.ne_of_lt hSlt,Nat.ne_of_gt hlt⟩
 refine qcT (Walks.list hh3 h1.objs.size l (Nat.ne_of_lt hl1t) items) s.heap.objs.size nS vs ln hb ts keys (fun i v _ e=>hI i v e) (fun i k x e=>?_) (items.size - 0) 0 _ (by omega) (Nat.zero_le _) ⟨⟨_,Heap.get?_push_size _ rfl,rfl,rfl⟩,hL1.push _⟩ ?_ (fun j kk x e=>?_) fun h' tk mv dS=>?_
 · obtain⟨k1,ot,et,c⟩:=ok i k x e;have h2:=Heap.lt_size et;have h3:=Heap.lt_size (kp _ _ (Heap.get?_push_of_some _ et));exact⟨k1,Nat.ne_of_lt h2,by simp only[List.mem_singleton];exact Nat.ne_of_lt h3⟩
 · obtain⟨ob,es,ep,e,c⟩:=hS1;exact⟨ob,es,ep,Heap.get?_push_of_some _ e,c⟩
 · obtain⟨k1,ot,et,c⟩:=ok j kk x e;exact⟨ot,Heap.get?_push_of_some _ (kp _ _ (Heap.get?_push_of_some _ et)),c⟩
 · refine⟨rfl,fin h' tk (fun b ob e=>?_) dS⟩;have h2:=Heap.lt_size e;have e1:=kp _ _ (Heap.get?_push_of_some { cls:=.type "dict",data:=.dict #[] } e);exact mv b ob (Nat.ne_of_lt h2) (by simp only[List.mem_singleton];exact Nat.ne_of_lt (Heap.lt_size e1)) (Heap.get?_push_of_some _ e1)
end
section
inductive Prs (K:Frag) (H:Hp):List V->List (Key×V)->Prop
 | nil:Prs K H [] []
 | cons {t:Addr}{k:Key}{v:V}{zs:List V}{kvs:List (Key×V)} (h:SqT K H t [kV k,v]) (r:Prs K H zs kvs):Prs K H (.ref t::zs) ((k,v)::kvs)
theorem Prs.len {K:Frag}{H:Hp}{zs:List V}{kvs:List (Key×V)} (r:Prs K H zs kvs):zs.length=kvs.length:=by
 induction r with
 | nil=>rfl
 | cons _ _ ih=>rw[List.length_cons,List.length_cons,ih]
variable {X:Cx}{pins:List (Addr×Obj)}{σ:St}{H:Hp}{s:Shared}
theorem qbi (I:Inv X pins σ H s):∀ {zs:List V}{kvs:List (Key×V)}{its:List Value},Prs X.K H zs kvs->Vals zs its->∃ (vs:List (Key×Value)) (tk:List (Addr×Value)),KV kvs vs∧vs.length=its.length∧tk.length=its.length ∧
   (∀ (j:Nat) (a:Addr×Value),tk[j]?=some a->its[j]?=some (.ref a.1))∧∀ (j:Nat) (k:Key) (x:Value) (a:Addr×Value),vs[j]?=some (k,x)->tk[j]?=some a->(qA X.prog X.w).is k a.2=true∧s.heap.IsTuple a.1 #[a.2,x]:=by
 intro zs kvs its r
 induction r generalizing its with
 | nil =>
   intro v;cases v;exact⟨[],[],.nil,rfl,rfl,(fun j a e=>by cases e),fun j k x a e=>by cases e⟩
 | @cons t k v zs kvs h r ih =>
   intro hv
   cases hv with
   | @cons _ u _ us r1 hv =>
     cases (show u=Value.ref t from r1);obtain⟨vs,tk,c,l1,l2,q1,q2⟩:=ih hv;obtain⟨ts,tv,it,_⟩:=I.tuple h
     cases tv with
     | @cons _ key _ us2 rk tv =>
       cases tv with
       | @cons _ x _ us3 rx tv =>
         cases tv;refine⟨(k,x)::vs,(t,key)::tk,.cons ⟨rfl,rx⟩ c,by rw[List.length_cons,List.length_cons,l1],by rw[List.length_cons,List.length_cons,l2],fun j a e=>?_,fun j k' x' a e1 e2=>?_⟩
         · cases j with
           | zero=>cases e;rfl
           | succ j=>exact q1 j a e
         · cases j with
           | zero=>cases e1;cases e2;exact⟨qbx rk,it⟩
           | succ j=>exact q2 j k' x' a e1 e2
def qb7 (K:Frag):List V->Hp->VK->Prop:=fun xs H Q=>∃ (l:Addr) (zs:List V) (kvs:List (Key×V)),xs=[V.ref l]∧SqL K H l zs∧Prs K H zs kvs∧(kvs.map (·.1)).Nodup∧∀ d,H d=none->Q (.ref d) (upd H d (.dK kvs))
theorem JE (hc:X.calm=true):QD X (.type "dict") (qb7 X.K):=by
 intro pins s σ H xs us Q I r h;obtain⟨l,zs,kvs,rfl,hl,pr,nd,q⟩:=h;obtain⟨u,rfl,ru⟩:=QX r;cases ru;obtain⟨its,rv,⟨o,nl,e1,e2,e3,e4⟩,hz⟩:=I.list hl;obtain⟨vs,tk,kv,l1,l2,q1,q2⟩:=qbi I pr rv;have hlen:=rv.length;have gd:∀ j,j < its.length->∃ a,tk[j]?=some a:=fun j hj=>⟨_,List.getElem?_eq_getElem (by omega)⟩
 have ek:vs.map (·.1)=kvs.map (·.1):=by
   clear q1 q2 l1 nd q pr
   induction kv with
   | nil=>rfl
   | cons h _ ih =>
     rw[List.map_cons,List.map_cons,ih,h.1]
 refine qbI (ts:=fun j=>(tk.getD j (0,.none)).1) (keys:=fun j=>(tk.getD j (0,.none)).2) (vs:=vs) (I.ok.hd hc) e1 e2 e4 e3 (by rw[l1,List.size_toArray]) (by rw[List.size_toArray];omega) (fun j v e=>?_) (fun j k x e=>?_) fun h' tk' kp dS=>?_
 · have e:its[j]?=some v:=by simpa using e
   obtain⟨a,ha⟩:=gd j (List.getElem?_eq_some_iff.mp e).1
   have:=q1 j a ha
   rw[List.getD_eq_getElem?_getD,ha];rw[this]at e;cases e;rfl
 · obtain⟨a,ha⟩:=gd j (by rw[← l1];exact(List.getElem?_eq_some_iff.mp e).1)
   have:=q2 j k x a e ha
   simp only[List.getD_eq_getElem?_getD,ha];exact this
 · rw[merged_nil_of_nodup vs (by rw[ek];exact nd)]at dS;refine⟨.ref s.heap.objs.size,_,I.laid (t':=tk') kp (Nat.le_refl _) (show ObjOk X.prog X.w _ h' _ (.dK kvs) from ⟨by rw[← pr.len];exact hz,?_,vs,kv,dS⟩),rfl,q _ (I.hok.fresh (Nat.le_refl _))⟩
   have:=I.big
   exact beq_eq_false_iff_ne.mpr (Nat.ne_of_gt this)
end
end L2
namespace L2
open PySem PySem.Spec PyProof.Rows
open PySem.W (Frag tabObj kla_obj codeHdIn envX)
def JK (mg:Str->Option Value) (base:Heap):Prop:=∃ bm o,mg "__builtins__"=some (.ref bm)∧bm≠builtinsNs∧base.get? bm=some o∧o.cls=.type "module"∧o.dict=some builtinsNs∧o.data=.plain
def qc1 (ts:List Addr) (H:Hp):Prop:=∀ b,H b=none∨(∃ o xs,H b=some (.frz o (.lst xs)))∨(b∈ts∧H b=some (.tbl #[]))
theorem qat {P:Program}{w:World}{K:Frag}{mg mb:Str->Option Value}{CX:CXT}{k:Nat}{fa a:Addr}{fd:FuncData}{x:Str}{sp:Sp}{s₁:Shared}{vs:List Value}{ns:List Int}{ts:List Addr}
   (KX:K.In s₁.heap) (hns:s₁.heap.Ns mainGlobals mg) (hb:s₁.heap.Ns builtinsNs mb) (hbb:∀ x:Str,x≠"__name__"->mb x=bootBuiltins x) (hlim:s₁.heap.NoLimit) (hg:s₁.gens=#[])
   (ht:∀ t∈ts,s₁.heap.get? t=some (tabObj #[])) (hc:∀ t∈ts,isCodeTable s₁.heap t) (hk:∀ t∈ts,K.lookup t=none)
   (hB:JK mg s₁.heap) (ha:s₁.heap.get? a=some { cls:=.type "list",data:=.seq vs.toArray }) (hi:IntsAre vs ns) (hl:ns.length≤sizeLine) (hr:Room k callerA)
   (F:∀ base:Heap,K.In base->base.Ns mainGlobals mg->JK mg base->FnOk P w K mg base CX k fa fd [x] sp) (hbind:∀ (s:Shared) (u:Value),BindsTo s fd ⟨[u],[]⟩ [(x,u)])
   (hsp:∀ H:Hp,qc1 ts H->(∀ t∈ts,H t=some (.tbl #[]))->SqL K H a (ns.map V.int)->sp [.ref a] H (fun v _=>v=.bl true) fun _ _ _=>False)
   (hCX:∀ H e s',CX [] H s₁ (fun _ _ _=>False) e s'->False) :
   codeAny (model P w) callerA (.call (.ref fa) ⟨[.ref a],[]⟩) (fun r s'=>r=.ok (.ret (.bool true))∧OldK s₁.heap s'.heap∧s'.os=s₁.os∧AllBare s'.gens) s₁:=by
 have rv:=ja hi;have lenV:=hi.length
 have nat:a∉ts:=fun m=>by
   have:=ht a m
   rw[ha]at this;cases this
 have core:∀ H:Hp,qc1 ts H->(∀ t∈ts,H t=some (.tbl #[]))->SqL K H a (ns.map V.int)->HOk P w H s₁.heap->(∀ b,H b≠none->b=a∨b∈ts)->(H a≠none->K.lookup a=none) ->
     codeAny (model P w) callerA (.call (.ref fa) ⟨[.ref a],[]⟩) (fun r s'=>r=.ok (.ret (.bool true))∧OldK s₁.heap s'.heap∧s'.os=s₁.os∧AllBare s'.gens) s₁:=by
   intro H hO hT hS hok hA hK;have base_of:∀ {b:Addr}{o:Obj},s₁.heap.get? b=some o->H b=none->(qa2 s₁.heap H).get? b=some o:=fun e n=>qbz e n
   have noA:∀ {b:Addr}{o:Obj}{es:Array DictEntry}{ep:Nat},s₁.heap.get? b=some o->o.data=.dict es ep->H b=none:=fun {b o es ep} e d=>by
     cases q:H b with
     | none=>rfl
     | some u =>
       rcases hA b (by rw[q];simp) with rfl|m
       · rw[ha]at e;cases e;cases d
       · rw[ht b m]at e;cases e;cases d
   have nsK:∀ {b:Addr}{m:Str->Option Value},s₁.heap.Ns b m->(qa2 s₁.heap H).Ns b m:=fun {b m} ⟨o,es,ep,e,d,r⟩=>⟨o,es,ep,base_of e (noA e d),d,r⟩
   have hKb:K.In (qa2 s₁.heap H):=fun b o e=>base_of (KX b o e) (by
     cases q:H b with
     | none=>rfl
     | some u =>
       rcases hA b (by rw[q];simp) with z|m
       · subst z;rw[hK (by rw[q];simp)]at e;cases e
       · rw[hk b m]at e;cases e)
   have hBb:JK mg (qa2 s₁.heap H):=by
     obtain⟨bm,o,b1,b2,b3,b4,b5,b6⟩:=hB;refine⟨bm,o,b1,b2,base_of b3 ?_,b4,b5,b6⟩
     cases q:H bm with
     | none=>rfl
     | some u =>
       rcases hA bm (by rw[q];simp) with z|m
       · rw[z,ha]at b3;cases b3;cases b6
       · rw[ht bm m]at b3;cases b3;cases b6
   have hM:Mod K mg (qa2 s₁.heap H):=⟨hKb,nsK hns,⟨mb,nsK hb,hbb⟩,let ⟨mc,h1,h2⟩:=hlim;⟨mc,nsK h1,h2⟩⟩
   have e0:Env0 P w K mg (qa2 s₁.heap H) callerA [] s₁ H:=⟨rfl,hM,fun b o e=>qcG e,Nat.le_of_eq (qaD _ _),trivial,fun b hb=>absurd (show b∈([]:List Addr) from hb) (by simp),hok,.of_eq hg⟩
   refine codeAny_mono ((F _ hKb (nsK hns) hBb).run callerA [] s₁ H ⟨[.ref a],[]⟩ [.ref a] [.ref a] _ _ hr e0 (hbind s₁ (.ref a)) (.cons rfl .nil) (hsp H hO hT hS)) fun r s' h=>?_
   cases r with
   | error e=>exact(hCX H e s' h).elim
   | ok fl =>
     cases fl with
     | next=>exact False.elim h
     | brk=>exact False.elim h
     | cont=>exact False.elim h
     | ret u =>
       obtain⟨v,H',os,bare,un,hok',r',q⟩:=h;have q':v=.bl true:=q;subst q';obtain rfl:u=Value.bool true:=r'
       have grown:∀ t∈ts,∃ more,s'.heap.get? t=some (tabObj more):=fun t m=>by
         obtain⟨more,z⟩:=un.tbls t #[] (hT t m);exact⟨_,(show ObjOk P w H' s'.heap t (.tbl (#[]++more)) from hok' t _ z)⟩
       have keep:∀ b o,b∉ts->s₁.heap.get? b=some o->s'.heap.get? b=some o:=fun b o nm e=>by
         rcases hO b with z|⟨ob,xs,z⟩|⟨m,_⟩
         · exact un.keep b o e z (by intro z;exact absurd (show b∈([]:List Addr) from z) (by simp)) (by simp)
         · have z2:=un.frzs b ob _ z;obtain⟨e1,_⟩:=hok b _ z;obtain⟨e2,_⟩:=hok' b _ z2;rw[e]at e1;cases e1;exact e2
         · exact absurd m nm
       refine⟨rfl,⟨fun b o e=>?_,fun b o e=>?_⟩,os,bare⟩
       · by_cases m:b∈ts
         · obtain⟨ps,g⟩:=grown b m;have e':=ht b m;rw[e]at e';cases e';exact .inr (.inl ⟨hc b m,rfl,#[],ps,rfl,by rw[Array.empty_append];exact g⟩)
         · exact .inl (keep b o m e)
       · by_cases m:b∈ts
         · obtain⟨ps,g⟩:=grown b m;exact⟨_,g⟩
         · exact⟨o,keep b o m e⟩
 cases hka:K.lookup a with
 | some o =>
   have e:=KX a o hka;rw[ha]at e;cases e;refine core (fun b=>if b∈ts then some (.tbl #[]) else none) (fun b=>?_) (fun t m=>if_pos m) (.inr ⟨_,vs.toArray,_,hka,rfl,rfl,rfl,by rw[List.size_toArray,lenV];exact hl,by simpa using rv⟩) (fun b u z=>?_) (fun b z=>?_) fun z=>absurd (if_neg nat) z
   · by_cases m:b∈ts
     · exact .inr (.inr ⟨m,if_pos m⟩)
     · exact .inl (if_neg m)
   · by_cases m:b∈ts
     · have z':=(if_pos m).symm.trans z;cases z';exact ht b m
     · have z':=(if_neg m).symm.trans z;cases z'
   · by_cases m:b∈ts
     · exact .inr m
     · exact absurd (if_neg m) z
 | none =>
   refine core (fun b=>if b=a then some (.frz { cls:=.type "list",data:=.seq vs.toArray } (.lst (ns.map V.int))) else if b∈ts then some (.tbl #[]) else none) (fun b=>?_) (fun t m=>?_) (.inl (.inr ⟨{ cls:=.type "list",data:=.seq vs.toArray },if_pos rfl⟩)) (fun b u z=>?_) (fun b z=>?_) fun _=>hka
   · by_cases hb:b=a
     · exact .inr (.inl ⟨_,_,if_pos hb⟩)
     · by_cases m:b∈ts
       · exact .inr (.inr ⟨m,(if_neg hb).trans (if_pos m)⟩)
       · exact .inl ((if_neg hb).trans (if_neg m))
   · have hb:t≠a:=fun z=>nat (z▸m);exact(if_neg hb).trans (if_pos m)
   · by_cases hb:b=a
     · have z':=(if_pos hb).symm.trans z;cases z';subst hb;exact⟨ha,by rw[List.length_map];exact hl,vs,_,rv,ha⟩
     · by_cases m:b∈ts
       · have z':=((if_neg hb).trans (if_pos m)).symm.trans z;cases z';exact ht b m
       · have z':=((if_neg hb).trans (if_neg m)).symm.trans z;cases z'
   · by_cases hb:b=a
     · exact .inl hb
     · by_cases m:b∈ts
       · exact .inr m
       · exact absurd ((if_neg hb).trans (if_neg m)) z
theorem walk_ofT {l:PySem.W.OpenLaw}{n k:Nat}{q:Program}{loose:List Str}{XP:(Str->Option Value)->Heap->Prop}{YP:World->Heap->Prop}{d:DefRec}{K:Params->Frag}{CX:World->CXT}{sp:World->Sp}{x:Str}{ts:List Addr}
   (hn:l.most=some n) (hn2:n≤sizeLine) (hdf:d.params.defaults=[]) (hr:Room k callerA)
   (hY:∀ (w:World) (h:Heap),YP w h->(K w.params).In h∧(∀ t∈ts,h.get? t=some (tabObj #[]))∧(∀ t∈ts,isCodeTable h t)∧∀ t∈ts,(K w.params).lookup t=none)
   (F:∀ (w:World) (mg:Str->Option Value) (fa:Addr) (h:Heap),(K w.params).In h->h.Ns mainGlobals mg->mg d.name=some (.ref fa) ->
     ∃ fd:FuncData,(∀ (s:Shared) (u:Value),BindsTo s fd ⟨[u],[]⟩ [(x,u)]) ∧
       ∀ base:Heap,(K w.params).In base->base.Ns mainGlobals mg->JK mg base->FnOk l.prog w (K w.params) mg base (CX w) k fa fd [x] (sp w))
   (hsp:∀ (w:World) (H:Hp) (a:Addr) (ns:List Int),ns.length≤n->qc1 ts H->(∀ t∈ts,H t=some (.tbl #[]))->SqL (K w.params) H a (ns.map V.int)->sp w [.ref a] H (fun v _=>v=.bl true) fun _ _ _=>False)
   (hCX:∀ (w:World) (H:Hp) (s:Shared) (e:Value) (s':Shared),CX w [] H s (fun _ _ _=>False) e s'->False) :
   PySem.W.WalkO q loose XP YP l.row.toRowW d [] (fun f vs=>PySem.call f vs):=by
 refine Att.attach_call hn hdf fun w s₀ s₁ mg mb fa o pm cd doc a vs ns G Y ho hd hcd hmg hobj hints hlen hg=>?_;obtain⟨KX,h1,h2,h3⟩:=hY w _ Y;obtain⟨fd,hb,hF⟩:=F w mg fa _ KX G.T.g hmg;exact qat KX G.T.g G.T.b G.T.builtins G.T.nolimit hg h1 h2 h3 (let ⟨bm,ob,b1,b2,b3,b4,b5,b6⟩:=G.T.bmain;⟨bm,ob,b1,b2,b3,b4,b5,b6⟩) hobj hints (Nat.le_trans hlen hn2) hr hF hb (fun H hO hT hS=>hsp w H a ns hlen hO hT hS) fun H e s'=>hCX w H s₁ e s'
def Z9 (c:Addr) (q:Str):Heap->Prop:=fun h=>h.CodeRec (.ref c) q
def qbQ (f:Addr) (o:Obj):Heap->Prop:=fun h=>h.get? f=some o
section
variable {P:Program}{w:World}{H:Hp}{h:Heap}{c f:Addr}{q:Str}{o:Obj}
theorem qbK (x:Z9 c q h):ObjOk P w H h c (.ext (Z9 c q)):=by
 obtain⟨c',o,vs,t,e,g,r⟩:=id x;cases e;exact⟨x,⟨o,g⟩,fun h1 h2 ⟨c',o',vs',t',e',g',r'⟩ k=>by cases e';exact⟨c,o',vs',t',rfl,k _ g',r'⟩⟩
theorem qap (x:qbQ f o h):ObjOk P w H h f (.ext (qbQ f o)):=⟨x,⟨o,x⟩,fun _ _ e k=>k _ e⟩
end
def qbP (H:Hp) (T:Addr) (pos:Pos) (q:Str):Prop :=
 ∃ ps,H T=some (.tbl ps)∧TriplesOk ps.toList∧(codeAmong pos ps.toList=none∨∃ c,codeAmong pos ps.toList=some (.ref c)∧H c=some (.ext (Z9 c q)))
theorem QE {i j:Int}{a b:Tok}{c:Value}:∀ {l:List Value},TriplesOk l->TriplesOk (l++[.int i a,.int j b,c])
 | [],_=>True.intro
 | .int _ _::.int _ _::_::r,h=>QE (l:=r) h
section
variable {X:Cx}{pins:List (Addr×Obj)}{σ:St}{H:Hp}{s:Shared}{h':Heap}
theorem Inv.lam {T c':Addr}{ps:Array Value}{more:Array Value}{q:Str}{t':Nat} (I:Inv X pins σ H s) (hT:H T=some (.tbl ps)) (hx:Heap.ExtBut T s.heap h') (c0:s.heap.objs.size≤c') (c1:c' < h'.objs.size) (hr:h'.CodeRec (.ref c') q)
   (ht:h'.get? T=some (tabObj (ps++more))) (fo:Obj) (hfo:fo.isFreed=false) :
   Inv X pins σ (upd (upd (upd H T (.tbl (ps++more))) c' (.ext (Z9 c' q))) h'.objs.size (.ext (qbQ h'.objs.size fo))) { s with heap:=h'.push fo,toks:=t' }:=by
 have Tlt:T < s.heap.objs.size:=I.hok.lt hT;have nTc:T≠c':=Nat.ne_of_lt (Nat.lt_of_lt_of_le Tlt c0);have Tf:T < h'.objs.size:=Heap.lt_size ht;have nTf:T≠h'.objs.size:=Nat.ne_of_lt Tf;have ncf:c'≠h'.objs.size:=Nat.ne_of_lt c1;have hcn:H c'=none:=I.hok.fresh c0;have sle:s.heap.objs.size≤h'.objs.size:=Nat.le_trans c0 (Nat.le_of_lt c1);have hfn:H h'.objs.size=none:=I.hok.fresh sle;have oth:∀ b,b≠T->b≠c'->b≠h'.objs.size->upd (upd (upd H T (.tbl (ps++more))) c' (.ext (Z9 c' q))) h'.objs.size (.ext (qbQ h'.objs.size fo)) b=H b:=fun b n1 n2 n3=>by rw[qf n3,qf n2,qf n1]
 have kp:∀ b o,b≠T->s.heap.get? b=some o->(h'.push fo).get? b=some o:=fun b o n e=>Heap.get?_push_of_some _ (hx b o n e);have nT:∀ {b u},H b=some u->u≠.tbl ps->b≠T:=fun e n z=>by rw[z,hT]at e;exact n (Option.some.inj e).symm
 have nc:∀ {b u},H b=some u->b≠c':=fun e z=>by rw[z,hcn]at e;cases e
 have nf:∀ {b u},H b=some u->b≠h'.objs.size:=fun e z=>by rw[z,hfn]at e;cases e
 have same:∀ {b u},H b=some u->u≠.tbl ps->upd (upd (upd H T (.tbl (ps++more))) c' (.ext (Z9 c' q))) h'.objs.size (.ext (qbQ h'.objs.size fo)) b=some u:=fun e n=>by rw[oth _ (nT e n) (nc e) (nf e)];exact e
 refine I.un ⟨fun b o e n _ _=>kp b o (fun z=>by rw[z,hT]at n;cases n) e,fun b o e n _ _=>⟨o.slots,kp b o (fun z=>by rw[z,hT]at n;cases n) e⟩,fun b o e n _=>?_,fun b o e _=>?_,fun b xs e=>same e (by intro z;cases z),fun b o u e=>same e (by intro z;cases z),fun b qs e=>?_⟩ fun b u e=>?_
 · have lt:=Heap.lt_size e;rw[oth b (fun z=>by rw[z,hT]at n;cases n) (Nat.ne_of_lt (Nat.lt_of_lt_of_le lt c0)) (Nat.ne_of_lt (Nat.lt_of_lt_of_le lt sle))];exact n
 · by_cases z:b=T
   · subst z;exact⟨_,Heap.get?_push_of_some _ ht⟩
   · exact⟨o,kp b o z e⟩
 · by_cases z:b=T
   · subst z;rw[hT]at e;cases e;exact⟨more,by rw[qf nTf,qf nTc,upd_same]⟩
   · rw[oth b z (nc e) (nf e)];exact⟨#[],by rw[e];simp⟩
 · by_cases z3:b=h'.objs.size
   · subst z3;rw[upd_same]at e;cases e;exact qap (Heap.get?_push_size _ hfo)
   · rw[qf z3]at e;by_cases z2:b=c'
     · subst z2;rw[upd_same]at e;cases e;exact qbK (hr.push fo)
     · rw[qf z2]at e;by_cases z1:b=T
       · subst z1;rw[upd_same]at e;cases e;exact Heap.get?_push_of_some _ ht
       · rw[qf z1]at e;refine(I.hok b u e).stay (fun c v hc g=>kp c v (fun z=>?_) g) (fun c r=>same r (by intro z;cases z)) fun c xs r=>same r (by intro z;cases z);rcases hc with hc|hc
         · exact z1 (hc▸z)
         · rw[z,hT]at hc;cases hc
def qdS (X:Cx) (params:Arguments) (body:Expr) (scope:Scope) (c:Addr) (o:Obj):Prop :=
 ∃ pm ctv,o=kla_obj "<lambda>" (X.env.qual++"<lambda>") params body scope (zc X.env.cells scope.names []) pm c ctv
def qew (X:Cx) (T:Addr) (pos:Pos) (params:Arguments) (body:Expr) (scope:Scope):TE:=fun σ H Q=>qbP H T pos (X.env.qual++"<lambda>") ∧
 ∀ (f c:Addr) (o:Obj) (H':Hp),H f=none->f≠T->But T H H'->qbP H' T pos (X.env.qual++"<lambda>")->H' f=some (.ext (qbQ f o))->H' c=some (.ext (Z9 c (X.env.qual++"<lambda>")))->qdS X params body scope c o->Q (.ref f) H'
theorem qdq {params:Arguments}{body:Expr}{scope:Scope}{pos:Pos}{c T:Addr} (hdef:defaultsOf params X.env=([],[])) (hfree:∀ y∈scope.names,y.2=.free->∃ c,X.env.cells.lookup y.1=some c) (hcode:X.env.code=.ref c)
   (hcd:codeHdIn X.K c T=true) (hbm:JK X.mg X.base):PE X (.Lambda params body scope pos) (qew X T pos params body scope):=by
 intro pins s σ H Q I h;obtain⟨⟨ps,hT,tr,hc⟩,h⟩:=h;have tb:s.heap.get? T=some (tabObj ps):=(show ObjOk X.prog X.w H s.heap T (.tbl ps) from I.hok T _ hT)
 have hg:s.heap.Ns mainGlobals X.mg:=I.mod.glob.keeps I.bk;have CH:=PySem.W.codeHd_of_K I.kIn hcd;obtain⟨bm,ob,b1,b2,b4,b5,b6,b7⟩:=hbm;have hbo:=I.bk bm ob b4
 have b3:bm≠mainGlobals:=fun z=>by
   obtain⟨o,es,ep,e,d,_⟩:=hg;rw[← z,hbo]at e;cases e;rw[b7]at d;cases d
 have nbT:bm≠T:=fun z=>by rw[z,tb]at hbo;cases hbo;cases b5
 have ngT:mainGlobals≠T:=fun z=>by
   obtain⟨o,es,ep,e,d,_⟩:=hg;rw[z,tb]at e;cases e;cases d
 have BA:s.heap.BuiltinsAt X.mg T:=⟨bm,ob,b1,b2,b3,nbT,hbo,b5,b6,b7⟩
 refine PySem.W.kla_eval hdef ?_;rcases hc with hn|⟨c',hc,hc'⟩
 · refine PySem.W.kla_makeFunction (clos:=zc X.env.cells scope.names []) (QA hfree) I.ok.glob hg hcode CH tb tr hn ngT BA fun c' ctv h' tk hx hge hlt hrec htb=>?_;have Tlt:T < s.heap.objs.size:=I.hok.lt hT;have hfn:H h'.objs.size=none:=I.hok.fresh (Nat.le_trans hge (Nat.le_of_lt hlt));have hcn:H c'=none:=I.hok.fresh hge;have ncf:c'≠h'.objs.size:=Nat.ne_of_lt hlt;have nTf:T≠h'.objs.size:=Nat.ne_of_lt (Nat.lt_of_lt_of_le Tlt (Nat.le_trans hge (Nat.le_of_lt hlt)));have nTc:T≠c':=Nat.ne_of_lt (Nat.lt_of_lt_of_le Tlt hge);have J:=I.lam (t':=tk) hT hx hge hlt hrec htb (kla_obj "<lambda>" (X.env.qual++"<lambda>") params body scope (zc X.env.cells scope.names []) ((X.mg "__name__").getD .none) c' ctv) rfl;refine⟨.ref h'.objs.size,_,J,rfl,h _ c' _ _ hfn (Ne.symm nTf) (fun b o e n=>?_) ⟨_,by rw[qf nTf,qf nTc,upd_same],?_,.inr ⟨c',?_,by rw[qf ncf,upd_same]⟩⟩ upd_same (by rw[qf ncf,upd_same]) ⟨_,_,rfl⟩⟩
   · rw[qf (qd e hfn),qf (qd e hcn),qf n];exact e
   · rw[Array.toList_append];exact QE tr
   · rw[Array.toList_append];exact codeAmong_snoc _ tr hn
 · refine PySem.W.kla_makeFunctionHit (clos:=zc X.env.cells scope.names []) (QA hfree) I.ok.glob hg hcode CH tb tr hc BA fun ctv h' tk hk hsz=>?_;have hfn:H h'.objs.size=none:=I.hok.fresh hsz;have S:=Same.new (.ext (qbQ h'.objs.size (kla_obj "<lambda>" (X.env.qual++"<lambda>") params body scope (zc X.env.cells scope.names []) ((X.mg "__name__").getD .none) c' ctv))) hfn;refine⟨.ref h'.objs.size,_,I.laid (t':=tk) (fun b o e=>Heap.get?_push_of_some _ (hk b o e)) hsz (qap (Heap.get?_push_size _ rfl)),rfl,h _ c' _ _ hfn (qd hT hfn).symm (fun b o e _=>S b o e) ⟨ps,S _ _ hT,tr,.inr ⟨c',hc,S _ _ hc'⟩⟩ upd_same (S _ _ hc') ⟨_,_,rfl⟩⟩
end
section
variable {X:Cx}{pins:List (Addr×Obj)}{σ:List (Option V)}{H:Hp}{s:Shared}{h':Heap}
theorem Inv.keptL {t':Nat} (I:Inv X pins σ H s) (k:∀ b u,b≠X.env.locals->s.heap.get? b=some u->h'.get? b=some u) (ns:∀ m,s.heap.Ns X.env.locals m->h'.Ns X.env.locals m) :
   Inv X pins σ H { s with heap:=h',toks:=t' }:=by
 have nL:∀ b u,H b=some u->b≠X.env.locals:=fun b u e z=>by rw[z,I.free]at e;cases e
 refine I.step (g':=s.gens) (d':=s.drawn) (ch:=[]) (fun _ z=>nomatch z) (fun b o hb _ _ e _=>k b o hb e) (fun b o hb _ _ e _=>⟨o.slots,k b o hb e⟩) (fun b o _ e n=>n) (fun b o _ e=>?_)
   (fun b xs q=>q) (fun b u xs q=>q) (fun b ps q=>⟨#[],by rw[q];simp⟩) ns (fun b u e=>?_) I.bare
 · by_cases z:b=X.env.locals
   · obtain⟨m,hm,_⟩:=I.loc;obtain⟨o',_,_,ho',_⟩:=ns m hm;exact⟨o',by rw[z];exact ho'⟩
   · exact⟨o,k b o z e⟩
 · refine(I.hok b u e).stay (fun c v hc q=>k c v ?_ q) (fun c q=>q) fun c xs q=>q;rcases hc with z|z
   · rw[z];exact nL b u e
   · exact nL c _ z
theorem Inv.keptN {t':Nat}{m:Str->Option Value} (I:Inv X pins σ H s) (F:Fr X.base X.env.locals s.heap m) (F':Fr X.base X.env.locals h' m) (N':News X.base X.env.locals h' (jA X.base s.heap X.env.locals)) :
   Inv X pins σ H { s with heap:=h',toks:=t' }:=by
 refine I.keptL (fun b u ne q=>?_) fun m' hm=>?_
 · cases z:X.base.get? b with
   | some o =>
     have:=I.bk b o z
     rw[q]at this;cases this;exact F'.keep b _ z
   | none=>exact(N' _ (qaV q ne z)).1
 · rw[qdv hm F.ns];exact F'.ns
end
abbrev zF (y1 y2 z:Str) (q1 q2 q3 q4 q5 q6 q7:Pos):Expr:=.BinOp (.Subscript (.Name y1 q1) (.Name z q2) q3) .Sub (.Subscript (.Name y2 q4) (.Name z q5) q6) q7
theorem qcd {base h h2:Heap}{L:Addr}{m:Str->Option Value}{own:List (Addr×Obj)} (F:Fr base L h2 m) (F':Fr base L h m) (N:News base L h (jA base h2 L++own)):∀ b o,b≠L->h2.get? b=some o->h.get? b=some o:=fun b o n e=>by
 cases hb:base.get? b with
 | some o' =>
   have:=F.keep b o' hb
   rw[e]at this;cases this;exact F'.keep b _ hb
 | none =>
   have lt:=Heap.lt_size e;refine(N (b,o) (List.mem_append_left _ ?_)).1;unfold jA;refine List.mem_filterMap.mpr ⟨b,List.mem_range.mpr lt,?_⟩;rw[if_neg n,hb,e];rfl
section
variable {X:Cx}{p pos lpos kpos:Pos}{e:Expr}{params:Arguments}{scope:Scope}{y1 y2 z:Str}{q1 q2 q3 q4 q5 q6 q7:Pos}{te:TE}{i1 i2 k:Nat}{c T:Addr}
structure qeL (K:Frag) (H:Hp) (σ:St) (i1 i2:Nat) (v:V) (l a1 a2:Addr) (ns:List Int) (v1 v2:List V) (g:Int->Int):Prop where
 e:v=.ref l
 hl:SqL K H l (ns.map V.int)
 pos:0 < ns.length
 s1:σ[i1]?=some (some (.ref a1))
 s2:σ[i2]?=some (some (.ref a2))
 h1:SqL K H a1 v1
 h2:SqL K H a2 v2
 ok:∀ n∈ns,0≤n∧n < 9223372036854775807∧∃ i j,v1[n.toNat]?=some (.int i)∧v2[n.toNat]?=some (.int j)∧g n=i - j
def qdW (X:Cx) (T:Addr) (lpos:Pos) (i1 i2:Nat) (te:TE):TE:=fun σ H Q=>te σ H fun v H1=>∃ (l a1 a2:Addr) (ns:List Int) (v1 v2:List V) (g:Int->Int),qeL X.K H1 σ i1 i2 v l a1 a2 ns v1 v2 g∧qbP H1 T lpos (X.env.qual++"<lambda>") ∧
 ∀ (M:Int) (H2:Hp),But T H1 H2->qbP H2 T lpos (X.env.qual++"<lambda>")->M∈ns->(∀ n∈ns,g n≤g M)->Q (.int M) H2
def one (Q:V->Hp->Prop):List V->Hp->Prop
 | [v],H=>Q v H
 | _,_=>False
theorem qcc {Q:V->Hp->Prop}{vs:List V}{H:Hp} (h:one Q vs H):∃ v,vs=[v]∧Q v H:=by
 match vs,h with
 | [v],h=>exact⟨v,rfl,h⟩
theorem JY {K:Frag}{H H':Hp}{a T:Addr}{xs:List V}{ps:Array Value} (h:SqL K H a xs) (t:H T=some (.tbl ps)) (B:But T H H'):SqL K H' a xs:=by
 rcases h with h|h
 · refine .inl ?_;rcases h with e|⟨o,e⟩
   · exact .inl (B _ _ e fun z=>by rw[z,t]at e;cases e)
   · exact .inr ⟨o,B _ _ e fun z=>by rw[z,t]at e;cases e⟩
 · exact .inr h
theorem qae (hc:X.calm=true) (hr:Room k X.A) (hg:Gl X "max") (hm:X.mg "max"=none) (he:PE X e te)
   (hdef:defaultsOf params X.env=([],[])) (hfree:∀ y∈scope.names,y.2=.free->∃ c,X.env.cells.lookup y.1=some c) (hcode:X.env.code=.ref c) (hcd:codeHdIn X.K c T=true) (hbm:JK X.mg X.base)
   (hN1:X.N[i1]?=some y1) (hN2:X.N[i2]?=some y2) (hk1:X.env.scope.names.lookup y1=some .cell) (hk2:X.env.scope.names.lookup y2=some .cell)
   (f1:(y1,NameKind.free)∈scope.names) (f2:(y2,NameKind.free)∈scope.names) (l1:scope.names.lookup y1=some .free) (l2:scope.names.lookup y2=some .free) (lz:scope.names.lookup z=some .local)
   (hbind:∀ (name qual:Str) (cl:List (Str×Addr)) (pm cdv ct u:Value),bindArgs (PySem.W.kla_fn name qual params (zF y1 y2 z q1 q2 q3 q4 q5 q6 q7) scope cl pm cdv ct) ⟨[u],[]⟩=pure [(z,u)])
   (hco:scope.isCoroutine=false) (hgen:scope.isGenerator=false) (hk:scope.kind=.function) (hcell:∀ x∈scope.names,x.2≠.cell)
   (d1:(y1 == ("__debug__":Str))=false) (d2:(y2 == ("__debug__":Str))=false) (dz:(z == ("__debug__":Str))=false) (c1:(y1 == ("__classdict__":Str))=false) (c2:(y2 == ("__classdict__":Str))=false)
   (hks:(backToKw pos (keywordEach [⟨some "key",.Lambda params (zF y1 y2 z q1 q2 q3 q4 q5 q6 q7) scope lpos,kpos⟩] X.env)).filterMap (·.1)=([("key":Str)]:List Str):=by rfl)
   (hes:backTo pos (starEach [e] X.env)=(false,eval e X.env)::backTo pos (starEach [] X.env):=by rfl) (hpl:(backTo pos (starEach [e] X.env)).any (·.1)=false:=by rfl)
   (hall:(backToKw pos (keywordEach [⟨some "key",.Lambda params (zF y1 y2 z q1 q2 q3 q4 q5 q6 q7) scope lpos,kpos⟩] X.env)).all (·.1.isSome)=true:=by rfl)
   (hno:(backToKw pos (keywordEach [⟨some "key",.Lambda params (zF y1 y2 z q1 q2 q3 q4 q5 q6 q7) scope lpos,kpos⟩] X.env)).any (·.1.isNone)=false:=by rfl)
   (hst:starEach [e] X.env=(false,eval e X.env)::starEach [] X.env:=by rfl) :
   PE X (.Call (.Name "max" p) [e] [⟨some "key",.Lambda params (zF y1 y2 z q1 q2 q3 q4 q5 q6 q7) scope lpos,kpos⟩] pos) (qdW X T lpos i1 i2 te):=by
 intro pins s σ H Q I h;refine wpAny_Call_Name_kw (QO I hg hm (show bootBuiltins "max"=some (.builtin "max") by decide +kernel) ?_);have PAe:PA X [e] (JW te qc5):=qa he qc hst;have PKe:PK X [⟨some "key",.Lambda params (zF y1 y2 z q1 q2 q3 q4 q5 q6 q7) scope lpos,kpos⟩] (JW (qew X T lpos params (zF y1 y2 z q1 q2 q3 q4 q5 q6 q7) scope) qc5):=qcC (qdq hdef hfree hcode hcd hbm) qdm
 refine PyProof.Rows.callWith_kw (thn (PAe pos pins s σ H (one fun v H1=>∃ (l a1 a2:Addr) (ns:List Int) (v1 v2:List V) (g:Int->Int),qeL X.K H1 σ i1 i2 v l a1 a2 ns v1 v2 g∧qbP H1 T lpos (X.env.qual++"<lambda>") ∧
   ∀ (M:Int) (H2:Hp),But T H1 H2->qbP H2 T lpos (X.env.qual++"<lambda>")->M∈ns->(∀ n∈ns,g n≤g M)->Q (.int M) H2) I h) fun us s1 ⟨vs,H1,I1,r1,qv⟩=>?_) hes hpl hall hno
 obtain⟨v,rfl,l,a1,a2,ns,v1,v2,g,ML,tb,qq⟩:=qcc qv;obtain⟨psT,tT,_⟩:=id tb;refine thn (PKe pos pins s1 σ H1 (fun zs H2=>∃ f c' o,zs=[.ref f]∧But T H1 H2∧qbP H2 T lpos (X.env.qual++"<lambda>")∧H2 f=some (.ext (qbQ f o))∧H2 c'=some (.ext (Z9 c' (X.env.qual++"<lambda>")))∧qdS X params (zF y1 y2 z q1 q2 q3 q4 q5 q6 q7) scope c' o) I1 ⟨tb,fun f c' o H2 _ _ B tb2 hf hc2 lo=>⟨f,c',o,rfl,B,tb2,hf,hc2,lo⟩⟩) fun ws s2 zz_=>?_;obtain⟨zs,H2,I2,r2,f,c',fo,ez,B,tb2,hf,hc2,lo⟩:=zz_;subst ez;rw[hks];obtain⟨u,rfl,ru⟩:=QX r1;obtain⟨w2,rfl,rw2⟩:=QX r2;obtain rfl:=ML.e;cases (show u=Value.ref l from ru);cases (show w2=Value.ref f from rw2);obtain⟨its,rv,pl,hz⟩:=I2.list (JY ML.hl tT B);obtain⟨m,F⟩:=I2.fr;have ff:s2.heap.get? f=some fo:=((show ObjOk X.prog X.w H2 s2.heap f (.ext (qbQ f fo)) from I2.hok f _ hf)).1;have cc:s2.heap.CodeRec (.ref c') (X.env.qual++"<lambda>"):=((show ObjOk X.prog X.w H2 s2.heap c' (.ext (Z9 c' _)) from I2.hok c' _ hc2)).1;have nfL:f≠X.env.locals:=fun z=>by rw[z,I2.free]at hf;cases hf
 have ncL:c'≠X.env.locals:=fun z=>by rw[z,I2.free]at hc2;cases hc2
 obtain⟨pm,ctv,rfl⟩:=lo
 -- the cells
 have cel:∀ (i:Nat) (y:Str) (a:Addr),X.N[i]?=some y->σ[i]?=some (some (.ref a))->X.env.scope.names.lookup y=some .cell->(y,NameKind.free)∈scope.names->∃ cy,(zc X.env.cells scope.names []).lookup y=some cy∧s2.heap.IsCell cy (some (.ref a))∧cy≠X.env.locals:=fun i y a hN hs hkd hfr=>by
   obtain⟨m',_,hl⟩:=I2.loc;obtain⟨u,ru,lk⟩:=hl i y _ hN hs (.inr (.inl hkd));cases (show u=Value.ref a from ru);obtain⟨k1,k2⟩:=qT (cells:=X.env.cells) (x:=y) scope.names [] hfree (fun _ z=>nomatch z);obtain⟨cy,hcy⟩:=Option.isSome_iff_exists.mp (k2 (.inl hfr));have hcy':=k1 cy hcy;rcases lk with ⟨kl,_⟩|⟨_,c0,hc0,ic⟩
   · have:X.env.scope.names.lookup y=some .local:=kl
     rw[hkd]at this;cases this
   · rw[hcy']at hc0;cases hc0;exact⟨cy,hcy,ic,I2.cne y cy hcy'⟩
 obtain⟨cy1,cl1,ic1,nc1⟩:=cel i1 y1 a1 hN1 ML.s1 hk1 f1;obtain⟨cy2,cl2,ic2,nc2⟩:=cel i2 y2 a2 hN2 ML.s2 hk2 f2;obtain⟨it1,rv1,pl1,hz1⟩:=I2.list (JY ML.h1 tT B);obtain⟨it2,rv2,pl2,hz2⟩:=I2.list (JY ML.h2 tT B)
 have lstNe:∀ {a:Addr}{its:Array Value},PlainL s2.heap a its->a≠X.env.locals:=fun {a its} pl z=>by
   obtain⟨o,n,e,_,_,d⟩:=pl;obtain⟨m',⟨o',es,ep,e',d',_⟩,_⟩:=I2.loc;rw[z,e']at e;cases e;rw[d]at d';cases d'
 have na1:=lstNe pl1;have na2:=lstNe pl2;refine kmk_max_letter (ns:=ns) g (I2.ok.hd hc) F (JG X.base s2.heap X.env.locals) (fun h F' N'=>?_) (Jg rv) ML.pos (fun n t h tk own mn F' N'=>?_) fun M t h' tk' F' N' mM best=>?_
 · have N'':News X.base X.env.locals h (jA X.base s2.heap X.env.locals++[]):=by rw[List.append_nil];exact N'
   have old:=qcd F F' N'';obtain⟨o,n,e,c,d,sq⟩:=pl;exact PlainL.isList ⟨o,n,old l o (lstNe ⟨o,n,e,c,d,sq⟩) e,c,d,sq⟩
 · have old:=qcd F F' N';obtain⟨n0,n63,i,j,e1,e2,eg⟩:=ML.ok n mn;obtain⟨u1,hu1,⟨t1,rfl⟩⟩:=rv1.get e1;obtain⟨u2,hu2,⟨t2,rfl⟩⟩:=rv2.get e2;refine wpAny_call (PySem.W.kla_callFunE (A:=X.A.in1) hr.depth (old f _ nfL ff) rfl hco hgen rfl (by obtain⟨c0,o,vs,tq,e,g',r⟩:=cc;cases e;exact⟨c',o,vs,tq,rfl,old c' o ncL g',r⟩) ?_);rw[show bindArgs _ _=_ from hbind _ _ _ _ _ _ _];refine wpAny_pure (wpAny_newFunctionEnv hcell (fun x hx=>by rw[List.mem_singleton.mp hx];exact lz) (fun h₁ hns hsb=>⟨((I2.ok.mod.nolimit).keeps F'.keep).fresh _ hsb,?_⟩) hk);have hk₁:∀ b o,h.get? b=some o->h₁.get? b=some o:=fun b o e=>hsb.extBut b o (Nat.ne_of_lt (Heap.lt_size e)) (Heap.get?_push_of_some _ e);have all:∀ b o,b≠X.env.locals->s2.heap.get? b=some o->h₁.get? b=some o:=fun b o nb e=>hk₁ b o (old b o nb e);show codeAny _ _ (.expr _ (envX (X.env.qual++"<lambda>") scope h.objs.size f (.ref c') (zc X.env.cells scope.names []))) _ _;refine PySem.W.kla_codeExpr ?_;have hcel:∀ {cy:Addr}{v:Value},s2.heap.IsCell cy (some v)->cy≠X.env.locals->h₁.IsCell cy (some v):=fun⟨o,e,d⟩ nb=>⟨o,all _ o nb e,d⟩
   have hpl1:h₁.IsList a1 it1.toArray:=by
     obtain⟨o,n,e,c,d,sq⟩:=pl1;exact PlainL.isList ⟨o,n,all a1 o na1 e,c,d,sq⟩
   have hpl2:h₁.IsList a2 it2.toArray:=by
     obtain⟨o,n,e,c,d,sq⟩:=pl2;exact PlainL.isList ⟨o,n,all a2 o na2 e,c,d,sq⟩
   have bz:(fun x=>List.lookup x [(z,Value.int n t)].reverse) z=some (.int n t):=by simp[List.lookup]
   have b1:n.toNat < it1.length:=(List.getElem?_eq_some_iff.mp hu1).1;have b2:n.toNat < it2.length:=(List.getElem?_eq_some_iff.mp hu2).1;refine wpAny_BinOp (Subscript_ (wpAny_Name (wpAny_loadName_free hk l1 cl1 (hcel ic1 nc1) (wpAny_Name (wpAny_loadName_local hk lz hns bz (item_listR hpl1 n0 (by omega) (by rw[← Array.getElem?_toList];exact hu1) ?_ rfl)) dz) c1) d1));refine Subscript_ (wpAny_Name (wpAny_loadName_free hk l2 cl2 (hcel ic2 nc2) (wpAny_Name (wpAny_loadName_local hk lz hns bz (item_listR hpl2 n0 (by omega) (by rw[← Array.getElem?_toList];exact hu2) ?_ rfl)) dz) c2) d2);refine sub_int ?_;exact⟨h₁,_,_,rfl,by rw[eg],F'.keeps hk₁,fun q hq=>⟨hk₁ _ _ (N' q hq).1,(N' q hq).2⟩⟩
 · exact⟨.int M,H2,I2.keptN F F' N',⟨t,rfl⟩,qq M H2 B tb2 mM fun n hn=>best n hn⟩
end
theorem Fun.okC {P:Program}{w:World}{K:Frag}{mg:Str->Option Value}{base:Heap}{x qual:Str}{st:Stmt}{f c:Addr}{fd:FuncData}{N ps:List Str}{k:Nat}{sp:Sp} (F:Fun K x qual st f fd) (hc:fd.code=.ref c) (S:qt N ps (qh st)) (len:∀ vs H Q E,sp vs H Q E->vs.length=ps.length)
   (hbody:∀ (cdv:Value) (A:Around) (outer:List Env) (s:Shared) (H:Hp) (vs:List V) (Q:VK) (E:XK),cdv=.ref c->Room k (A.deeper (envOfC qual (qh st) s.heap.objs.size f cdv))->sp vs H Q E ->
     ∃ t,PSs (zG CX0 P w K mg base N qual (qh st) f cdv A outer s H E).nox (qX st) t∧t { nx:=fun _ H'=>Q .non H',rt:=Q } (start N vs) H):FnOk P w K mg base CX0 (k+1) f fd ps sp:=by
 obtain⟨oc,od,kV,doc,pm,an,cdv,ct,osl,rfl,lk,hcd⟩:=F.ex;refine qdE lk hcd S len fun A outer s H vs Q E hr hsp=>?_;obtain⟨t,h,q⟩:=hbody cdv A outer s H vs Q E hc hr hsp;exact⟨t,h.nox,q⟩
section
variable {X:Cx}
def qdV (ta:TE):TE:=fun σ H Q=>ta σ H fun x H1=>∃ n:Int,x=.int n∧∀ r,H1 r=none->Q (.ref r) (upd H1 r (.rng 0 n))
theorem qbk {a:Expr}{ta:TE}{p pos:Pos} (hg:Gl X "range") (hm:X.mg "range"=none) (ha:PE X a ta) (hs:starEach [a] X.env=[(false,eval a X.env)]:=by rfl):PE X (.Call (.Name "range" p) [a] [] pos) (qdV ta):=by
 intro pins s σ H Q I h;have PAe:PA X [a] (JW ta qc5):=qa ha qc hs;refine Call_ (QO I hg hm boot_range (PyProof.Rows.callWith_type1 (thn (PAe pos pins s σ H (one fun x H1=>∃ n:Int,x=.int n∧∀ r,H1 r=none->Q (.ref r) (upd H1 r (.rng 0 n))) I h) fun us s1 zz_=>?_) hs rfl));obtain⟨vs,H1,I1,r1,q1⟩:=zz_;obtain⟨v,rfl,n,rfl,q⟩:=qcc q1;obtain⟨u,rfl,⟨t,rfl⟩⟩:=QX r1;refine call_range_1 ?_;exact⟨.ref s1.heap.objs.size,_,I1.laid (t':=_) (fun b o e=>Heap.get?_push_of_some _ e) (Nat.le_refl _) (show ObjOk X.prog X.w _ _ _ (.rng 0 n) from ⟨_,_,_,Heap.get?_push_size _ rfl⟩),rfl,q _ (I1.hok.fresh (Nat.le_refl _))⟩
def qb1:List V->Hp->VK->Prop:=fun xs H Q=>∃ (r:Addr) (n:Int),xs=[V.ref r]∧H r=some (.rng 0 n)∧0≤n∧n≤1000∧∀ l,H l=none->Q (.ref l) (upd H l (.lst ((List.range n.toNat).map fun (i:Nat)=>V.int (i:Int))))
theorem JB (hc:X.calm=true):QD X (.type "list") qb1:=by
 intro pins s σ H xs us Q I r h;obtain⟨a,n,rfl,hq,n0,n1,q⟩:=h;obtain⟨u,rfl,ru⟩:=QX r;cases ru;obtain⟨t,u,v,e⟩:=(show ObjOk X.prog X.w H s.heap a (.rng 0 n) from I.hok a _ hq)
 refine call_list_range (n:=n.toNat) (I.ok.hd hc) e ?_ ?_ (by omega) fun h' tk acc c kp e' it=>?_
 · exact small_one (by omega) (by omega) (by omega) (by omega)
 · rw[rangeSize_one];split<;>omega
 obtain⟨al,ag⟩:=it
 have rv:Vals ((List.range n.toNat).map fun (i:Nat)=>V.int (i:Int)) acc.toList:=jH (by rw[Array.length_toList,al,List.length_map,List.length_range]) fun i y v e1 e2=>by
   obtain⟨t,e3⟩:=ag i v (by rw[← Array.getElem?_toList];exact e2);rw[List.getElem?_map]at e1;obtain⟨j,hj,ej⟩:=Option.map_eq_some_iff.mp e1
   have:j=i:=by
     rw[List.getElem?_range]at hj
     · exact(Option.some.inj hj).symm
     · have:=(List.getElem?_eq_some_iff.mp hj).1
       rwa [List.length_range]at this
   subst this;rw[← ej,e3];exact⟨t,by rw[Int.zero_add,Int.mul_one]⟩
 refine⟨.ref s.heap.objs.size,_,I.laid (t':=tk) kp (Nat.le_refl _) (show ObjOk X.prog X.w _ h' _ (.lst _) from ⟨by rw[List.length_map,List.length_range,sizeLine_eq];omega,acc.toList,c,rv,?_⟩),rfl,q _ (I.hok.fresh (Nat.le_refl _))⟩;rw[Array.toArray_toList];exact e'
end
end L2
namespace K43
abbrev B3:=Nat×Nat×Int
def bd (bds:List B3) (T:Nat):B3:=bds.getD (T % bds.length) (0,0,0)
def up (bds:List B3) (h:List Int) (b:B3):Bool:=decide (h.getD b.1 0 < h.getD b.2.1 0+b.2.2)
def rlx (bds:List B3) (s:List Int×List (Option Nat)) (k:Nat) (b:B3):List Int×List (Option Nat) :=
 if up bds s.1 b=true then (s.1.set b.1 (s.1.getD b.2.1 0+b.2.2),s.2.set b.1 (some k)) else s
def st (bds:List B3) (n:Nat):Nat->List Int×List (Option Nat)
 | 0=>(List.replicate n 0,List.replicate n none)
 | T+1=>rlx bds (st bds n T) (T % bds.length) (bd bds T)
def tau (bds:List B3) (n:Nat):Nat->Nat->Nat
 | 0,_=>0
 | T+1,x=>if up bds (st bds n T).1 (bd bds T)=true∧x=(bd bds T).1 then T+1 else tau bds n T x
def Fx (bds:List B3) (n:Nat):Prop:=∀ b∈bds,b.1 < n∧b.2.1 < n
section
variable {bds:List B3}{n:Nat}
def hh (bds:List B3) (n T x:Nat):Int:=(st bds n T).1.getD x 0
def cc (bds:List B3) (n T x:Nat):Option Nat:=(st bds n T).2.getD x none
theorem Zu (T:Nat):(st bds n T).1.length=n∧(st bds n T).2.length=n:=by
 induction T with
 | zero=>simp[st]
 | succ T ih =>
   show (rlx _ _ _ _).1.length=n∧(rlx _ _ _ _).2.length=n;unfold rlx;split
   · simp only[List.length_set];exact ih
   · exact ih
theorem getD_set {α:Type}{xs:List α}{i j:Nat}{v d:α} (h:i < xs.length):(xs.set i v).getD j d=if j=i then v else xs.getD j d:=by
 rw[List.getD_eq_getElem?_getD,List.getD_eq_getElem?_getD,List.getElem?_set];by_cases e:i=j
 · subst e;rw[if_pos rfl,if_pos h,if_pos rfl];rfl
 · rw[if_neg e,if_neg (fun z=>e z.symm)]
theorem qcr (hB:0 < bds.length) (T:Nat):bd bds T∈bds:=by
 have h:=Nat.mod_lt T hB;unfold bd;rw[List.getD_eq_getElem?_getD,List.getElem?_eq_getElem h];exact List.getElem_mem h
theorem up_iff {T:Nat}:up bds (st bds n T).1 (bd bds T)=true↔hh bds n T (bd bds T).1 < hh bds n T (bd bds T).2.1+(bd bds T).2.2:=by
 unfold up hh;rw[decide_eq_true_iff]
theorem qcP (hB:0 < bds.length) (F:Fx bds n) (T x:Nat) (u:up bds (st bds n T).1 (bd bds T)=true) :
   hh bds n (T+1) x=if x=(bd bds T).1 then hh bds n T (bd bds T).2.1+(bd bds T).2.2 else hh bds n T x:=by
 have hx:=(F _ (qcr hB T)).1;show ((rlx bds (st bds n T) _ _).1).getD x 0=_;unfold rlx;rw[if_pos u];exact getD_set (by rw[(Zu T).1];exact hx)
theorem qcX (hB:0 < bds.length) (F:Fx bds n) (T x:Nat) (u:up bds (st bds n T).1 (bd bds T)=true) :
   cc bds n (T+1) x=if x=(bd bds T).1 then some (T % bds.length) else cc bds n T x:=by
 have hx:=(F _ (qcr hB T)).1;show ((rlx bds (st bds n T) _ _).2).getD x none=_;unfold rlx;rw[if_pos u];exact getD_set (by rw[(Zu T).2];exact hx)
theorem qcu {T:Nat} (u:¬ up bds (st bds n T).1 (bd bds T)=true):st bds n (T+1)=st bds n T:=by
 show rlx _ _ _ _=_;unfold rlx;rw[if_neg u]
theorem qbU {T x:Nat} (u:¬ up bds (st bds n T).1 (bd bds T)=true):tau bds n (T+1) x=tau bds n T x:=by
 show (if _ then _ else _)=_;rw[if_neg fun z=>u z.1]
theorem qbT {T x:Nat} (u:up bds (st bds n T).1 (bd bds T)=true):tau bds n (T+1) x=if x=(bd bds T).1 then T+1 else tau bds n T x:=by
 show (if _ then _ else _)=_;by_cases e:x=(bd bds T).1
 · rw[if_pos ⟨u,e⟩,if_pos e]
 · rw[if_neg fun z=>e z.2,if_neg e]
structure Iv (bds:List B3) (n T:Nat):Prop where
 i1:∀ x,tau bds n T x≠0->∃ k,cc bds n T x=some k
 i1':∀ x k,cc bds n T x=some k->tau bds n T x≠0
 i2:∀ x k,cc bds n T x=some k->k < bds.length∧(bds.getD k (0,0,0)).1=x∧tau bds n T x≤tau bds n T (bds.getD k (0,0,0)).2.1+bds.length ∧
   hh bds n T x≤hh bds n T (bds.getD k (0,0,0)).2.1+(bds.getD k (0,0,0)).2.2 ∧
   (tau bds n T x < tau bds n T (bds.getD k (0,0,0)).2.1->hh bds n T x < hh bds n T (bds.getD k (0,0,0)).2.1+(bds.getD k (0,0,0)).2.2)∧((bds.getD k (0,0,0)).2.1=x->0 < (bds.getD k (0,0,0)).2.2)
 i3:∀ x,tau bds n T x≤T
 i3':∀ x y,tau bds n T x=tau bds n T y->tau bds n T x≠0->x=y
 i4:∀ t,t < T->T≤t+bds.length->tau bds n T (bd bds t).2.1≤t->hh bds n T (bd bds t).2.1+(bd bds t).2.2≤hh bds n T (bd bds t).1
theorem iv (hB:0 < bds.length) (F:Fx bds n) (T:Nat):Iv bds n T:=by
 induction T with
 | zero =>
   have c0:∀ x,cc bds n 0 x=none:=fun x=>by
     show (List.replicate n none).getD x none=none;rw[List.getD_eq_getElem?_getD,List.getElem?_replicate];split<;>rfl
   exact⟨fun x h=>absurd rfl h,(fun x k h=>by rw[c0]at h;cases h),(fun x k h=>by rw[c0]at h;cases h),fun x=>Nat.le_refl _,fun x y _ h=>absurd rfl h,fun t h=>absurd h (Nat.not_lt_zero _)⟩
 | succ T ih =>
   by_cases u:up bds (st bds n T).1 (bd bds T)=true
   · have uh:=up_iff.mp u;have H:=fun x=>qcP hB F T x u;have Cs:=fun x=>qcX hB F T x u;have Ta:=fun x=>qbT (x:=x) u
     have ge:∀ x,hh bds n T x≤hh bds n (T+1) x:=fun x=>by
       rw[H x];split
       · rename_i e;rw[e];omega
       · exact Int.le_refl _
     have eb:bds.getD (T % bds.length) (0,0,0)=bd bds T:=rfl;have i3:=ih.i3;refine⟨fun x h=>?_,fun x k h=>?_,fun x k h=>?_,fun x=>?_,fun x y h1 h2=>?_,fun t h1 h2 h3=>?_⟩
     · rw[Ta x]at h;rw[Cs x];split
       · exact⟨_,rfl⟩
       · rename_i e;rw[if_neg e]at h;exact ih.i1 x h
     · rw[Cs x]at h;rw[Ta x];split
       · omega
       · rename_i e;rw[if_neg e]at h;exact ih.i1' x k h
     · rw[Cs x]at h;by_cases e:x=(bd bds T).1
       · rw[if_pos e]at h;cases h;rw[eb];refine⟨Nat.mod_lt T hB,e.symm,?_,?_,?_,?_⟩
         · rw[Ta x,if_pos e,Ta (bd bds T).2.1];split
           · omega
           · rename_i e2
             by_cases hT:T < bds.length
             · omega
             · have q:=ih.i4 (T - bds.length) (by omega) (by omega)
               have ebd:bd bds (T - bds.length)=bd bds T:=by
                 unfold bd;rw[← Nat.mod_eq_sub_mod (by omega)]
               rw[ebd]at q;by_cases g:tau bds n T (bd bds T).2.1≤T - bds.length
               · have:=q g;omega
               · omega
         · rw[H x,if_pos e]
           have:=ge (bd bds T).2.1
           omega
         · rw[Ta x,if_pos e,Ta (bd bds T).2.1];split
           · intro z;omega
           · intro z
             have:=i3 (bd bds T).2.1
             omega
         · intro z;rw[z]at uh;rw[← e]at uh;omega
       · rw[if_neg e]at h;obtain⟨h1,h2,h3,h4,h5,h6⟩:=ih.i2 x k h;refine⟨h1,h2,?_,?_,?_,h6⟩
         · rw[Ta x,if_neg e,Ta]
           have:=i3 x
           split<;>omega
         · rw[H x,if_neg e]
           have:=ge (bds.getD k (0,0,0)).2.1
           omega
         · rw[Ta x,if_neg e,H x,if_neg e,Ta,H];split
           · rename_i e2
             intro _;rw[e2]at h4;omega
           · exact h5
     · rw[Ta x]
       have:=i3 x
       split<;>omega
     · rw[Ta x]at h1 h2;rw[Ta y]at h1;have a1:=i3 x;have a2:=i3 y;by_cases e1:x=(bd bds T).1
       · by_cases e2:y=(bd bds T).1
         · rw[e1,e2]
         · rw[if_pos e1,if_neg e2]at h1;omega
       · by_cases e2:y=(bd bds T).1
         · rw[if_neg e1,if_pos e2]at h1;omega
         · rw[if_neg e1,if_neg e2]at h1;rw[if_neg e1]at h2;exact ih.i3' x y h1 h2
     · rw[Ta]at h3;by_cases e:(bd bds t).2.1=(bd bds T).1
       · rw[if_pos e]at h3;omega
       · rw[if_neg e]at h3;rw[H,if_neg e];by_cases et:t=T
         · subst et;rw[H,if_pos rfl];exact Int.le_refl _
         · have:=ih.i4 t (by omega) (by omega) h3
           have:=ge (bd bds t).1
           omega
   · have es:=qcu u;have ta:=fun x=>qbU (x:=x) u;have eh:∀ x,hh bds n (T+1) x=hh bds n T x:=fun x=>by unfold hh;rw[es]
     have ec:∀ x,cc bds n (T+1) x=cc bds n T x:=fun x=>by unfold cc;rw[es]
     refine⟨fun x h=>?_,fun x k h=>?_,fun x k h=>?_,fun x=>?_,fun x y h1 h2=>?_,fun t h1 h2 h3=>?_⟩
     · rw[ta]at h;rw[ec];exact ih.i1 x h
     · rw[ec]at h;rw[ta];exact ih.i1' x k h
     · rw[ec]at h;rw[ta,ta,eh,eh];exact ih.i2 x k h
     · rw[ta];have:=ih.i3 x;omega
     · rw[ta]at h1 h2;rw[ta]at h1;exact ih.i3' x y h1 h2
     · rw[ta]at h3;rw[eh,eh];by_cases et:t=T
       · subst et
         have:=mt up_iff.mpr u
         omega
       · exact ih.i4 t (by omega) (by omega) h3
theorem quiet (hB:0 < bds.length) {T0:Nat} (h:∀ i,i < bds.length->¬ up bds (st bds n T0).1 (bd bds (T0+i))=true):∀ i,st bds n (T0+i)=st bds n T0∧¬ up bds (st bds n T0).1 (bd bds (T0+i))=true:=by
 have per:∀ i,¬ up bds (st bds n T0).1 (bd bds (T0+i))=true:=fun i=>by
   have e:bd bds (T0+i)=bd bds (T0+i % bds.length):=by
     unfold bd;rw[Nat.add_mod_mod]
   rw[e];exact h _ (Nat.mod_lt i hB)
 intro i;refine⟨?_,per i⟩
 induction i with
 | zero=>rfl
 | succ i ih =>
   have:=per i
   rw[← ih]at this;rw[← Nat.add_assoc,qcu this,ih]
def gg (bds:List B3) (n T x:Nat):Nat:=(bds.getD ((cc bds n T x).getD 0) (0,0,0)).2.1
theorem qbA {T x k:Nat} (e:cc bds n T x=some k):gg bds n T x=(bds.getD k (0,0,0)).2.1:=by
 unfold gg;rw[e];rfl
def iter (g:Nat->Nat):Nat->Nat->Nat
 | 0,x=>x
 | t+1,x=>g (iter g t x)
theorem Qp (g:Nat->Nat) (s t x:Nat):iter g (s+t) x=iter g s (iter g t x):=by
 induction s with
 | zero=>rw[Nat.zero_add];rfl
 | succ s ih=>rw[Nat.succ_add];show g _=g _;rw[ih]
theorem nodup_le:∀ (n:Nat) (l:List Nat),l.Nodup->(∀ x∈l,x < n)->l.length≤n
 | 0,[],_,_=>Nat.le_refl _
 | 0,x::l,_,h=>absurd (h x List.mem_cons_self) (Nat.not_lt_zero _)
 | n+1,l,nd,h=>by
   have ih:=nodup_le n (l.filter (fun x=>decide (x≠n))) (nd.sublist List.filter_sublist) (fun x m=>by
     obtain⟨m1,m2⟩:=List.mem_filter.mp m
     have:=h x m1
     have:x≠n:=by simpa using m2
     omega)
   have e:l.length=(l.filter (fun x=>decide (x≠n))).length+(l.filter (fun x=>!decide (x≠n))).length:=by
     clear ih nd h
     induction l with
     | nil=>rfl
     | cons a l ih =>
       by_cases g:a=n
       · subst g;simp at ih ⊢;omega
       · simp[g]at ih ⊢;omega
   have s:(l.filter (fun x=>!decide (x≠n))).length≤1:=by
     have nd2:(l.filter (fun x=>!decide (x≠n))).Nodup:=nd.sublist List.filter_sublist;have all:∀ x∈l.filter (fun x=>!decide (x≠n)),x=n:=fun x m=>by simpa using (List.mem_filter.mp m).2
     generalize l.filter (fun x=>!decide (x≠n))=l' at nd2 all
     match l',nd2,all with
     | [],_,_=>exact Nat.zero_le _
     | [_],_,_=>exact Nat.le_refl _
     | a::b::r,nd2,all =>
       have ea:=all a (by simp);have eb:=all b (by simp);exact absurd (ea.trans eb.symm) ((List.pairwise_cons.mp nd2).1 b (by simp))
   omega
theorem qdn (w:Nat->Nat) (n:Nat) (h:∀ j,j≤n->w j < n):∃ i j,i < j∧j≤n∧w i=w j:=by
 refine Classical.byContradiction fun no=>?_
 have nd:((List.range (n+1)).map w).Nodup:=by
   refine List.pairwise_iff_getElem.mpr fun i j hi hj hij=>?_;rw[List.length_map,List.length_range]at hi hj;simp only[List.getElem_map,List.getElem_range];exact fun e=>no ⟨i,j,hij,by omega,e⟩
 have:=nodup_le n _ nd (fun x m=>by
   obtain⟨j,mj,e⟩:=List.mem_map.mp m;rw[← e]
   exact h j (by have:=List.mem_range.mp mj;omega))
 rw[List.length_map,List.length_range]at this;omega
theorem qcE (hB:0 < bds.length) (F:Fx bds n) {r:Nat} (hr:r < n) (ht:(n - 1) * bds.length < tau bds n (n * bds.length) r) :
   (∀ j,j < n->∃ k,cc bds n (n * bds.length) (iter (gg bds n (n * bds.length)) j r)=some k)∧(∀ j,j≤n->iter (gg bds n (n * bds.length)) j r < n) ∧
   (∃ p,0 < p∧p≤n∧iter (gg bds n (n * bds.length)) p (iter (gg bds n (n * bds.length)) n r)=iter (gg bds n (n * bds.length)) n r) ∧
   ∀ t,∃ k,cc bds n (n * bds.length) (iter (gg bds n (n * bds.length)) t (iter (gg bds n (n * bds.length)) n r))=some k:=by
 have I:=iv hB F (n * bds.length);generalize hT:n * bds.length=T at I ht ⊢
 have low:∀ j,j < n->tau bds n T r≤tau bds n T (iter (gg bds n T) j r)+j * bds.length∧∃ k,cc bds n T (iter (gg bds n T) j r)=some k:=by
   intro j
   induction j with
   | zero =>
     intro h;refine⟨by rw[Nat.zero_mul];exact Nat.le_refl _,I.i1 _ (by show tau bds n T r≠0;omega)⟩
   | succ j ih =>
     intro h;obtain⟨l1,k,ek⟩:=ih (by omega);obtain⟨_,_,h3,_⟩:=I.i2 _ k ek
     have eg:iter (gg bds n T) (j+1) r=(bds.getD k (0,0,0)).2.1:=by
       exact qbA ek
     have l2:tau bds n T r≤tau bds n T (iter (gg bds n T) (j+1) r)+(j+1) * bds.length:=by
       rw[eg,Nat.succ_mul];omega
     refine⟨l2,I.i1 _ fun z=>?_⟩;rw[z]at l2
     have:(j+1) * bds.length≤(n - 1) * bds.length:=Nat.mul_le_mul_right _ (by omega)
     omega
 have lt:∀ j,j≤n->iter (gg bds n T) j r < n:=fun j hj=>by
   cases j with
   | zero=>exact hr
   | succ j =>
     obtain⟨_,k,ek⟩:=low j (by omega);obtain⟨h1,_⟩:=I.i2 _ k ek;show gg bds n T (iter (gg bds n T) j r) < n;rw[qbA ek];rw[List.getD_eq_getElem?_getD,List.getElem?_eq_getElem h1];exact(F _ (List.getElem_mem h1)).2
 obtain⟨i,j,hij,hj,e⟩:=qdn (fun j=>iter (gg bds n T) j r) n lt;have e':iter (gg bds n T) i r=iter (gg bds n T) j r:=e
 have run:∀ t,∃ u,i≤u∧u < j∧iter (gg bds n T) t (iter (gg bds n T) i r)=iter (gg bds n T) u r:=by
   intro t
   induction t with
   | zero=>exact⟨i,Nat.le_refl _,hij,rfl⟩
   | succ t ih =>
     obtain⟨u,h1,h2,h3⟩:=ih;by_cases g:u+1 < j
     · exact⟨u+1,by omega,g,by show gg bds n T _=gg bds n T _;rw[h3]⟩
     · refine⟨i,Nat.le_refl _,hij,?_⟩;show gg bds n T _=_;rw[h3,e',show j=u+1 by omega];rfl
 have es:iter (gg bds n T) n r=iter (gg bds n T) (n - i) (iter (gg bds n T) i r):=by rw[← Qp,show n - i+i=n by omega]
 have ep:iter (gg bds n T) (j - i) (iter (gg bds n T) i r)=iter (gg bds n T) i r:=by rw[← Qp,show j - i+i=j by omega,e']
 refine⟨fun j h=>(low j h).2,lt,⟨j - i,by omega,by omega,?_⟩,fun t=>?_⟩
 · rw[es,← Qp,Nat.add_comm,Qp,ep]
 · rw[es,← Qp];obtain⟨u,h1,h2,h3⟩:=run (t+(n - i));rw[h3];exact(low u (by omega)).2
def sm (f:Nat->Int):Nat->Int
 | 0=>0
 | t+1=>sm f t+f t
theorem qbb {T:Nat} (I:Iv bds n T) {s L:Nat} (hL:0 < L) (hc:∀ t,∃ k,cc bds n T (iter (gg bds n T) t s)=some k) (he:iter (gg bds n T) L s=s) (hm:∀ t,0 < t->t < L->iter (gg bds n T) t s≠s) :
   0 < sm (fun t=>(bds.getD ((cc bds n T (iter (gg bds n T) t s)).getD 0) (0,0,0)).2.2) L:=by
 have facts:∀ t,hh bds n T (iter (gg bds n T) t s)≤hh bds n T (iter (gg bds n T) (t+1) s)+(bds.getD ((cc bds n T (iter (gg bds n T) t s)).getD 0) (0,0,0)).2.2 ∧
     (tau bds n T (iter (gg bds n T) t s) < tau bds n T (iter (gg bds n T) (t+1) s)->hh bds n T (iter (gg bds n T) t s) < hh bds n T (iter (gg bds n T) (t+1) s)+(bds.getD ((cc bds n T (iter (gg bds n T) t s)).getD 0) (0,0,0)).2.2) ∧
     (iter (gg bds n T) (t+1) s=iter (gg bds n T) t s->0 < (bds.getD ((cc bds n T (iter (gg bds n T) t s)).getD 0) (0,0,0)).2.2):=fun t=>by
   obtain⟨k,ek⟩:=hc t;obtain⟨_,_,_,h4,h5,h6⟩:=I.i2 _ k ek
   have eg:iter (gg bds n T) (t+1) s=(bds.getD k (0,0,0)).2.1:=by
     exact qbA ek
   rw[eg,ek];exact⟨h4,h5,h6⟩
 generalize hf:(fun t=>(bds.getD ((cc bds n T (iter (gg bds n T) t s)).getD 0) (0,0,0)).2.2)=f;have ef:∀ t,(bds.getD ((cc bds n T (iter (gg bds n T) t s)).getD 0) (0,0,0)).2.2=f t:=fun t=>by rw[← hf]
 have tel:∀ t,hh bds n T s≤hh bds n T (iter (gg bds n T) t s)+sm f t:=by
   intro t
   induction t with
   | zero=>show _≤hh bds n T s+0;omega
   | succ t ih =>
     have:=(facts t).1
     rw[ef t]at this;show _≤_+(sm f t+f t);omega
 have tel2:∀ i t,i < t->tau bds n T (iter (gg bds n T) i s) < tau bds n T (iter (gg bds n T) (i+1) s)->hh bds n T s < hh bds n T (iter (gg bds n T) t s)+sm f t:=by
   intro i t
   induction t with
   | zero=>intro h;omega
   | succ t ih =>
     intro h g;show _ < _+(sm f t+f t);by_cases e:i=t
     · subst e
       have:=(facts i).2.1 g
       rw[ef i]at this
       have:=tel i
       omega
     · have:=ih (by omega) g
       have:=(facts t).1
       rw[ef t]at this;omega
 by_cases g:∃ i,i < L∧tau bds n T (iter (gg bds n T) i s) < tau bds n T (iter (gg bds n T) (i+1) s)
 · obtain⟨i,hi,gi⟩:=g
   have:=tel2 i L hi gi
   rw[he]at this;omega
 · have dec:∀ t,0 < t->t≤L->tau bds n T (iter (gg bds n T) t s)≤tau bds n T (iter (gg bds n T) 1 s):=by
     intro t
     induction t with
     | zero=>intro h;omega
     | succ t ih =>
       intro _ h2;by_cases e:t=0
       · subst e;exact Nat.le_refl _
       · have:=ih (by omega) (by omega)
         have:¬ tau bds n T (iter (gg bds n T) t s) < tau bds n T (iter (gg bds n T) (t+1) s):=fun z=>g ⟨t,by omega,z⟩
         omega
   have d1:=dec L hL (Nat.le_refl _);rw[he]at d1;have d0:¬ tau bds n T s < tau bds n T (iter (gg bds n T) 1 s):=fun z=>g ⟨0,hL,z⟩;obtain⟨k,ek⟩:=hc 0;have e1:iter (gg bds n T) 1 s=s:=(I.i3' s _ (by omega) (I.i1' _ k ek)).symm
   have eL:L=1:=by
     by_cases z:L=1
     · exact z
     · exact absurd e1 (hm 1 (by omega) (by omega))
   subst eL
   have:=(facts 0).2.2 e1
   rw[ef 0]at this;show 0 < (0:Int)+f 0;omega
end
end K43
namespace K44
def ff:List (Int×Int)->Int->Option Int
 | [],_=>none
 | p::r,n=>if n≤p.2 then some (if n > p.1 then n else p.1) else ff r n
def Srt (ps:List (Int×Int)):Prop:=ps.Pairwise (fun a b=>a.2 < b.1)∧∀ p∈ps,p.1≤p.2
def Mem (ps:List (Int×Int)) (m:Int):Prop:=∃ p∈ps,p.1≤m∧m≤p.2
theorem Srt.tail {p:Int×Int}{r:List (Int×Int)} (h:Srt (p::r)):Srt r:=⟨(List.pairwise_cons.mp h.1).2,fun q m=>h.2 q (List.mem_cons_of_mem _ m)⟩
theorem Srt.mono {ps:List (Int×Int)} (h:Srt ps) {i j:Nat}{p q:Int×Int} (hi:ps[i]?=some p) (hj:ps[j]?=some q) (hij:i≤j):p.2≤q.2:=by
 by_cases e:i=j
 · subst e;rw[hi]at hj;cases hj;exact Int.le_refl _
 · obtain⟨li,ei⟩:=List.getElem?_eq_some_iff.mp hi;obtain⟨lj,ej⟩:=List.getElem?_eq_some_iff.mp hj
   have:=List.pairwise_iff_getElem.mp h.1 i j li lj (by omega)
   rw[ei,ej]at this
   have:=h.2 q (List.mem_of_getElem? hj)
   omega
theorem Jj {n:Int}:∀ {ps:List (Int×Int)}{k:Nat},(∀ i p,i < k->ps[i]?=some p->p.2 < n)->k≤ps.length->(∀ p,ps[k]?=some p->n≤p.2) ->
   ff ps n=(ps[k]?).map fun p=>if n > p.1 then n else p.1
 | [],k,_,hk,_=>by
   have:k=0:=by simpa using hk
   subst this;rfl
 | p::r,0,_,_,h=>by
   have:=h p rfl
   show (if n≤p.2 then _ else _)=_;rw[if_pos this];rfl
 | p::r,k+1,h1,hk,h2=>by
   have:=h1 0 p (by omega) rfl
   show (if n≤p.2 then _ else _)=_;rw[if_neg (by omega)];rw[Jj (ps:=r) (k:=k) (fun i q hi e=>h1 (i+1) q (by omega) (by simpa using e)) (by simpa using hk) (fun q e=>h2 q (by simpa using e))];simp
theorem qcl {m:Int}:∀ {ps:List (Int×Int)},Srt ps->Mem ps m->ff ps m=some m
 | [],_,⟨p,mp,_⟩=>by cases mp
 | p::r,h,⟨q,mq,h1,h2⟩=>by
   show (if m≤p.2 then _ else _)=_;rcases List.mem_cons.mp mq with e|mq
   · subst e;rw[if_pos h2];by_cases g:m > q.1
     · rw[if_pos g]
     · rw[if_neg g,show q.1=m by omega]
   · have:=(List.pairwise_cons.mp h.1).1 q mq
     rw[if_neg (by omega)];exact qcl h.tail ⟨q,mq,h1,h2⟩
theorem qdF {n m:Int}:∀ {ps:List (Int×Int)},(∀ p∈ps,p.1≤p.2)->ff ps n=some m->Mem ps m
 | [],_,h=>by cases h
 | p::r,hs,h=>by
   have hp:=hs p List.mem_cons_self;by_cases g:n≤p.2
   · have h':(if n≤p.2 then some (if n > p.1 then n else p.1) else ff r n)=some m:=h;rw[if_pos g]at h';refine⟨p,List.mem_cons_self,?_⟩;injection h' with h';split at h'<;>omega
   · have h':(if n≤p.2 then some (if n > p.1 then n else p.1) else ff r n)=some m:=h;rw[if_neg g]at h';obtain⟨q,mq,z⟩:=qdF (fun p m=>hs p (List.mem_cons_of_mem _ m)) h';exact⟨q,List.mem_cons_of_mem _ mq,z⟩
def lob (pss:List (List (Int×Int))) (lows:List (Option Int)) (b:Nat×Nat×Int):Option Int :=
 match lows[b.1]?,lows[b.2.1]? with
 | some (some x),some (some y)=>if y+b.2.2 > x then ff (pss.getD b.1 []) (y+b.2.2) else some x
 | some o,_=>o
 | _,_=>none
end K44
namespace K45
open K44
abbrev B3:=Nat×Nat×Int
abbrev Sps:=List (List (Int×Int))
def cnt (ps:List (Int×Int)) (x:Int):Nat:=(ps.filter fun p=>decide (x≤p.2)).length
theorem Zj {α:Type}{P R:α->Bool}:∀ {l:List α},(∀ q∈l,P q=true->R q=true)->(l.filter P).length≤(l.filter R).length
 | [],_=>Nat.le_refl _
 | a::l,h=>by
   have ih:=Zj (l:=l) fun q m=>h q (List.mem_cons_of_mem _ m);have ha:=h a List.mem_cons_self;rw[List.filter_cons,List.filter_cons];cases hp:P a<;>cases hr:R a<;>simp_all<;>omega
theorem jq {α:Type}{P R:α->Bool}:∀ {l:List α},(∀ q∈l,P q=true->R q=true)->(∃ q∈l,R q=true∧P q=false)->(l.filter P).length < (l.filter R).length
 | [],_,⟨q,m,_⟩=>nomatch m
 | a::l,h,⟨q,m,hr,hp⟩=>by
   have h':∀ q∈l,P q=true->R q=true:=fun q m=>h q (List.mem_cons_of_mem _ m);have le:=Zj h';rw[List.filter_cons,List.filter_cons];rcases List.mem_cons.mp m with e|m
   · subst e;rw[hp,hr];simp;omega
   · have lt:=jq h' ⟨q,m,hr,hp⟩;have ha:=h a List.mem_cons_self;cases hp':P a<;>cases hr':R a<;>simp_all<;>omega
theorem qbL {ps:List (Int×Int)}{x y:Int} (h:x≤y):cnt ps y≤cnt ps x:=Zj fun q _ e=>by simp at e ⊢;omega
theorem qbG {t y:Int}:∀ {ps:List (Int×Int)},ff ps t=some y->t≤y
 | [],e=>by cases e
 | p::r,e=>by
   unfold ff at e;split at e
   · cases e;omega
   · exact qbG e
theorem qbM {ps:List (Int×Int)}{x t y:Int} (hs:Srt ps) (hx:Mem ps x) (lt:x < t) (e:ff ps t=some y) (ne:y≠t):cnt ps y < cnt ps x:=by
 have ge:=qbG e;obtain⟨p,mp,h1,h2⟩:=hx
 have hp:p.2 < t:=by
   by_cases g:p.2 < t
   · exact g
   · exact absurd (Option.some.inj (e.symm.trans (qcl hs ⟨p,mp,by omega,by omega⟩))) ne
 exact jq (fun q _ e=>by simp at e ⊢;omega) ⟨p,mp,by simpa using h2,by simp;omega⟩
def pot:Sps->List Int->Nat
 | p::r,x::s=>cnt p x+pot r s
 | _,_=>0
theorem ZD:∀ {pss:Sps}{lows:List Int}{i:Nat}{y:Int},lows.getD i 0≤y->pot pss (lows.set i y)≤pot pss lows
 | [],lows,i,y,_=>by simp[pot]
 | p::r,[],i,y,_=>by simp[pot]
 | p::r,x::s,0,y,h=>by
   have:=qbL (ps:=p) (show x≤y from h)
   simp only[List.set_cons_zero,pot];omega
 | p::r,x::s,i+1,y,h=>by
   have:=ZD (pss:=r) (lows:=s) (i:=i) (y:=y) (by simpa using h)
   simp only[List.set_cons_succ,pot];omega
theorem ZC:∀ {pss:Sps}{lows:List Int}{i:Nat}{y:Int},i < pss.length->i < lows.length->cnt (pss.getD i []) y < cnt (pss.getD i []) (lows.getD i 0)->pot pss (lows.set i y) < pot pss lows
 | [],lows,i,y,h,_,_=>absurd h (by simp)
 | p::r,[],i,y,_,h,_=>absurd h (by simp)
 | p::r,x::s,0,y,_,_,h=>by
   simp only[List.set_cons_zero,pot]
   have:cnt p y < cnt p x:=h
   omega
 | p::r,x::s,i+1,y,h1,h2,h=>by
   have:=ZC (pss:=r) (lows:=s) (i:=i) (y:=y) (by simpa using h1) (by simpa using h2) (by simpa using h)
   simp only[List.set_cons_succ,pot];omega
theorem getD_set {α:Type}{xs:List α}{i j:Nat}{v d:α} (h:i < xs.length):(xs.set i v).getD j d=if j=i then v else xs.getD j d:=by
 rw[List.getD_eq_getElem?_getD,List.getD_eq_getElem?_getD,List.getElem?_set];by_cases e:i=j
 · subst e;rw[if_pos rfl,if_pos h,if_pos rfl];rfl
 · rw[if_neg e,if_neg (fun z=>e z.symm)]
def LI (pss:Sps) (lows:List Int):Prop:=lows.length=pss.length∧∀ i,i < pss.length->Mem (pss.getD i []) (lows.getD i 0)
def dd (lows:List Int) (hs:List Int) (i:Nat):Int:=lows.getD i 0 - hs.getD i 0
def Hk (bds:List B3) (hs:List Int):Prop:=∀ b∈bds,hs.getD b.2.1 0+b.2.2≤hs.getD b.1 0
structure Ph (pss:Sps) (bds:List B3) (hs lows:List Int) (wt P:List Nat):Prop where
 li:LI pss lows
 pn:P.Nodup
 pl:∀ i∈P,i < pss.length
 wl:∀ i∈wt,i < pss.length
 dj:∀ i∈P,i∉wt
 le:∀ i∈P,∀ j∈wt,dd lows hs j≤dd lows hs i
 kp:∀ b∈bds,b.2.1∉wt->lows.getD b.2.1 0+b.2.2≤lows.getD b.1 0
structure Tn (pss:Sps) (bds:List B3) (hs lows0 lows:List Int) (wt P:List Nat) (e:Nat) (ks:List Nat):Prop where
 li:LI pss lows
 same:lows.getD e 0=lows0.getD e 0
 pn:P.Nodup
 pl:∀ i∈P,i < pss.length
 el:e < pss.length
 eP:e∉P
 wl:∀ i∈wt,i < pss.length
 ew:e∉wt
 pt:pot pss lows≤pot pss lows0
 ph:pot pss lows < pot pss lows0∨((∀ i∈P,i∉wt)∧(∀ i∈P,dd lows hs e≤dd lows hs i)∧∀ j∈wt,dd lows hs j≤dd lows hs e)
 kp:∀ k b,bds[k]?=some b->b.2.1∉wt->(b.2.1=e->k∉ks)->lows.getD b.2.1 0+b.2.2≤lows.getD b.1 0
section
variable {pss:Sps}{bds:List B3}{hs lows0 lows:List Int}{wt P:List Nat}{e:Nat}{ks:List Nat}
theorem Ph.turn (h:Ph pss bds hs lows wt P) {wt':List Nat} (me:e∈wt) (top:∀ j∈wt,dd lows hs j≤dd lows hs e) (hw:∀ j,j∈wt'↔j∈wt∧j≠e) (hk:∀ k b,bds[k]?=some b->b.2.1=e->k∈ks):Tn pss bds hs lows lows wt' P e ks :=
 ⟨h.li,rfl,h.pn,h.pl,h.wl e me,fun m=>h.dj e m me,fun i m=>h.wl i ((hw i).mp m).1,fun m=>((hw e).mp m).2 rfl,Nat.le_refl _,.inr ⟨fun i m m'=>h.dj i m ((hw i).mp m').1,fun i m=>h.le i m e me,fun j m=>top j ((hw j).mp m).1⟩,
   fun k b hb n1 n2=>h.kp b (List.mem_of_getElem? hb) fun m=>by
     by_cases z:b.2.1=e
     · exact n2 z (hk k b hb z)
     · exact n1 ((hw _).mpr ⟨m,z⟩)⟩
theorem Tn.skip (h:Tn pss bds hs lows0 lows wt P e (k::ks)) {b:B3} (hb:bds[k]?=some b) (he:b.2.1=e) (no:lows.getD e 0+b.2.2≤lows.getD b.1 0):Tn pss bds hs lows0 lows wt P e ks :=
 ⟨h.li,h.same,h.pn,h.pl,h.el,h.eP,h.wl,h.ew,h.pt,h.ph,fun k' b' hb' n1 n2=>by
   by_cases z:k'=k∧b'.2.1=e
   · obtain⟨z1,z2⟩:=z;subst z1;rw[hb]at hb';cases hb';rw[z2];exact no
   · exact h.kp k' b' hb' n1 fun q m=>by
       rcases List.mem_cons.mp m with m|m
       · exact z ⟨m,q⟩
       · exact n2 q m⟩
theorem Tn.rise (hS:∀ ps∈pss,Srt ps) (hH:Hk bds hs) (hF:∀ b∈bds,b.1 < pss.length∧b.2.1 < pss.length) (h:Tn pss bds hs lows0 lows wt P e (k::ks)) {b:B3}{y:Int}{wt':List Nat} (hb:bds[k]?=some b) (he:b.2.1=e) (up:lows.getD b.1 0 < lows.getD e 0+b.2.2)
   (hy:ff (pss.getD b.1 []) (lows.getD e 0+b.2.2)=some y) (hw:∀ j,j∈wt'↔j∈wt∨j=b.1):Tn pss bds hs lows0 (lows.set b.1 y) wt' P e ks∧pot pss (lows.set b.1 y)≤pot pss lows:=by
 have mb:=List.mem_of_getElem? hb;obtain⟨lb,_⟩:=hF b mb;have ll:b.1 < lows.length:=by rw[h.li.1];exact lb
 have G:∀ j,(lows.set b.1 y).getD j 0=if j=b.1 then y else lows.getD j 0:=fun j=>getD_set ll
 have hk:=hH b mb;rw[he]at hk;have ne:e≠b.1:=fun z=>by rw[← z]at up hk;omega
 have ge:=qbG hy;have mS:pss.getD b.1 []∈pss:=by rw[List.getD_eq_getElem?_getD,List.getElem?_eq_getElem lb];exact List.getElem_mem lb
 have my:Mem (pss.getD b.1 []) y:=qdF (hS _ mS).2 hy;have le:=ZD (pss:=pss) (lows:=lows) (i:=b.1) (y:=y) (by omega);have Ge:(lows.set b.1 y).getD e 0=lows.getD e 0:=by rw[G e,if_neg ne]
 refine⟨⟨⟨by rw[List.length_set];exact h.li.1,fun i hi=>?_⟩,by rw[Ge];exact h.same,h.pn,h.pl,h.el,h.eP,fun i m=>?_,fun m=>?_,Nat.le_trans le h.pt,?_,fun k' b' hb' n1 n2=>?_⟩,le⟩
 · rw[G i];split
   · rename_i z;rw[z];exact my
   · exact h.li.2 i hi
 · rcases (hw i).mp m with m|m
   · exact h.wl i m
   · rw[m];exact lb
 · rcases (hw e).mp m with m|m
   · exact h.ew m
   · exact ne m
 · by_cases z:y=lows.getD e 0+b.2.2
   · rcases h.ph with q|⟨q1,q2,q3⟩
     · exact .inl (Nat.lt_of_le_of_lt le q)
     · have dy:dd (lows.set b.1 y) hs b.1≤dd lows hs e:=by unfold dd;rw[G b.1,if_pos rfl,z];omega
       have de:dd (lows.set b.1 y) hs e=dd lows hs e:=by unfold dd;rw[Ge]
       have bP:b.1∉P:=fun m=>by
         have:=q2 b.1 m
         unfold dd at this;omega
       have dP:∀ i∈P,dd (lows.set b.1 y) hs i=dd lows hs i:=fun i m=>by unfold dd;rw[G i,if_neg (fun z:i=b.1=>bP (z▸m))]
       refine .inr ⟨fun i m m'=>?_,fun i m=>by rw[de,dP i m];exact q2 i m,fun j m=>?_⟩
       · rcases (hw i).mp m' with m'|m'
         · exact q1 i m m'
         · exact bP (m'▸m)
       · rw[de];by_cases zj:j=b.1
         · rw[zj];exact dy
         · have:dd (lows.set b.1 y) hs j=dd lows hs j:=by unfold dd;rw[G j,if_neg zj]
           rw[this];rcases (hw j).mp m with m|m
           · exact q3 j m
           · exact absurd m zj
   · refine .inl (Nat.lt_of_lt_of_le (ZC lb ll (qbM (hS _ mS) (h.li.2 b.1 lb) up hy z)) h.pt)
 · have n1':b'.2.1∉wt∧b'.2.1≠b.1:=⟨fun m=>n1 ((hw _).mpr (.inl m)),fun m=>n1 ((hw _).mpr (.inr m))⟩
   rw[G b'.2.1,if_neg n1'.2,G b'.1]
   have old:(¬ (k'=k∧b'.2.1=e))->lows.getD b'.2.1 0+b'.2.2≤lows.getD b'.1 0:=fun z=>h.kp k' b' hb' n1'.1 fun q m=>by
     rcases List.mem_cons.mp m with m|m
     · exact z ⟨m,q⟩
     · exact n2 q m
   by_cases z:k'=k∧b'.2.1=e
   · obtain⟨z1,z2⟩:=z;subst z1;rw[hb]at hb';cases hb';rw[if_pos rfl,z2];exact ge
   · have:=old z
     split
     · rename_i q;rw[q]at this;omega
     · exact this
def mu (pss:Sps) (lows:List Int) (P:List Nat):Nat:=(pss.length+1) * pot pss lows+(pss.length - P.length)
theorem Tn.done (h:Tn pss bds hs lows0 lows wt P e []):∃ P',Ph pss bds hs lows wt P'∧mu pss lows P' < mu pss lows0 P:=by
 have kp:∀ b∈bds,b.2.1∉wt->lows.getD b.2.1 0+b.2.2≤lows.getD b.1 0:=fun b m n=>by
   obtain⟨k,hk⟩:=List.getElem?_of_mem m;exact h.kp k b hk n fun _ z=>nomatch z
 have pn:=K43.nodup_le pss.length (e::P) (List.nodup_cons.mpr ⟨h.eP,h.pn⟩) fun x m=>by
   rcases List.mem_cons.mp m with m|m
   · rw[m];exact h.el
   · exact h.pl x m
 rw[List.length_cons]at pn;have pt:=h.pt;rcases h.ph with q|⟨q1,q2,q3⟩
 · refine⟨[],⟨h.li,List.nodup_nil,(fun _ m=>nomatch m),h.wl,(fun _ m=>nomatch m),(fun _ m=>nomatch m),kp⟩,?_⟩;unfold mu
   have:(pss.length+1) * (pot pss lows+1)≤(pss.length+1) * pot pss lows0:=Nat.mul_le_mul_left _ q
   rw[Nat.mul_add]at this;rw[List.length_nil];omega
 · refine⟨e::P,⟨h.li,List.nodup_cons.mpr ⟨h.eP,h.pn⟩,fun i m=>?_,h.wl,fun i m=>?_,fun i m j mj=>?_,kp⟩,?_⟩
   · rcases List.mem_cons.mp m with m|m
     · rw[m];exact h.el
     · exact h.pl i m
   · rcases List.mem_cons.mp m with m|m
     · rw[m];exact h.ew
     · exact q1 i m
   · rcases List.mem_cons.mp m with m|m
     · rw[m];exact q3 j mj
     · exact Int.le_trans (q3 j mj) (q2 i m)
   · unfold mu
     have:(pss.length+1) * pot pss lows≤(pss.length+1) * pot pss lows0:=Nat.mul_le_mul_left _ pt
     rw[List.length_cons];omega
theorem Ph.start (li:LI pss lows) {wt:List Nat} (hw:∀ i,i∈wt↔i < pss.length) (hF:∀ b∈bds,b.1 < pss.length∧b.2.1 < pss.length):Ph pss bds hs lows wt [] :=
 ⟨li,List.nodup_nil,(fun _ m=>nomatch m),fun i m=>(hw i).mp m,(fun _ m=>nomatch m),(fun _ m=>nomatch m),fun b m n=>absurd ((hw _).mpr (hF b m).2) n⟩
end
def rp1 (pss:Sps) (bds:List B3) (s:List Int×Option Nat) (k:Nat):List Int×Option Nat :=
 match ff (pss.getD (bds.getD k (0,0,0)).1 []) (s.1.getD (bds.getD k (0,0,0)).2.1 0+(bds.getD k (0,0,0)).2.2) with
 | none=>(s.1,some (bds.getD k (0,0,0)).1)
 | some y=>(s.1.set (bds.getD k (0,0,0)).1 y,none)
def rst (pss:Sps) (bds:List B3) (l0:List Int) (steps:List Nat):List Int×Option Nat:=steps.foldl (rp1 pss bds) (l0,none)
theorem ZW {pss:Sps}{bds:List B3}{l0:List Int}{st:List Nat}{k:Nat}:rst pss bds l0 (st++[k])=rp1 pss bds (rst pss bds l0 st) k:=by unfold rst;rw[List.foldl_append];rfl
def Gd (pss:Sps) (bds:List B3) (l0:List Int) (steps:List Nat):Prop:=∀ (i:Nat) (k:Nat),steps[i]?=some k->k < bds.length∧(rst pss bds l0 (steps.take i)).2=none ∧
 (rst pss bds l0 (steps.take i)).1.getD (bds.getD k (0,0,0)).1 0 < (rst pss bds l0 (steps.take i)).1.getD (bds.getD k (0,0,0)).2.1 0+(bds.getD k (0,0,0)).2.2
theorem Gd.nil {pss:Sps}{bds:List B3}{l0:List Int}:Gd pss bds l0 []:=fun i k e=>by simp at e
theorem Gd.snoc {pss:Sps}{bds:List B3}{l0 ls:List Int}{st:List Nat}{k:Nat}{b:B3} (h:Gd pss bds l0 st) (hr:rst pss bds l0 st=(ls,none)) (hb:bds[k]?=some b) (up:ls.getD b.1 0 < ls.getD b.2.1 0+b.2.2):Gd pss bds l0 (st++[k]):=fun i j e=>by
 have hk:k < bds.length:=(List.getElem?_eq_some_iff.mp hb).1;have eb:bds.getD k (0,0,0)=b:=by rw[List.getD_eq_getElem?_getD,hb];rfl
 by_cases lt:i < st.length
 · rw[List.getElem?_append_left lt]at e;rw[List.take_append_of_le_length (by omega)];exact h i j e
 · rw[List.getElem?_append_right (by omega)]at e
   have e0:i - st.length=0:=by
     have:=(List.getElem?_eq_some_iff.mp e).1
     simp at this;omega
   rw[e0]at e;cases e;have ei:i=st.length:=by omega
   rw[ei,List.take_left,hr,eb];exact⟨hk,rfl,up⟩
theorem qbY {pss:Sps}{bds:List B3}{ls:List Int}{p:Option Nat}{k:Nat}{b:B3}{y:Int} (hb:bds[k]?=some b) (e:ff (pss.getD b.1 []) (ls.getD b.2.1 0+b.2.2)=some y):rp1 pss bds (ls,p) k=(ls.set b.1 y,none):=by
 have eb:bds.getD k (0,0,0)=b:=by rw[List.getD_eq_getElem?_getD,hb];rfl
 unfold rp1;rw[eb];simp only[e]
theorem J9 {pss:Sps}{bds:List B3}{ls:List Int}{p:Option Nat}{k:Nat}{b:B3} (hb:bds[k]?=some b) (e:ff (pss.getD b.1 []) (ls.getD b.2.1 0+b.2.2)=none):rp1 pss bds (ls,p) k=(ls,some b.1):=by
 have eb:bds.getD k (0,0,0)=b:=by rw[List.getD_eq_getElem?_getD,hb];rfl
 unfold rp1;rw[eb];simp only[e]
theorem qdJ (ps:List (Int×Int)) (x:Int):cnt ps x≤ps.length:=List.length_filter_le _ _
theorem qca {c:Nat}:∀ {pss:Sps}{lows:List Int},(∀ ps∈pss,ps.length≤c)->pot pss lows≤pss.length * c
 | [],_,_=>by simp[pot]
 | p::r,[],_=>by simp[pot]
 | p::r,x::s,h=>by
   have h1:=Nat.le_trans (qdJ p x) (h p List.mem_cons_self);have h2:=qca (pss:=r) (lows:=s) fun ps m=>h ps (List.mem_cons_of_mem _ m);simp only[pot,List.length_cons,Nat.succ_mul];omega
open K43 in
theorem qcI {bds:List B3}{n:Nat} (hB:0 < bds.length) (F:Fx bds n) {g:Nat->Int} (hg:∀ b∈bds,g b.2.1+b.2.2≤g b.1) {x:Nat} (hx:x < n) (ht:(n - 1) * bds.length < tau bds n (n * bds.length) x):False:=by
 obtain⟨_,_,⟨p,p0,pn,he⟩,hc⟩:=qcE hB F hx ht;have I:=iv hB F (n * bds.length);generalize n * bds.length=T at *;generalize hs:iter (gg bds n T) n x=s at *
 -- the least ring
 have ex:∃ L,0 < L∧iter (gg bds n T) L s=s:=⟨p,p0,he⟩
 have lst:∃ L,(0 < L∧iter (gg bds n T) L s=s)∧∀ t,t < L->¬ (0 < t∧iter (gg bds n T) t s=s):=by
   have:∀ m,(∃ L,L≤m∧0 < L∧iter (gg bds n T) L s=s)->∃ L,(0 < L∧iter (gg bds n T) L s=s)∧∀ t,t < L->¬ (0 < t∧iter (gg bds n T) t s=s):=by
     intro m
     induction m with
     | zero=>rintro⟨L,h,h0,_⟩;omega
     | succ m ih =>
       rintro⟨L,h,h0,e⟩;by_cases q:∃ L,L≤m∧0 < L∧iter (gg bds n T) L s=s
       · exact ih q
       · exact⟨L,⟨h0,e⟩,fun t ht ⟨t0,et⟩=>q ⟨t,by omega,t0,et⟩⟩
   exact this p ⟨p,Nat.le_refl _,p0,he⟩
 obtain⟨L,⟨L0,eL⟩,mn⟩:=lst;have pos:=qbb I L0 hc eL fun t t0 tl e=>mn t tl ⟨t0,e⟩
 have le:∀ t,sm (fun t=>(bds.getD ((cc bds n T (iter (gg bds n T) t s)).getD 0) (0,0,0)).2.2) t≤g s - g (iter (gg bds n T) t s):=by
   intro t
   induction t with
   | zero=>show (0:Int)≤g s - g s;omega
   | succ t ih =>
     obtain⟨k,ek⟩:=hc t;obtain⟨k1,k2,_⟩:=I.i2 _ k ek;have mb:bds.getD k (0,0,0)∈bds:=by rw[List.getD_eq_getElem?_getD,List.getElem?_eq_getElem k1];exact List.getElem_mem k1
     have hb:=hg _ mb;rw[k2]at hb;have eg:iter (gg bds n T) (t+1) s=(bds.getD k (0,0,0)).2.1:=qbA ek;show sm _ t+_≤_;rw[eg];simp only[ek,Option.getD_some];omega
 have:=le L
 rw[eL]at this;omega
end K45
namespace K45
open PySem L2 PyProof.Rows K43 K44
open PySem.W (Frag keepIn fnOf codeIn nsIn)
def top (i:Nat):Stmt:=PySem.Challenge.pw_foldlog_k45_lows_raised.main.body.getD i (.Pass ⟨0,0,0,0⟩)
abbrev QI:Stmt:=top 2
theorem sc_place_from:qt ["spans","number","low","high","middle"] ["spans","number"] (qh QI):=⟨rfl,rfl,rfl,by decide +kernel,rfl,by decide +kernel,by decide +kernel⟩
abbrev QL:Stmt:=top 3
theorem sc_first_from:qt ["spans","number","place"] ["spans","number"] (qh QL):=⟨rfl,rfl,rfl,by decide +kernel,rfl,by decide +kernel,by decide +kernel⟩
abbrev J3:Stmt:=top 8
theorem sc_climb:qt ["bonds","heights","came_by","risen","number","bond","height"] ["bonds","heights","came_by"] (qh J3):=⟨rfl,rfl,rfl,by decide +kernel,rfl,by decide +kernel,by decide +kernel⟩
abbrev jf:Stmt:=top 9
theorem sc_climbed:qt ["frame","bonds","many","heights","came_by","risen","turn"] ["frame"] (qh jf):=⟨rfl,rfl,rfl,by decide +kernel,rfl,by decide +kernel,by decide +kernel⟩
abbrev QK:Stmt:=top 10
theorem ZU:qt ["frame"] ["frame"] (qh QK):=⟨rfl,rfl,rfl,by decide +kernel,rfl,by decide +kernel,by decide +kernel⟩
abbrev QJ:Stmt:=top 12
theorem sc_low_behind:qt ["spans","lows","bond","low","ahead"] ["spans","lows","bond"] (qh QJ):=⟨rfl,rfl,rfl,by decide +kernel,rfl,by decide +kernel,by decide +kernel⟩
abbrev zR:Stmt:=top 13
theorem sc_numbers_from:qt ["bonds","many","told","number","bond"] ["bonds","many"] (qh zR):=⟨rfl,rfl,rfl,by decide +kernel,rfl,by decide +kernel,by decide +kernel⟩
abbrev zI:Stmt:=top 14
theorem jJ:qt ["waiting","lows","heights"] ["waiting","lows","heights"] (qh zI):=⟨rfl,rfl,rfl,by decide +kernel,rfl,by decide +kernel,by decide +kernel⟩
abbrev j4:Stmt:=top 16
theorem sc_raised:qt ["frame","lows","told","lifted"] ["frame","lows"] (qh j4):=⟨rfl,rfl,rfl,by decide +kernel,rfl,by decide +kernel,by decide +kernel⟩
abbrev j5:Stmt:=top 18
theorem J1:qt ["spans"] ["spans"] (qh j5):=⟨rfl,rfl,rfl,by decide +kernel,rfl,by decide +kernel,by decide +kernel⟩
abbrev J6:Stmt:=top 21
theorem sc_Lpool:qt ["_law_script","_law_k","_law_cell","_law_first_here"] ["_law_script","_law_k"] (qh J6):=⟨rfl,rfl,rfl,by decide +kernel,rfl,by decide +kernel,by decide +kernel⟩
abbrev J4:Stmt:=top 22
theorem sc_Ltake:qt ["_law_pool_here","_law_m","_law_found"] ["_law_pool_here","_law_m"] (qh J4):=⟨rfl,rfl,rfl,by decide +kernel,rfl,by decide +kernel,by decide +kernel⟩
abbrev J5:Stmt:=top 23
theorem qa9:qt ["_law_found","_law_due"] ["_law_found","_law_due"] (qh J5):=⟨rfl,rfl,rfl,by decide +kernel,rfl,by decide +kernel,by decide +kernel⟩
abbrev j8:Stmt:=top 24
theorem sc_Lfirst:qt ["_law_spans_here","_law_number","_law_low_here","_law_high"] ["_law_spans_here","_law_number"] (qh j8):=⟨rfl,rfl,rfl,by decide +kernel,rfl,by decide +kernel,by decide +kernel⟩
abbrev j6:Stmt:=top 26
theorem sc_Lspans:qt ["_law_pool_here","_law_height","_law_low_here","_law_found","_law_k","_law_high"] ["_law_pool_here","_law_height"] (qh j6):=⟨rfl,rfl,rfl,by decide +kernel,rfl,by decide +kernel,by decide +kernel⟩
abbrev J7:Stmt:=top 27
theorem sc_Lbond:qt ["_law_pool_here","_law_heights","_law_later","_law_earlier","_law_minutes"] ["_law_pool_here","_law_heights"] (qh J7):=⟨rfl,rfl,rfl,by decide +kernel,rfl,by decide +kernel,by decide +kernel⟩
abbrev qbX:Stmt:=top 28
theorem sc_Llow:qt ["_law_pool_here","_law_spans_here","_law_low_here","_law_high"] ["_law_pool_here","_law_spans_here"] (qh qbX):=⟨rfl,rfl,rfl,by decide +kernel,rfl,by decide +kernel,by decide +kernel⟩
abbrev j7:Stmt:=top 29
theorem sc_Lkeeps:qt ["_law_lows","_law_bonds","_law_later","_law_earlier","_law_minutes"] ["_law_lows","_law_bonds"] (qh j7):=⟨rfl,rfl,rfl,by decide +kernel,rfl,by decide +kernel,by decide +kernel⟩
abbrev jh:Stmt:=top 30
theorem sc_Lis_row:qt ["_law_steps","_law_bonds","_law_number"] ["_law_steps","_law_bonds"] (qh jh):=⟨rfl,rfl,rfl,by decide +kernel,rfl,by decide +kernel,by decide +kernel⟩
abbrev jg:Stmt:=top 31
theorem sc_Ljudged:qt ["_law_found","_law_spans_here","_law_bonds","_law_lows","_law_past","_law_number","_law_later","_law_earlier","_law_minutes","_law_low_here"] ["_law_found","_law_spans_here","_law_bonds","_law_lows"] (qh jg):=⟨rfl,rfl,rfl,by decide +kernel,rfl,by decide +kernel,by decide +kernel⟩
abbrev qdh:Stmt:=top 32
theorem sc_law:qt ["_law_script","_law_head","_law_far","_law_size","_law_heights","_law_spans_here","_law_bonds","_law_k","_law_lows","_law_frame","_law_handed","_law_found","_law_again"] ["_law_script"] (qh qdh):=⟨rfl,rfl,rfl,by decide +kernel,rfl,by decide +kernel,by decide +kernel⟩
abbrev Qi:Stmt:=Zh (top 15) 0
theorem Zp:qt ["self","frame"] ["self","frame"] (qh Qi):=⟨rfl,rfl,rfl,by decide +kernel,rfl,by decide +kernel,by decide +kernel⟩
abbrev Qh:Stmt:=Zh (top 15) 1
theorem sc_Raiser_lift:qt ["self","lows","entries","steps","waiting","entry","number","later","low"] ["self","lows","entries"] (qh Qh):=⟨rfl,rfl,rfl,by decide +kernel,rfl,by decide +kernel,by decide +kernel⟩
abbrev QM:Stmt:=Zh (top 19) 0
theorem ZV:qt ["self","spans","bonds"] ["self","spans","bonds"] (qh QM):=⟨rfl,rfl,rfl,by decide +kernel,rfl,by decide +kernel,by decide +kernel⟩
abbrev Qj:Stmt:=Zh (top 19) 1
theorem Zq:qt ["self"] ["self"] (qh Qj):=⟨rfl,rfl,rfl,by decide +kernel,rfl,by decide +kernel,by decide +kernel⟩
abbrev Qk:Stmt:=Zh (top 19) 2
theorem Zr:qt ["self"] ["self"] (qh Qk):=⟨rfl,rfl,rfl,by decide +kernel,rfl,by decide +kernel,by decide +kernel⟩
set_option genInjectivity false in
structure Ad where
 c_Raiser:Addr
 c_Frame:Addr
 k_furthest:Addr
 t_furthest:Addr
 f_j:Addr
 fd_j:FuncData
 f_k:Addr
 fd_k:FuncData
 f_l:Addr
 fd_l:FuncData
 f_m:Addr
 fd_m:FuncData
 f_n:Addr
 fd_n:FuncData
 f_o:Addr
 fd_o:FuncData
 f_p:Addr
 fd_p:FuncData
 f_i:Addr
 fd_i:FuncData
 f_e:Addr
 fd_e:FuncData
 f_g:Addr
 fd_g:FuncData
 f_f:Addr
 fd_f:FuncData
 f_a:Addr
 fd_a:FuncData
 f_b:Addr
 fd_b:FuncData
 f_q:Addr
 fd_q:FuncData
 f_r:Addr
 fd_r:FuncData
 f_s:Addr
 fd_s:FuncData
 f_t:Addr
 fd_t:FuncData
 f_u:Addr
 fd_u:FuncData
 f_v:Addr
 fd_v:FuncData
 f_h:Addr
 fd_h:FuncData
 f_z:Addr
 fd_z:FuncData
 f_w:Addr
 fd_w:FuncData
 f_x:Addr
 fd_x:FuncData
 f_y:Addr
 fd_y:FuncData
 f_c:Addr
 fd_c:FuncData
 f_d:Addr
 fd_d:FuncData
structure DfM (K:Frag) (C:Addr) (x q:Str) (st:Stmt) (ps:List Str) (f:Addr) (fd:FuncData):Prop where
 F:Fun K x q st f fd
 b:Binds K fd ps []
 mt:qdQ K C x f
structure Txt (K:Frag) (mg:Str->Option Value) (a:Ad):Prop where
 d_j:Df K mg "place_from" QI ["spans","number"] a.f_j a.fd_j
 d_k:Df K mg "first_from" QL ["spans","number"] a.f_k a.fd_k
 d_l:Df K mg "climb" J3 ["bonds","heights","came_by"] a.f_l a.fd_l
 d_m:Df K mg "climbed" jf ["frame"] a.f_m a.fd_m
 d_n:Df K mg "heights_of" QK ["frame"] a.f_n a.fd_n
 d_o:Df K mg "low_behind" QJ ["spans","lows","bond"] a.f_o a.fd_o
 d_p:Df K mg "numbers_from" zR ["bonds","many"] a.f_p a.fd_p
 d_i:Df K mg "furthest" zI ["waiting","lows","heights"] a.f_i a.fd_i
 d_e:Df K mg "raised" j4 ["frame","lows"] a.f_e a.fd_e
 d_g:Df K mg "copies" j5 ["spans"] a.f_g a.fd_g
 d_f:Df K mg "_law_pool" J6 ["_law_script","_law_k"] a.f_f a.fd_f
 d_a:Df K mg "_law_take" J4 ["_law_pool_here","_law_m"] a.f_a a.fd_a
 d_b:Df K mg "_law_same" J5 ["_law_found","_law_due"] a.f_b a.fd_b
 d_q:Df K mg "_law_first" j8 ["_law_spans_here","_law_number"] a.f_q a.fd_q
 d_r:Df K mg "_law_spans" j6 ["_law_pool_here","_law_height"] a.f_r a.fd_r
 d_s:Df K mg "_law_bond" J7 ["_law_pool_here","_law_heights"] a.f_s a.fd_s
 d_t:Df K mg "_law_low" qbX ["_law_pool_here","_law_spans_here"] a.f_t a.fd_t
 d_u:Df K mg "_law_keeps" j7 ["_law_lows","_law_bonds"] a.f_u a.fd_u
 d_v:Df K mg "_law_is_row" jh ["_law_steps","_law_bonds"] a.f_v a.fd_v
 d_h:Df K mg "_law_judged" jg ["_law_found","_law_spans_here","_law_bonds","_law_lows"] a.f_h a.fd_h
 d_z:Df K mg "law" qdh ["_law_script"] a.f_z a.fd_z
 d_w:DfM K a.c_Raiser "__init__" "Raiser.__init__" Qi ["self","frame"] a.f_w a.fd_w
 d_x:DfM K a.c_Raiser "lift" "Raiser.lift" Qh ["self","lows","entries"] a.f_x a.fd_x
 d_y:DfM K a.c_Frame "__init__" "Frame.__init__" QM ["self","spans","bonds"] a.f_y a.fd_y
 d_c:DfM K a.c_Frame "spans" "Frame.spans" Qj ["self"] a.f_c a.fd_c
 d_d:DfM K a.c_Frame "bonds" "Frame.bonds" Qk ["self"] a.f_d a.fd_d
 g_Raiser:mg "Raiser"=some (.ref a.c_Raiser)
 cl_Raiser:Cls K a.c_Raiser
 M_Raiser:Mk K a.c_Raiser a.f_w
 n_Raiser_kept_spans:NoAttr K a.c_Raiser "kept_spans"
 n_Raiser_kept_bonds:NoAttr K a.c_Raiser "kept_bonds"
 n_Raiser_heights:NoAttr K a.c_Raiser "heights"
 n_Raiser_onwards:NoAttr K a.c_Raiser "onwards"
 g_Frame:mg "Frame"=some (.ref a.c_Frame)
 cl_Frame:Cls K a.c_Frame
 M_Frame:Mk K a.c_Frame a.f_y
 n_Frame_kept_spans:NoAttr K a.c_Frame "kept_spans"
 n_Frame_kept_bonds:NoAttr K a.c_Frame "kept_bonds"
 n_len:mg "len"=none
 n_max:mg "max"=none
 n_min:mg "min"=none
 n_abs:mg "abs"=none
 n_isinstance:mg "isinstance"=none
 n_range:mg "range"=none
 n_enumerate:mg "enumerate"=none
 n_int:mg "int"=none
 n_bool:mg "bool"=none
 n_str:mg "str"=none
 n_list:mg "list"=none
 n_tuple:mg "tuple"=none
 n_dict:mg "dict"=none
 n_zip:mg "zip"=none
 n_all:mg "all"=none
 g_LATER:∃ t,mg "LATER"=some (.int 0 t)
 g_EARLIER:∃ t,mg "EARLIER"=some (.int 1 t)
 g_MINUTES:∃ t,mg "MINUTES"=some (.int 2 t)
 cd_furthest:a.fd_i.code=.ref a.k_furthest
 hd_furthest:PySem.W.codeHdIn K a.k_furthest a.t_furthest=true
theorem ZR {α:Type}{xs:List α}{i:Nat}{c:α} (h:xs[i]?=some c):xs.take (i+1)=xs.take i++[c]:=by
 rw[List.take_add_one,h];rfl
theorem zE {α β:Type}{f:α->β}{xs:List α}{i:Nat}{y:β} (h:(xs.map f)[i]?=some y):∃ x,xs[i]?=some x∧y=f x:=by
 rw[List.getElem?_map]at h
 cases e:xs[i]? with
 | none=>rw[e]at h;cases h
 | some x=>rw[e]at h;exact⟨x,rfl,(Option.some.inj h).symm⟩
theorem Z5 {n j:Nat} (h:j < n):ixN n (j:Int)=some j:=by
 unfold ixN;rw[if_pos (by omega),if_pos (by omega)];simp
def g3 (b:B3):List Int:=[(b.1:Int),(b.2.1:Int),b.2.2]
abbrev tr:B3->List V:=fun b=>(g3 b).map V.int
def oN:Option Nat->V
 | none=>.non
 | some k=>.int (k:Int)
def But2 (p q:Addr) (H H':Hp):Prop:=∀ b o,H b=some o->b≠p->b≠q->H' b=some o
theorem But2.same {p q:Addr}{E H H':Hp} (b:But2 p q H H') (s:Same E H) (h1:E p=none) (h2:E q=none):Same E H':=fun c o e=>b c o (s c o e) (qd e h1) (qd e h2)
section
variable {bds:List B3}{n:Nat}
theorem qdK {r i:Nat} (h:i < bds.length):(r * bds.length+i) % bds.length=i∧bd bds (r * bds.length+i)=bds.getD i (0,0,0):=by
 have e:(r * bds.length+i) % bds.length=i:=by
   rw[Nat.mul_comm,Nat.mul_add_mod];exact Nat.mod_eq_of_lt h
 refine⟨e,?_⟩;unfold bd;rw[e]
def qet (bds:List B3) (n j:Nat):Prop:=∀ i,i < bds.length->¬ up bds (st bds n (j * bds.length)).1 (bd bds (j * bds.length+i))=true
def RS (bds:List B3) (n r i:Nat) (rv:V):Prop:=(rv=.non∧st bds n (r * bds.length+i)=st bds n (r * bds.length)∧∀ j,j < i->¬ up bds (st bds n (r * bds.length)).1 (bd bds (r * bds.length+j))=true) ∨
 ∃ x:Nat,rv=.int (x:Int)∧x < n∧r * bds.length < tau bds n (r * bds.length+i) x
theorem qdg {T x:Nat} (h:x < n):atI ((st bds n T).1.map V.int) (x:Int)=some (.int (hh bds n T x)):=by
 refine qJ ?_;have hl:x < (st bds n T).1.length:=by rw[(Zu T).1];exact h
 rw[List.getElem?_map,List.getElem?_eq_getElem hl];unfold hh;rw[List.getD_eq_getElem?_getD,List.getElem?_eq_getElem hl];rfl
end
inductive Q4 (vs:List V) (H:Hp) (Q:VK):Prop
 | mk (b:Addr) (qs:List Addr) (zss:List (List V)) (h1:vs=[.ref b]) (h2:LL H b qs zss) (h3:qs.length≤60) (h4:∀ (d:Addr) (rs:List Addr) (H':Hp),H d=none->(∀ r∈rs,H r=none)->Same H H'->LL H' d rs zss->Q (.ref d) H'):Q4 vs H Q
def Q5:Sp:=fun vs H Q _=>Q4 vs H Q
theorem kn:¬ (("kept_spans":Str)="kept_bonds"):=by decide +kernel
def qcR (k kb:Addr):List (Str×V):=qQ "kept_bonds" (.ref kb) (qQ "kept_spans" (.ref k) [])
theorem JA (k kb:Addr):(qcR k kb).lookup ("kept_spans":Str)=some (.ref k):=by
 unfold qcR;rw[qi,if_neg kn,qi,if_pos rfl]
theorem ZK (k kb:Addr):(qcR k kb).lookup ("kept_bonds":Str)=some (.ref kb):=by
 unfold qcR;rw[qi,if_pos rfl]
theorem Qy (k kb:Addr) {m:Str} (h1:¬ m="kept_bonds") (h2:¬ m="kept_spans"):(qcR k kb).lookup m=none:=by
 unfold qcR;rw[qi,if_neg h1,qi,if_neg h2];rfl
def FrAt (a:Ad) (H:Hp) (x k kb:Addr):Prop:=∃ dx,H x=some (.ins a.c_Frame dx (qcR k kb))
def Fr (a:Ad) (H:Hp) (x:Addr) (zss:List (List V)) (bs:List V):Prop:=∃ (k kb:Addr) (rs:List Addr),FrAt a H x k kb∧LL H k rs zss∧H kb=some (.lst bs)
theorem FrAt.same {a:Ad}{H H':Hp}{x k kb:Addr} (h:FrAt a H x k kb) (s:Same H H'):FrAt a H' x k kb:=by
 obtain⟨dx,e⟩:=h;exact⟨dx,s _ _ e⟩
theorem Fr.same {a:Ad}{H H':Hp}{x:Addr}{zss:List (List V)}{bs:List V} (h:Fr a H x zss bs) (s:Same H H'):Fr a H' x zss bs:=by
 obtain⟨k,kb,rs,f,L,e⟩:=h;exact⟨k,kb,rs,f.same s,L.same s,s _ _ e⟩
inductive zB (a:Ad) (vs:List V) (H:Hp) (Q:VK):Prop
 | mk (x dx s b:Addr) (qs:List Addr) (zss:List (List V)) (bs:List V) (h1:vs=[.ref x,.ref s,.ref b]) (h2:H x=some (.ins a.c_Frame dx [])) (h3:LL H s qs zss) (h4:qs.length≤60) (h5:H b=some (.lst bs)) (h6:∀ (k kb:Addr) (rs:List Addr) (H':Hp),H k=none->(∀ r∈rs,H r=none)->H kb=none->But x H H'->FrAt a H' x k kb->LL H' k rs zss->H' kb=some (.lst bs)->Q .non H'):zB a vs H Q
def Qf (a:Ad):Sp:=fun vs H Q _=>zB a vs H Q
inductive zt (a:Ad) (vs:List V) (H:Hp) (Q:VK):Prop
 | mk (x k kb:Addr) (rs:List Addr) (zss:List (List V)) (h1:vs=[.ref x]) (h2:FrAt a H x k kb) (h3:LL H k rs zss) (h4:rs.length≤60) (h5:∀ (d:Addr) (ts:List Addr) (H':Hp),H d=none->(∀ t∈ts,H t=none)->Same H H'->LL H' d ts zss->Q (.ref d) H'):zt a vs H Q
def qZ (a:Ad):Sp:=fun vs H Q _=>zt a vs H Q
inductive zu (a:Ad) (vs:List V) (H:Hp) (Q:VK):Prop
 | mk (x k kb:Addr) (bs:List V) (h1:vs=[.ref x]) (h2:FrAt a H x k kb) (h3:H kb=some (.lst bs)) (h4:∀ d,H d=none->Q (.ref d) (upd H d (.lst bs))):zu a vs H Q
def q0 (a:Ad):Sp:=fun vs H Q _=>zu a vs H Q
inductive Zw (vs:List V) (H:Hp) (Q:VK):Prop
 | mk (b hq cq:Addr) (bs:List V) (bds:List B3) (n r:Nat) (h1:vs=[.ref b,.ref hq,.ref cq]) (h2:H b=some (.lst bs)) (h3:TupL tr H bs bds) (h4:Fx bds n) (h5:b≠hq) (h6:b≠cq) (h7:hq≠cq) (h8:H hq=some (.lst ((st bds n (r * bds.length)).1.map V.int))) (h9:H cq=some (.lst ((st bds n (r * bds.length)).2.map oN))) (h10:bds.length≤101) (h11:∀ (rv:V) (H':Hp),But2 hq cq H H'->H' hq=some (.lst ((st bds n (r * bds.length+bds.length)).1.map V.int))->H' cq=some (.lst ((st bds n (r * bds.length+bds.length)).2.map oN))->RS bds n r bds.length rv->Q rv H'):Zw vs H Q
def jZ:Sp:=fun vs H Q _=>Zw vs H Q
def Fin (bds:List B3) (n r:Nat) (rv:V):Prop:=(rv=.non∧(n=0∨∃ j,r=j+1∧j < n∧qet bds n j))∨∃ x:Nat,rv=.int (x:Int)∧x < n∧r=n∧(n - 1) * bds.length < tau bds n (n * bds.length) x
theorem Fin.keeps {bds:List B3}{n r:Nat}{rv:V} (F:Fx bds n) {g:Nat->Int} (hg:∀ b∈bds,g b.2.1+b.2.2≤g b.1) (h:Fin bds n r rv):Hk bds (st bds n (r * bds.length)).1:=by
 by_cases hB:0 < bds.length
 · rcases h with ⟨_,h|⟨j,rfl,_,q⟩⟩|⟨x,_,hx,_,ht⟩
   · intro b m
     have:=(F b m).1
     omega
   · have qs:=(quiet hB q bds.length).1;intro b m;obtain⟨i,hi,e⟩:=List.mem_iff_getElem.mp m;have nu:=q i hi
     have eb:bd bds (j * bds.length+i)=b:=by
       rw[(qdK hi).2,List.getD_eq_getElem?_getD,List.getElem?_eq_getElem hi,e];rfl
     rw[eb]at nu;have e1:(j+1) * bds.length=j * bds.length+bds.length:=Nat.succ_mul ..;rw[e1,qs];unfold up at nu;rw[decide_eq_true_iff]at nu;exact Int.not_lt.mp nu
   · exact(qcI hB F hg hx ht).elim
 · intro b m
   have:bds=[]:=List.length_eq_zero_iff.mp (by omega)
   rw[this]at m;cases m
inductive QF (a:Ad) (vs:List V) (H:Hp) (Q:VK):Prop
 | mk (x:Addr) (zss:List (List V)) (bs:List V) (bds:List B3) (h1:vs=[.ref x]) (h2:Fr a H x zss bs) (h3:TupL tr H bs bds) (h4:Fx bds zss.length) (h5:zss.length≤60) (h6:bds.length≤101) (h7:∀ (t hq cq:Addr) (rv:V) (r:Nat) (H':Hp),Same H H'->H' t=some (.tup [.ref hq,.ref cq,rv])->H hq=none->H' hq=some (.lst ((st bds zss.length (r * bds.length)).1.map V.int))->Fin bds zss.length r rv->Q (.ref t) H'):QF a vs H Q
def Zv (a:Ad):Sp:=fun vs H Q _=>QF a vs H Q
inductive zy (a:Ad) (vs:List V) (H:Hp) (Q:VK):Prop
 | mk (x:Addr) (zss:List (List V)) (bs:List V) (bds:List B3) (g:Nat->Int) (h1:vs=[.ref x]) (h2:Fr a H x zss bs) (h3:TupL tr H bs bds) (h4:Fx bds zss.length) (h5:zss.length≤60) (h6:bds.length≤101) (h7:(∀ b∈bds,g b.2.1+b.2.2≤g b.1)) (h8:∀ (hq:Addr) (hs:List Int) (H':Hp),Same H H'->H hq=none->H' hq=some (.lst (hs.map V.int))->hs.length=zss.length->Hk bds hs->Q (.ref hq) H'):zy a vs H Q
def Qb (a:Ad):Sp:=fun vs H Q _=>zy a vs H Q
section
variable {P:Program}{w:World}{K:Frag}{mg:Str->Option Value}{base:Heap}
theorem jk {a:Ad} (T:Txt K mg a):FnOk P w K mg base CX0 1 a.f_g a.fd_g ["spans"] Q5:=by
 refine T.d_g.F.ok J1 (fun vs H Q E h=>?_) (fun cdv A outer s H vs Q E hr h=>?_)
 · obtain⟨b,qs,zss,rfl,L,hl,kk⟩:=h;rfl
 · obtain⟨b,qs,zss,rfl,L,hl,kk⟩:=h;refine⟨_,(qg (qu (Zc rfl (CompOk.def ["one"] [none]) (ze (pv 0)) (fun _ _ _ _ _=>(qr (i:=0) (show List.Nodup (["one"]:List Str) by decide +kernel) rfl (Or.inl rfl))) (fun _ _ _ _ _=>zn) (fun _ _ _ _ _=>(qN (r:=qbd K) qH (by rfl) T.n_list qB (qa (pv 0) qc)))))),?_⟩;(try dsimp only [zG,Cx.nox]);refine⟨_,rfl,b,rfl,⟨_,SqL.of L.at_⟩,fun D fD=>?_⟩;have hlq:=hl;have hll:=L.len;refine zH (K:=K) (a:=b) (D:=D) (fun i σ H2=>∃ (s0:Option V) (rs:List Addr),σ=[s0]∧Same H H2∧LL H2 D rs (List.take i zss)∧∀ r∈rs,H r=none) ⟨none,[],rfl,Same.new _ fD,(by rw[List.take_zero];exact .nil upd_same),fun r m=>by cases m⟩ (fun i σ H2 _ ⟨_,_,_,S,_⟩=>SqL.of (S _ _ L.at_)) ?_ ?_
   · rintro i x σ H2 hx ⟨s0,rs,rfl,S,Lr,fr⟩;obtain⟨q,hqi,rfl⟩:=zE hx;have hiz:i < List.length zss:=by rw[← L.len];exact(List.getElem?_eq_some_iff.mp hqi).1
     obtain⟨zs,hzi⟩:∃ zs,zss[i]?=some zs:=⟨_,List.getElem?_eq_getElem hiz⟩
     have hq:H2 q=some (.lst zs):=S _ _ (L.each i q zs hqi hzi);refine⟨_,rfl,q,zs,rfl,.inl (SqL.of hq),fun l2 fl2=>⟨_,Same.new _ fl2 _ _ Lr.at_,qD (by rw[List.length_map,Lr.len,List.length_take];omega),?_⟩⟩;refine⟨_,rs++[l2],rfl,(S.then _ fl2).put fD _,?_,fun r m=>?_⟩
     · rw[ZR hzi];exact(Lr.same (Same.new _ fl2)).snoc upd_same (qd Lr.at_ fl2).symm
     · rcases List.mem_append.mp m with m|m
       · exact fr r m
       · have e:r=l2:=by simpa using m
         rw[e];exact S.none fl2
   · rintro σ H2 ⟨s0,rs,rfl,S,Lr,fr⟩;rw[List.take_of_length_le (by rw[List.length_map,L.len];exact Nat.le_refl _)]at Lr;exact kk D rs H2 fD fr S Lr
theorem Z3 {a:Ad} (T:Txt K mg a):FnOk P w K mg base CX0 2 a.f_y a.fd_y ["self","spans","bonds"] (Qf a):=by
 have G_g:=jk (P:=P) (w:=w) (base:=base) T;refine T.d_y.F.ok ZV (fun vs H Q E h=>?_) (fun cdv A outer s H vs Q E hr h=>?_)
 · obtain⟨x,dx,s,b,qs,zss,bs,rfl,hx,L,hl,hb,kk⟩:=h;rfl
 · obtain⟨x,dx,s,b,qs,zss,bs,rfl,hx,L,hl,hb,kk⟩:=h;have h_g:Room (1) _:=hr.mono (by decide)
   refine⟨_,(qb (ZB (pv 0) (ql G_g h_g rfl T.d_g.m T.d_g.k T.d_g.b .nil qz (qa (pv 1) qc)) rfl)
     (qg (ZB (pv 0) (qN (r:=qbd K) qH (by rfl) T.n_list qB (qa (pv 2) qc)) rfl))),?_⟩
   try dsimp only [zG,Cx.nox]
   refine⟨_,rfl,s,qs,zss,rfl,L,hl,fun k rs G1 fk fr S1 Lk=>?_⟩;have hx1:=S1 _ _ hx;have hb1:=S1 _ _ hb;refine⟨_,rfl,x,_,dx,[],rfl,hx1,T.cl_Frame,T.n_Frame_kept_spans,(by show 0 < 1000;decide),?_⟩;have nbx:b≠x:=qO hb1 hx1 (by intro z;cases z);refine⟨_,rfl,b,bs,rfl,.inl (SqL.of ((qf nbx).trans hb1)),fun kb fkb=>?_⟩;have nkx:kb≠x:=(ZP fkb).1;have fkb1:G1 kb=none:=(ZP fkb).2;have fkbH:H kb=none:=S1.none fkb1;refine⟨_,rfl,x,_,dx,_,rfl,(qf nkx.symm).trans upd_same,T.cl_Frame,T.n_Frame_kept_bonds,(by show 1 < 1000;decide),?_⟩;have hx0:cut G1 [x] x=none:=QP (by simp)
   have nl:∀ c ys,G1 c=some (.lst ys)->c∉[x]:=fun c ys e z=>by
     have e2:c=x:=by simpa using z
     rw[e2,hx1]at e;cases e
   refine kk k kb rs _ fk fr fkbH (fun c o e n=>?_) ⟨dx,upd_same⟩ ((Lk.cut (nl _ _ Lk.at_) fun r m=>?_).same ((((zN G1 [x]).put hx0 _).then _ fkb).put hx0 _)) ((qf nkx).trans upd_same)
   · rw[qf n,qf (qd e fkbH),qf n];exact S1 _ _ e
   · obtain⟨zs,_,e⟩:=Lk.get m;exact nl _ _ e
theorem zf {a:Ad} (T:Txt K mg a):FnOk P w K mg base CX0 2 a.f_c a.fd_c ["self"] (qZ a):=by
 have G_g:=jk (P:=P) (w:=w) (base:=base) T;refine T.d_c.F.ok Zq (fun vs H Q E h=>?_) (fun cdv A outer s H vs Q E hr h=>?_)
 · obtain⟨x,k,kb,rs,zss,rfl,⟨dx,hx⟩,L,hl,kk⟩:=h;rfl
 · obtain⟨x,k,kb,rs,zss,rfl,⟨dx,hx⟩,L,hl,kk⟩:=h;have h_g:Room (1) _:=hr.mono (by decide);refine⟨_,(qg (qu (ql G_g h_g rfl T.d_g.m T.d_g.k T.d_g.b .nil qz (qa (Qn (pv 0) rfl) qc)))),?_⟩;(try dsimp only [zG,Cx.nox]);exact⟨_,rfl,x,_,dx,_,_,rfl,hx,T.cl_Frame,T.n_Frame_kept_spans,JA _ _,k,rs,zss,rfl,L,hl,kk⟩
theorem zg {a:Ad} (T:Txt K mg a):FnOk P w K mg base CX0 1 a.f_d a.fd_d ["self"] (q0 a):=by
 refine T.d_d.F.ok Zr (fun vs H Q E h=>?_) (fun cdv A outer s H vs Q E hr h=>?_)
 · obtain⟨x,k,kb,bs,rfl,⟨dx,hx⟩,hb,kk⟩:=h;rfl
 · obtain⟨x,k,kb,bs,rfl,⟨dx,hx⟩,hb,kk⟩:=h;refine⟨_,(qg (qu (qN (r:=qbd K) qH (by rfl) T.n_list qB (qa (Qn (pv 0) rfl) qc)))),?_⟩;(try dsimp only [zG,Cx.nox]);exact⟨_,rfl,x,_,dx,_,_,rfl,hx,T.cl_Frame,T.n_Frame_kept_bonds,ZK _ _,kb,bs,rfl,.inl (SqL.of hb),kk⟩
theorem qbp {a:Ad} (T:Txt K mg a):FnOk P w K mg base CX0 1 a.f_l a.fd_l ["bonds","heights","came_by"] jZ:=by
 refine T.d_l.F.ok sc_climb (fun vs H Q E h=>?_) (fun cdv A outer s H vs Q E hr h=>?_)
 · obtain⟨b,hq,cq,bs,bds,n,r,rfl,hb,tb,F,nbh,nbc,nhc,hh0,hc0,few,kk⟩:=h;rfl
 · obtain⟨b,hq,cq,bs,bds,n,r,rfl,hb,tb,F,nbh,nbc,nhc,hh0,hc0,few,kk⟩:=h;obtain⟨t_LATER,c_LATER⟩:=T.g_LATER;obtain⟨t_EARLIER,c_EARLIER⟩:=T.g_EARLIER;obtain⟨t_MINUTES,c_MINUTES⟩:=T.g_MINUTES
   refine⟨_,(qb (qo (i:=3) sc_climb.nd rfl (Or.inl rfl) zb)
     (qb (zT PassesOwn.never rfl (qad rfl T.n_enumerate (qa (pv 0) qc)) (Za rfl (qK (qr (i:=4) (sc_climb.nd) rfl (Or.inl rfl)) (qK (qr (i:=5) (sc_climb.nd) rfl (Or.inl rfl)) zW)))
       (qb (qo (i:=6) sc_climb.nd rfl (Or.inl rfl) (qy QY (qp (r:=rIx K) qm (pv 1) (qp (r:=rIx K) qm (pv 5) (qV (v:=.int 1) rfl c_EARLIER ⟨_,rfl⟩) (fun _ _=>rfl)) (fun _ _=>rfl)) (qp (r:=rIx K) qm (pv 5) (qV (v:=.int 2) rfl c_MINUTES ⟨_,rfl⟩) (fun _ _=>rfl))))
       (qg (qU (qw qbo (pv 6) (qp (r:=rIx K) qm (pv 1) (qp (r:=rIx K) qm (pv 5) (qV (v:=.int 0) rfl c_LATER ⟨_,rfl⟩) (fun _ _=>rfl)) (fun _ _=>rfl)) (qE _))
         (qb (Qm (pv 6) (Zb (pv 1) (qp (r:=rIx K) qm (pv 5) (qV (v:=.int 0) rfl c_LATER ⟨_,rfl⟩) (fun _ _=>rfl)) zm))
         (qb (Qm (pv 4) (Zb (pv 2) (qp (r:=rIx K) qm (pv 5) (qV (v:=.int 0) rfl c_LATER ⟨_,rfl⟩) (fun _ _=>rfl)) zm))
         (qg (qo (i:=3) sc_climb.nd rfl (Or.inl rfl) (qp (r:=rIx K) qm (pv 5) (qV (v:=.int 0) rfl c_LATER ⟨_,rfl⟩) (fun _ _=>rfl))))))
         qC))))
     (qg (qu (pv 3))))),?_⟩
   try dsimp only [zG,Cx.nox]
   refine⟨_,rfl,b,rfl,⟨bs,SqL.of hb⟩,Ji (K:=K) (a:=b) (xs:=bs) (fun i σ H2=>∃ (rv:V) (s4 s5 s6:Option V),σ=[some (.ref b),some (.ref hq),some (.ref cq),some rv,s4,s5,s6]∧But2 hq cq H H2∧H2 hq=some (.lst ((st bds n (r * bds.length+i)).1.map V.int))∧H2 cq=some (.lst ((st bds n (r * bds.length+i)).2.map oN))∧RS bds n r i rv) ⟨.non,none,none,none,rfl,(fun c o e _ _=>e),hh0,hc0,.inl ⟨rfl,rfl,fun j h=>absurd h (Nat.not_lt_zero _)⟩⟩ (fun i σ H2 _ ⟨_,_,_,_,_,B,_⟩=>SqL.of (B _ _ hb nbh nbc)) ?_ ?_⟩
   · rintro i x σ H2 p hx ⟨rv,s4,s5,s6,rfl,B,hh,hc,rs⟩ hn;obtain⟨bo,t,hbo,rfl,ht⟩:=tb.of hx;have hi:i < bds.length:=(List.getElem?_eq_some_iff.mp hbo).1;have hB:0 < bds.length:=by omega
     obtain⟨em,eb⟩:=qdK (bds:=bds) (r:=r) hi;have eg:bds.getD i (0,0,0)=bo:=by rw[List.getD_eq_getElem?_getD,hbo];rfl
     rw[eg]at eb;have ok:=F bo (List.mem_of_getElem? hbo);have nth:t≠hq:=fun z=>by rw[z,hh0]at ht;cases ht
     have ntc:t≠cq:=fun z=>by rw[z,hc0]at ht;cases ht
     have Sp:=Same.new (.tup [.int (i:Int),.ref t]) hn;have ht2:=Sp _ _ (B _ _ ht nth ntc);have hh2:=Sp _ _ hh;have hc2:=Sp _ _ hc;have B2:But2 hq cq H (upd H2 p (.tup [.int (i:Int),.ref t])):=fun c o e n1 n2=>Sp _ _ (B c o e n1 n2);refine⟨p,_,rfl,SqT.of upd_same,rfl,_,_,rfl,_,_,rfl,rfl,?_⟩;refine⟨_,rfl,_,rfl,.inr (.inl ⟨t,_,_,_,rfl,rfl,SqT.of ht2,rfl,.inl ⟨hq,_,_,_,rfl,rfl,SqL.of hh2,qdg ok.2,_,rfl,.inr (.inl ⟨t,_,_,_,rfl,rfl,SqT.of ht2,rfl,.inl ⟨_,_,rfl,rfl,?_⟩⟩)⟩⟩)⟩;refine⟨_,rfl,_,rfl,_,rfl,.inr (.inl ⟨t,_,_,_,rfl,rfl,SqT.of ht2,rfl,.inl ⟨hq,_,_,_,rfl,rfl,SqL.of hh2,qdg ok.1,_,_,rfl,rfl,_,rfl,zM (fun g=>?_) (fun g=>?_)⟩⟩)⟩
     · have u:up bds (st bds n (r * bds.length+i)).1 (bd bds (r * bds.length+i))=true:=by rw[up_iff,eb];exact g
       have es:st bds n (r * bds.length+(i+1))=((st bds n (r * bds.length+i)).1.set bo.1 (K43.hh bds n (r * bds.length+i) bo.2.1+bo.2.2),(st bds n (r * bds.length+i)).2.set bo.1 (some i)):=by
         show rlx bds (st bds n (r * bds.length+i)) ((r * bds.length+i) % bds.length) (bd bds (r * bds.length+i))=_;unfold rlx;rw[if_pos u,eb,em];rfl
       have l1:bo.1 < ((st bds n (r * bds.length+i)).1.map V.int).length:=by rw[List.length_map,(Zu _).1];exact ok.1
       have l2:bo.1 < ((st bds n (r * bds.length+i)).2.map oN).length:=by rw[List.length_map,(Zu _).2];exact ok.1
       refine⟨_,rfl,_,rfl,_,rfl,.inr (.inl ⟨t,_,_,_,rfl,rfl,SqT.of ht2,rfl,hq,_,_,bo.1,rfl,rfl,hh2,Z5 l1,?_⟩)⟩;refine⟨_,rfl,_,rfl,_,rfl,.inr (.inl ⟨t,_,_,_,rfl,rfl,SqT.of ((qf nth).trans ht2),rfl,cq,_,_,bo.1,rfl,rfl,(qf nhc.symm).trans hc2,Z5 l2,?_⟩)⟩;refine⟨_,rfl,.inr (.inl ⟨t,_,_,_,rfl,rfl,SqT.of ((qf ntc).trans ((qf nth).trans ht2)),rfl,?_⟩)⟩;refine⟨_,_,_,_,rfl,(fun c o e n1 n2=>(qf n2).trans ((qf n1).trans (B2 c o e n1 n2))),?_,?_,.inr ⟨bo.1,rfl,ok.1,?_⟩⟩
       · rw[qf nhc,upd_same,es,List.map_set]
       · rw[upd_same,es,List.map_set];rfl
       · show _ < tau bds n (r * bds.length+i+1) bo.1;rw[qbT u,eb,if_pos rfl];omega
     · have u:¬ up bds (st bds n (r * bds.length+i)).1 (bd bds (r * bds.length+i))=true:=by rw[up_iff,eb];exact g
       have es:st bds n (r * bds.length+(i+1))=st bds n (r * bds.length+i):=qcu u;refine⟨rv,_,_,_,rfl,B2,by rw[es];exact hh2,by rw[es];exact hc2,?_⟩;rcases rs with ⟨e1,e2,e3⟩|⟨x,e1,e2,e3⟩
       · refine .inl ⟨e1,by rw[es];exact e2,fun j hj=>?_⟩;by_cases ej:j=i
         · subst ej;rw[e2]at u;exact u
         · exact e3 j (by omega)
       · refine .inr ⟨x,e1,e2,?_⟩;show _ < tau bds n (r * bds.length+i+1) x;rw[qbU u];exact e3
   · rintro σ H2 ⟨rv,s4,s5,s6,rfl,B,hh,hc,rs⟩;rw[tb.1]at hh hc rs;exact⟨_,rfl,kk rv H2 B hh hc rs⟩
theorem Jr {a:Ad} (T:Txt K mg a):FnOk P w K mg base CX0 3 a.f_m a.fd_m ["frame"] (Zv a):=by
 have G_d:=zg (P:=P) (w:=w) (base:=base) T;have G_c:=zf (P:=P) (w:=w) (base:=base) T;have G_l:=qbp (P:=P) (w:=w) (base:=base) T;refine T.d_m.F.ok sc_climbed (fun vs H Q E h=>?_) (fun cdv A outer s H vs Q E hr h=>?_)
 · obtain⟨x,zss,bs,bds,rfl,⟨k,kb,rk,⟨dx,hx⟩,Lk,hkb⟩,tb,F,n60,few,kk⟩:=h;rfl
 · obtain⟨x,zss,bs,bds,rfl,⟨k,kb,rk,⟨dx,hx⟩,Lk,hkb⟩,tb,F,n60,few,kk⟩:=h;have h_d:Room (1) _:=hr.mono (by decide);have h_c:Room (2) _:=hr.mono (by decide);have h_l:Room (1) _:=hr.mono (by decide)
   refine⟨_,(qb (qo (i:=1) sc_climbed.nd rfl (Or.inl rfl) (zK (pv 0) T.cl_Frame T.d_d.mt G_d h_d T.d_d.b .nil qz))
     (qb (qo (i:=2) sc_climbed.nd rfl (Or.inl rfl) (qk qL (by rfl) T.n_len qF (qa (zK (pv 0) T.cl_Frame T.d_c.mt G_c h_c T.d_c.b .nil qz) qc)))
     (qb (qo (i:=3) sc_climbed.nd rfl (Or.inl rfl) (qy qcb (zV (qa qe qc)) (pv 2)))
     (qb (qo (i:=4) sc_climbed.nd rfl (Or.inl rfl) (qy qcb (zV (qa zb qc)) (pv 2)))
     (qb (qo (i:=5) sc_climbed.nd rfl (Or.inl rfl) zb)
     (qb (zT PassesOwn.never rfl (zk rfl T.n_range (qa (pv 2) qc)) (qr (i:=6) (sc_climbed.nd) rfl (Or.inl rfl))
       (qb (qo (i:=5) sc_climbed.nd rfl (Or.inl rfl) (ql G_l h_l rfl T.d_l.m T.d_l.k T.d_l.b .nil qz (qa (pv 1) (qa (pv 3) (qa (pv 4) qc)))))
       (qg (qU (qw ZG (pv 5) zb (qE _))
         (qg qbh)
         qC))))
     (qg (qu (zU (qa (pv 3) (qa (pv 4) (qa (pv 5) qc)))))))))))),?_⟩
   try dsimp only [zG,Cx.nox]
   refine⟨_,rfl,x,dx,_,rfl,hx,Qy _ _ (by decide +kernel) (by decide +kernel),x,k,kb,bs,rfl,⟨dx,hx⟩,hkb,fun b fb=>?_⟩;have Sb:=Same.new (.lst bs) fb;have hb:(upd H b (.lst bs)) b=some (.lst bs):=upd_same;generalize upd H b (.lst bs)=G1 at Sb hb ⊢;refine⟨_,rfl,x,dx,_,rfl,Sb _ _ hx,Qy _ _ (by decide +kernel) (by decide +kernel),x,k,kb,rk,zss,rfl,⟨dx,Sb _ _ hx⟩,Lk.same Sb,(by rw[Lk.len];exact n60),fun d ts G2 fd ft S2 L2'=>⟨_,_,rfl,.inl ⟨_,SqL.of L2'.at_,rfl⟩,?_⟩⟩;have en:(((ts.map V.ref).length:Nat):Int)=(zss.length:Int):=by rw[List.length_map,L2'.len]
   rw[en];have S12:=Sb.trans S2;have hb2:=S2 _ _ hb;refine⟨qx (Nat.le_of_ble_eq_true rfl),fun l1 fl1=>⟨_,rfl,l1,_,_,rfl,rfl,upd_same,by omega,by omega,(by show 1 * ((zss.length:Int).toNat)≤sizeLine;exact qx (by omega)),fun hq fhq=>?_⟩⟩;have S3:=(Same.new (.lst [.int 0]) fl1).then (.lst (List.replicate ((zss.length:Int).toNat) [V.int 0]).flatten) fhq
   have hhq:(upd (upd G2 l1 (.lst [.int 0])) hq (.lst (List.replicate ((zss.length:Int).toNat) [V.int 0]).flatten)) hq=some (.lst ((st bds zss.length (0 * bds.length)).1.map V.int)):=by
     rw[upd_same,Nat.zero_mul];show some (HO.lst _)=some (HO.lst ((List.replicate zss.length (0:Int)).map V.int));rw[List.flatten_replicate_singleton,List.map_replicate];rfl
   have fq2:G2 hq=none:=(Same.new (.lst [.int 0]) fl1).none fhq;generalize upd (upd G2 l1 (.lst [.int 0])) hq (.lst (List.replicate ((zss.length:Int).toNat) [V.int 0]).flatten)=G3 at S3 hhq ⊢;refine⟨qx (Nat.le_of_ble_eq_true rfl),fun l2 fl2=>⟨_,rfl,l2,_,_,rfl,rfl,upd_same,by omega,by omega,(by show 1 * ((zss.length:Int).toNat)≤sizeLine;exact qx (by omega)),fun cq fcq=>?_⟩⟩;have S4:=(Same.new (.lst [.non]) fl2).then (.lst (List.replicate ((zss.length:Int).toNat) [V.non]).flatten) fcq
   have hcq:(upd (upd G3 l2 (.lst [.non])) cq (.lst (List.replicate ((zss.length:Int).toNat) [V.non]).flatten)) cq=some (.lst ((st bds zss.length (0 * bds.length)).2.map oN)):=by
     rw[upd_same,Nat.zero_mul];show some (HO.lst _)=some (HO.lst ((List.replicate zss.length (none:Option Nat)).map oN));rw[List.flatten_replicate_singleton,List.map_replicate];rfl
   have fc3:G3 cq=none:=(Same.new (.lst [.non]) fl2).none fcq;have nhc:hq≠cq:=qd hhq fc3;have fc2:G2 cq=none:=S3.none fc3;have hh4:=S4 _ _ hhq;have S24:=S3.trans S4;generalize upd (upd G3 l2 (.lst [.non])) cq (.lst (List.replicate ((zss.length:Int).toNat) [V.non]).flatten)=G4 at S24 hcq hh4 ⊢;have nbh:b≠hq:=qd hb2 fq2;have nbc:b≠cq:=qd hb2 fc2;have tb2:=tb.same S12;dsimp only;refine zC (t:=qdf _ _) (fun σ' H'=>σ'=[some (.ref x),some (.ref b),some (.int (zss.length:Int)),some (.ref hq),some (.ref cq),some .non,none]∧G4=H') (fun N hN=>hN _ _ ⟨rfl,rfl⟩) ?_;rintro _ _ ⟨rfl,rfl⟩;refine zC (t:=qdY _ _ _) (fun σ' H'=>∃ (rv:V) (s6:Option V) (r:Nat),σ'=[some (.ref x),some (.ref b),some (.int (zss.length:Int)),some (.ref hq),some (.ref cq),some rv,s6]∧Same G2 H'∧H' hq=some (.lst ((st bds zss.length (r * bds.length)).1.map V.int))∧H' cq=some (.lst ((st bds zss.length (r * bds.length)).2.map oN))∧Fin bds zss.length r rv) (fun N hN=>?_) ?_
   · refine⟨_,rfl,_,rfl,by omega,by omega,?_⟩;refine Zi (lo:=0) (fun i σ H2=>∃ (rv:V) (s6:Option V),σ=[some (.ref x),some (.ref b),some (.int (zss.length:Int)),some (.ref hq),some (.ref cq),some rv,s6]∧Same G2 H2∧H2 hq=some (.lst ((st bds zss.length (i * bds.length)).1.map V.int))∧H2 cq=some (.lst ((st bds zss.length (i * bds.length)).2.map oN))∧((i=0∧rv=.non)∨(0 < i∧∃ y:Nat,rv=.int (y:Int)∧y < zss.length∧(i - 1) * bds.length < tau bds zss.length (i * bds.length) y))) ⟨.non,none,rfl,S24,hh4,hcq,.inl ⟨rfl,rfl⟩⟩ ?_ ?_
     · rintro i σ H2 hi ⟨rv,s6,rfl,S,hh,hc,_⟩;have hi2:i < zss.length:=by have:i < (zss.length:Int).toNat:=hi;omega
       refine⟨_,rfl,_,rfl,_,rfl,b,hq,cq,bs,bds,zss.length,i,rfl,S _ _ hb2,tb2.same S,F,nbh,nbc,nhc,hh,hc,few,fun rv' H3 B hh' hc' rs=>?_⟩;have S3':Same G2 H3:=B.same S fq2 fc2;have e1:i * bds.length+bds.length=(i+1) * bds.length:=(Nat.succ_mul ..).symm;rw[e1]at hh' hc';refine⟨_,rfl,rfl,_,rfl,?_⟩;rcases rs with ⟨e,es,q⟩|⟨y,e,ey,q⟩
       · subst e;refine zM (fun _=>?_) (fun g=>absurd rfl g);exact hN _ _ ⟨_,_,i+1,rfl,S3',hh',hc',.inl ⟨rfl,.inr ⟨i,rfl,hi2,q⟩⟩⟩
       · subst e;refine zM (fun g=>by cases g) (fun _=>?_);rw[e1]at q;exact⟨_,_,rfl,S3',hh',hc',.inr ⟨Nat.succ_pos _,y,rfl,ey,by rw[Nat.add_sub_cancel];exact q⟩⟩
     · rintro σ H2 ⟨rv,s6,rfl,S,hh,hc,cs⟩;have eN:(zss.length:Int).toNat=zss.length:=by omega
       rw[eN]at hh hc cs;refine hN _ _ ⟨rv,s6,zss.length,rfl,S,hh,hc,?_⟩;rcases cs with ⟨e0,e1⟩|⟨e0,y,e1,e2,e3⟩
       · exact .inl ⟨e1,.inl e0⟩
       · exact .inr ⟨y,e1,e2,rfl,e3⟩
   rintro _ H2 ⟨rv,s6,r,rfl,S,hh,hc,fin⟩;refine⟨_,rfl,_,rfl,_,rfl,qx (Nat.le_of_ble_eq_true rfl),fun t ft=>?_⟩;have St:=Same.new (.tup [.ref hq,.ref cq,rv]) ft;exact kk t hq cq rv r _ ((S12.trans S).trans St) upd_same (S12.none fq2) (St _ _ hh) fin
theorem Z1 {a:Ad} (T:Txt K mg a):FnOk P w K mg base CX0 4 a.f_n a.fd_n ["frame"] (Qb a):=by
 have G_m:=Jr (P:=P) (w:=w) (base:=base) T;refine T.d_n.F.ok ZU (fun vs H Q E h=>?_) (fun cdv A outer s H vs Q E hr h=>?_)
 · obtain⟨x,zss,bs,bds,g,rfl,fr,tb,F,n60,few,hg,kk⟩:=h;rfl
 · obtain⟨x,zss,bs,bds,g,rfl,fr,tb,F,n60,few,hg,kk⟩:=h;have h_m:Room (3) _:=hr.mono (by decide);refine⟨_,(qg (qu (qp (r:=rIx K) qm (ql G_m h_m rfl T.d_m.m T.d_m.k T.d_m.b .nil qz (qa (pv 0) qc)) qe (fun _ _=>rfl)))),?_⟩;(try dsimp only [zG,Cx.nox]);refine⟨_,rfl,x,zss,bs,bds,rfl,fr,tb,F,n60,few,fun t hq cq rv r H' S ht hn hh fin=>?_⟩;exact .inr (.inl ⟨t,_,_,_,rfl,rfl,SqT.of ht,rfl,kk hq _ H' S hn hh (Zu _).1 (fin.keeps F hg)⟩)
end
def pr (p:Int×Int):List V:=[.int p.1,.int p.2]
def oV:Option Int->V
 | none=>.non
 | some i=>.int i
def nL (ns:List Nat):List V:=ns.map fun (k:Nat)=>V.int (k:Int)
inductive zv (vs:List V) (H:Hp) (Q:VK):Prop
 | mk (q:Addr) (n:Int) (zs:List V) (ps:List (Int×Int)) (h1:vs=[.ref q,.int n]) (h2:H q=some (.lst zs)) (h3:TupL pr H zs ps) (h4:Srt ps) (h5:∀ k:Nat,k≤ps.length->(∀ i p,i < k->ps[i]?=some p->p.2 < n)->(∀ p,ps[k]?=some p->n≤p.2)->Q (.int k) H):zv vs H Q
def z9:Sp:=fun vs H Q _=>zv vs H Q
inductive zA (vs:List V) (H:Hp) (Q:VK):Prop
 | mk (q:Addr) (n:Int) (zs:List V) (ps:List (Int×Int)) (h1:vs=[.ref q,.int n]) (h2:H q=some (.lst zs)) (h3:TupL pr H zs ps) (h4:Srt ps) (h5:Q (oV (ff ps n)) H):zA vs H Q
def Qd:Sp:=fun vs H Q _=>zA vs H Q
inductive Q8 (vs:List V) (H:Hp) (Q:VK):Prop
 | mk (q:Addr) (n:Int) (zs:List V) (ps:List (Int×Int)) (h1:vs=[.ref q,.int n]) (h2:H q=some (.lst zs)) (h3:TupL pr H zs ps) (h4:Q (oV (ff ps n)) H):Q8 vs H Q
def je:Sp:=fun vs H Q _=>Q8 vs H Q
inductive zx (vs:List V) (H:Hp) (Q:VK):Prop
 | mk (s lw t:Addr) (qs:List Addr) (zss:List (List V)) (pss:List (List (Int×Int))) (lows:List (Option Int)) (b:Nat×Nat×Int) (h1:vs=[.ref s,.ref lw,.ref t]) (h2:LL H s qs zss) (h3:zss.length=pss.length) (h4:(∀ (i:Nat) zs ps,zss[i]?=some zs->pss[i]?=some ps->TupL pr H zs ps)) (h5:(∀ ps∈pss,Srt ps)) (h6:H lw=some (.lst (lows.map oV))) (h7:lows.length=pss.length) (h8:H t=some (.tup (tr b))) (h9:b.1 < pss.length) (h10:b.2.1 < pss.length) (h11:Q (oV (lob pss lows b)) H):zx vs H Q
def Qa:Sp:=fun vs H Q _=>zx vs H Q
section
variable {P:Program}{w:World}{K:Frag}{mg:Str->Option Value}{base:Heap}
theorem ZZ {a:Ad} (T:Txt K mg a):FnOk P w K mg base CX0 1 a.f_j a.fd_j ["spans","number"] z9:=by
 refine T.d_j.F.ok sc_place_from (fun vs H Q E h=>?_) (fun cdv A outer s H vs Q E hr h=>?_)
 · obtain⟨q,n,zs,ps,rfl,hq,hp,hs,kk⟩:=h;rfl
 · obtain⟨q,n,zs,ps,rfl,hq,hp,hs,kk⟩:=h;have hU:=hr.units
   refine⟨_,(qb (qo (i:=2) sc_place_from.nd rfl (Or.inl rfl) qe)
     (qb (qo (i:=3) sc_place_from.nd rfl (Or.inl rfl) (qk qL (by rfl) T.n_len qF (qa (pv 0) qc)))
     (qb (Ja PassesOwn.never (qw Jp (pv 2) (pv 3) (qE _))
       (qb (qo (i:=4) sc_place_from.nd rfl (Or.inl rfl) (qy Qx (qy QY (pv 2) (pv 3)) qe))
       (qg (qU (qw Jp (qp (r:=rIx K) qm (qp (r:=rIx K) qm (pv 0) (pv 4) (fun _ _=>rfl)) qe (fun _ _=>rfl)) (pv 1) (qE _))
         (qg (qo (i:=2) sc_place_from.nd rfl (Or.inl rfl) (qy QY (pv 4) qe)))
         (qg (qo (i:=3) sc_place_from.nd rfl (Or.inl rfl) (pv 4)))))))
     (qg (qu (pv 2)))))),?_⟩
   try dsimp only [zG,Cx.nox]
   refine⟨_,rfl,_,_,rfl,.inl ⟨_,SqL.of hq,rfl⟩,?_⟩;refine qa4 (fun σ H2=>∃ (lo hi:Int) (m:Option V),σ=[some (.ref q),some (.int n),some (.int lo),some (.int hi),m]∧H2=H∧0≤lo∧lo≤hi∧hi≤ps.length∧(∀ (i:Nat) p,(i:Int) < lo->ps[i]?=some p->p.2 < n)∧∀ (i:Nat) p,hi≤i->ps[i]?=some p->n≤p.2) (fun σ _=>match σ with|[_,_,some (.int lo),some (.int hi),_]=>(hi - lo).toNat|_=>0) ⟨0,_,none,rfl,rfl,Int.le_refl 0,by omega,by rw[hp.1];exact Int.le_refl _,fun i p h=>absurd h (by omega),fun i p h e=>absurd (List.getElem?_eq_some_iff.mp e).1 (by rw[hp.1]at h;omega)⟩ ?_ ?_
   · rintro σ H2 ⟨lo,hi,m,rfl,rfl,h0,h1,h2,h3,h4⟩;refine⟨_,rfl,_,rfl,_,_,rfl,rfl,_,rfl,?_⟩;refine zM (fun g=>?_) (fun g=>?_)
     · refine⟨_,rfl,_,rfl,.inl ⟨_,_,rfl,rfl,_,_,rfl,rfl,⟨by decide,by decide⟩,?_⟩⟩;obtain⟨mid,hm⟩:∃ mid:Nat,(lo+hi) / 2=(mid:Int):=⟨((lo+hi) / 2).toNat,by omega⟩
       have hml:mid < ps.length:=by omega
       obtain⟨p,hpm⟩:∃ p,ps[mid]?=some p:=⟨_,List.getElem?_eq_getElem hml⟩
       obtain⟨t,hz,ht⟩:=hp.at_ hpm;refine⟨_,rfl,_,rfl,.inl ⟨q,_,_,_,rfl,rfl,SqL.of hq,(by show atI zs ((lo+hi) / 2)=some (.ref t);rw[hm];exact qJ hz),.inr (.inl ⟨t,_,_,_,rfl,rfl,SqT.of ht,rfl,_,rfl,_,_,rfl,rfl,_,rfl,?_⟩)⟩⟩;refine zM (fun g2=>?_) (fun g2=>?_)
       · refine⟨_,rfl,.inl ⟨_,_,rfl,rfl,⟨_,hi,_,rfl,rfl,by omega,by omega,h2,fun i p' hi' e=>?_,h4⟩,?_⟩⟩
         · have:p'.2≤p.2:=hs.mono e hpm (by omega)
           omega
         · show (hi - ((lo+hi) / 2+1)).toNat < (hi - lo).toNat;omega
       · refine⟨_,rfl,⟨lo,_,_,rfl,rfl,h0,by omega,by omega,h3,fun i p' hi' e=>?_⟩,?_⟩
         · have:p.2≤p'.2:=hs.mono hpm e (by omega)
           omega
         · show ((lo+hi) / 2 - lo).toNat < (hi - lo).toNat;omega
     · have e:hi=lo:=by omega
       subst e;have h:=kk hi.toNat (by omega) (fun i p hi' e=>h3 i p (by omega) e) (fun p e=>h4 _ p (by omega) e);rw[Int.toNat_of_nonneg h0]at h;exact⟨_,rfl,h⟩
   · rintro σ H2 Q1 Q2 hm ⟨x,hx,y,hy,i,j,e1,e2,b,e3,q1⟩;exact⟨x,hx,y,hy,i,j,e1,e2,b,e3,hm _ _ q1⟩
theorem Z2 {a:Ad} (T:Txt K mg a):FnOk P w K mg base CX0 2 a.f_k a.fd_k ["spans","number"] Qd:=by
 have G_j:=ZZ (P:=P) (w:=w) (base:=base) T;refine T.d_k.F.ok sc_first_from (fun vs H Q E h=>?_) (fun cdv A outer s H vs Q E hr h=>?_)
 · obtain⟨q,n,zs,ps,rfl,hq,hp,hs,kk⟩:=h;rfl
 · obtain⟨q,n,zs,ps,rfl,hq,hp,hs,kk⟩:=h;have h_j:Room (1) _:=hr.mono (by decide)
   refine⟨_,(qb (qo (i:=2) sc_first_from.nd rfl (Or.inl rfl) (ql G_j h_j rfl T.d_j.m T.d_j.k T.d_j.b .nil qz (qa (pv 0) (qa (pv 1) qc))))
     (qg (qu (qbl (qw Jp (pv 2) (qk qL (by rfl) T.n_len qF (qa (pv 0) qc)) (qE _)) (qk (Zl rfl) (by rfl) T.n_max Zm (qa (qp (r:=rIx K) qm (qp (r:=rIx K) qm (pv 0) (pv 2) (fun _ _=>rfl)) qe (fun _ _=>rfl)) (qa (pv 1) qc))) zb)))),?_⟩
   try dsimp only [zG,Cx.nox]
   refine⟨_,rfl,_,rfl,q,n,zs,ps,rfl,hq,hp,hs,fun k k1 k2 k3=>?_⟩;rw[Jj k2 k1 k3]at kk;refine⟨_,rfl,_,rfl,_,_,rfl,.inl ⟨_,SqL.of hq,rfl⟩,_,_,rfl,rfl,_,rfl,?_⟩;refine zM (fun g=>?_) (fun g=>?_)
   · have hk:k < ps.length:=by rw[← hp.1];omega
     obtain⟨p,hpk⟩:∃ p,ps[k]?=some p:=⟨_,List.getElem?_eq_getElem hk⟩
     obtain⟨t,hz,ht⟩:=hp.at_ hpk;rw[hpk]at kk;exact⟨_,rfl,_,rfl,.inl ⟨q,_,_,_,rfl,rfl,SqL.of hq,qJ hz,.inr (.inl ⟨t,_,_,_,rfl,rfl,SqT.of ht,rfl,_,rfl,_,_,rfl,kk⟩)⟩⟩
   · rw[List.getElem?_eq_none (by rw[← hp.1];omega)]at kk;exact kk
theorem qan {a:Ad} (T:Txt K mg a):FnOk P w K mg base CX0 1 a.f_q a.fd_q ["_law_spans_here","_law_number"] je:=by
 refine T.d_q.F.ok sc_Lfirst (fun vs H Q E h=>?_) (fun cdv A outer s H vs Q E hr h=>?_)
 · obtain⟨q,n,zs,ps,rfl,hq,hp,kk⟩:=h;rfl
 · obtain⟨q,n,zs,ps,rfl,hq,hp,kk⟩:=h;have hU:=hr.units
   refine⟨_,(qb (zT PassesOwn.never rfl (ze (pv 0)) (Za rfl (qK (qr (i:=2) (sc_Lfirst.nd) rfl (Or.inl rfl)) (qK (qr (i:=3) (sc_Lfirst.nd) rfl (Or.inl rfl)) zW)))
       (qg (qU (qw qbn (pv 1) (pv 3) (qE _))
         (qg (qu (qk (Zl rfl) (by rfl) T.n_max Zm (qa (pv 2) (qa (pv 1) qc)))))
         qC)))
     (qg (qu zb))),?_⟩
   try dsimp only [zG,Cx.nox]
   refine⟨_,rfl,q,rfl,⟨_,SqL.of hq⟩,Qt (K:=K) (a:=q) (xs:=zs) (fun i σ H2=>∃ s2 s3:Option V,σ=[some (.ref q),some (.int n),s2,s3]∧H2=H∧ff ps n=ff (ps.drop i) n) ⟨none,none,rfl,rfl,rfl⟩ (fun i σ H2 _ ⟨_,_,_,e,_⟩=>e▸SqL.of hq) ?_ ?_⟩
   · rintro i x σ H2 hx ⟨s2,s3,rfl,rfl,hf⟩;have hi:i < ps.length:=by rw[← hp.1];exact(List.getElem?_eq_some_iff.mp hx).1
     obtain⟨p,hpi⟩:∃ p,ps[i]?=some p:=⟨_,List.getElem?_eq_getElem hi⟩
     obtain⟨t,rfl,ht⟩:=hp.2 i x p hx hpi
     have hd:ps.drop i=p::ps.drop (i+1):=by
       rw[List.drop_eq_getElem_cons hi];congr 1;rw[List.getElem?_eq_getElem hi]at hpi;exact Option.some.inj hpi
     rw[hd]at hf;refine⟨t,_,rfl,SqT.of ht,rfl,_,_,rfl,_,_,rfl,rfl,?_⟩;refine⟨_,rfl,_,rfl,_,_,rfl,rfl,_,rfl,?_⟩;refine zM (fun g=>?_) (fun g=>?_)
     · rw[hf,show ff (p::ps.drop (i+1)) n=some (if n > p.1 then n else p.1) from if_pos g]at kk;exact⟨_,rfl,_,rfl,_,_,rfl,kk⟩
     · exact⟨_,_,rfl,rfl,hf.trans (if_neg g)⟩
   · rintro σ H2 ⟨s2,s3,rfl,rfl,hf⟩;rw[hf,hp.1,List.drop_length]at kk;exact kk
theorem Z0 {a:Ad} (T:Txt K mg a):FnOk P w K mg base CX0 3 a.f_o a.fd_o ["spans","lows","bond"] Qa:=by
 have G_k:=Z2 (P:=P) (w:=w) (base:=base) T;refine T.d_o.F.ok sc_low_behind (fun vs H Q E h=>?_) (fun cdv A outer s H vs Q E hr h=>?_)
 · obtain⟨s,lw,t,qs,zss,pss,lows,b,rfl,L,hlen,hps,hsrt,hlw,hll,ht,hb1,hb2,kk⟩:=h;rfl
 · obtain⟨s,lw,t,qs,zss,pss,lows,b,rfl,L,hlen,hps,hsrt,hlw,hll,ht,hb1,hb2,kk⟩:=h;have h_k:Room (2) _:=hr.mono (by decide);obtain⟨t_LATER,c_LATER⟩:=T.g_LATER;obtain⟨t_EARLIER,c_EARLIER⟩:=T.g_EARLIER;obtain⟨t_MINUTES,c_MINUTES⟩:=T.g_MINUTES
   refine⟨_,(qb (qo (i:=3) sc_low_behind.nd rfl (Or.inl rfl) (qp (r:=rIx K) qm (pv 1) (qp (r:=rIx K) qm (pv 2) (qV (v:=.int 0) rfl c_LATER ⟨_,rfl⟩) (fun _ _=>rfl)) (fun _ _=>rfl)))
     (qb (qo (i:=4) sc_low_behind.nd rfl (Or.inl rfl) (qp (r:=rIx K) qm (pv 1) (qp (r:=rIx K) qm (pv 2) (qV (v:=.int 1) rfl c_EARLIER ⟨_,rfl⟩) (fun _ _=>rfl)) (fun _ _=>rfl)))
     (qb (qU (PW.pt (QR (qw ZG (pv 3) zb (qE _)) (QR (qw ZG (pv 4) zb (qE _)) (Ql (qw qbn (qy QY (pv 4) (qp (r:=rIx K) qm (pv 2) (qV (v:=.int 2) rfl c_MINUTES ⟨_,rfl⟩) (fun _ _=>rfl))) (pv 3) (qE _))))))
       (qg (qu (pv 3)))
       qC)
     (qg (qu (ql G_k h_k rfl T.d_k.m T.d_k.k T.d_k.b .nil qz (qa (qp (r:=rIx K) qm (pv 0) (qp (r:=rIx K) qm (pv 2) (qV (v:=.int 0) rfl c_LATER ⟨_,rfl⟩) (fun _ _=>rfl)) (fun _ _=>rfl)) (qa (qy QY (pv 4) (qp (r:=rIx K) qm (pv 2) (qV (v:=.int 2) rfl c_MINUTES ⟨_,rfl⟩) (fun _ _=>rfl))) qc)))))))),?_⟩
   try dsimp only [zG,Cx.nox]
   obtain⟨x,hx⟩:∃ x,lows[b.1]?=some x:=⟨_,List.getElem?_eq_getElem (by rw[hll];exact hb1)⟩
   obtain⟨y,hy⟩:∃ y,lows[b.2.1]?=some y:=⟨_,List.getElem?_eq_getElem (by rw[hll];exact hb2)⟩
   have ax:atI (lows.map oV) (b.1:Int)=some (oV x):=qJ (by rw[List.getElem?_map,hx];rfl);have ay:atI (lows.map oV) (b.2.1:Int)=some (oV y):=qJ (by rw[List.getElem?_map,hy];rfl);refine⟨_,rfl,_,rfl,.inr (.inl ⟨t,_,_,_,rfl,rfl,SqT.of ht,rfl,.inl ⟨lw,_,_,_,rfl,rfl,SqL.of hlw,ax,?_⟩⟩)⟩;refine⟨_,rfl,_,rfl,.inr (.inl ⟨t,_,_,_,rfl,rfl,SqT.of ht,rfl,.inl ⟨lw,_,_,_,rfl,rfl,SqL.of hlw,ay,?_⟩⟩)⟩;refine⟨_,rfl,rfl,_,rfl,?_⟩
   cases x with
   | none =>
     have e:lob pss lows b=none:=by unfold lob;rw[hx]
     rw[e]at kk;exact zM (fun _=>qch ⟨_,rfl,kk⟩) (fun g=>absurd rfl g)
   | some v =>
     refine zM (fun g=>by cases g) (fun _=>?_);refine⟨_,rfl,rfl,_,rfl,?_⟩
     cases y with
     | none =>
       have e:lob pss lows b=some v:=by unfold lob;rw[hx,hy]
       rw[e]at kk;exact zM (fun _=>qch ⟨_,rfl,kk⟩) (fun g=>absurd rfl g)
     | some u =>
       refine zM (fun g=>by cases g) (fun _=>?_);refine⟨_,rfl,_,rfl,.inr (.inl ⟨t,_,_,_,rfl,rfl,SqT.of ht,rfl,.inl ⟨_,_,rfl,rfl,_,rfl,_,_,rfl,rfl,_,rfl,?_⟩⟩)⟩;refine zM (fun g=>?_) (fun g=>?_)
       · have g':¬ (u+b.2.2 > v):=by
           have g2:u+b.2.2≤v:=g;omega
         have e:lob pss lows b=some v:=by unfold lob;rw[hx,hy];exact if_neg g'
         rw[e]at kk;exact⟨_,rfl,kk⟩
       · have g':u+b.2.2 > v:=by
           have g2:¬ (u+b.2.2≤v):=g;omega
         have e:lob pss lows b=ff (pss.getD b.1 []) (u+b.2.2):=by unfold lob;rw[hx,hy];exact if_pos g'
         rw[e]at kk;have hz:b.1 < zss.length:=by rw[hlen];exact hb1
         have hq:b.1 < qs.length:=by rw[L.len];exact hz
         obtain⟨q,hqi⟩:∃ q,qs[b.1]?=some q:=⟨_,List.getElem?_eq_getElem hq⟩
         obtain⟨zs,hzi⟩:∃ zs,zss[b.1]?=some zs:=⟨_,List.getElem?_eq_getElem hz⟩
         obtain⟨ps,hpi⟩:∃ ps,pss[b.1]?=some ps:=⟨_,List.getElem?_eq_getElem hb1⟩
         rw[List.getD_eq_getElem?_getD,hpi]at kk;refine⟨_,rfl,_,rfl,.inr (.inl ⟨t,_,_,_,rfl,rfl,SqT.of ht,rfl,.inl ⟨s,_,_,_,rfl,rfl,SqL.of L.at_,qJ (by rw[List.getElem?_map,hqi];rfl),?_⟩⟩)⟩;refine⟨_,rfl,_,rfl,.inr (.inl ⟨t,_,_,_,rfl,rfl,SqT.of ht,rfl,.inl ⟨_,_,rfl,rfl,?_⟩⟩)⟩;exact⟨q,_,zs,ps,rfl,L.each _ q zs hqi hzi,hps _ zs ps hzi hpi,hsrt ps (List.mem_of_getElem? hpi),kk⟩
end
def onw (bds:List B3) (i e:Nat):List Nat:=(List.range i).filter fun k=>decide ((bds.getD k (0,0,0)).2.1=e)
theorem Jc (bds:List B3) (i e:Nat):onw bds (i+1) e=if (bds.getD i (0,0,0)).2.1=e then onw bds i e++[i] else onw bds i e:=by
 unfold onw;rw[List.range_succ,List.filter_append];by_cases h:(bds.getD i (0,0,0)).2.1=e
 · rw[if_pos h,List.filter_cons_of_pos (by simpa using h)];rfl
 · rw[if_neg h,List.filter_cons_of_neg (by simpa using h),List.filter_nil,List.append_nil]
theorem onw_mem {bds:List B3}{i e k:Nat}:k∈onw bds i e↔k < i∧(bds.getD k (0,0,0)).2.1=e:=by
 unfold onw;rw[List.mem_filter,List.mem_range,decide_eq_true_iff]
theorem qaj (bds:List B3) (i e:Nat):(onw bds i e).length≤i:=Nat.le_trans (List.length_filter_le _ _) (by rw[List.length_range];exact Nat.le_refl _)
abbrev onL (bds:List B3) (n i:Nat):List (List V):=(List.range n).map fun e=>nL (onw bds i e)
theorem jj {bds:List B3}{n i e:Nat} (h:e < n):(onL bds n i)[e]?=some (nL (onw bds i e)):=by
 rw[List.getElem?_map,List.getElem?_range h];rfl
theorem LL.grow {H:Hp}{d:Addr}{rs:List Addr}{bds:List B3}{n i e:Nat}{r:Addr} (L:LL H d rs (onL bds n i)) (nd:rs.Nodup) (he:(bds.getD i (0,0,0)).2.1=e) (hr:rs[e]?=some r) (hn:e < n):LL (upd H r (.lst (nL (onw bds i e)++[.int (i:Int)]))) d rs (onL bds n (i+1)):=by
 have nrd:d≠r:=fun z=>L.out (z▸List.mem_of_getElem? hr);refine⟨(qf nrd).trans L.at_,by rw[L.len,List.length_map,List.length_map],fun j q zs e1 e2=>?_,L.out⟩
 have hj:j < n:=by
   have:=(List.getElem?_eq_some_iff.mp e2).1
   rwa [List.length_map,List.length_range]at this
 rw[jj hj]at e2;cases e2;by_cases z:j=e
 · subst z;rw[hr]at e1;cases e1;rw[upd_same,Jc,if_pos he];unfold nL;rw[List.map_append];rfl
 · have nq:q≠r:=fun y=>z (((List.getElem?_inj (List.getElem?_eq_some_iff.mp e1).1 nd).mp (by rw[e1,hr,y])));rw[qf nq,Jc,if_neg fun y=>z (y.symm.trans he)];exact L.each j q _ e1 (jj hj)
inductive zi (vs:List V) (H:Hp) (Q:VK):Prop
 | mk (b:Addr) (n:Nat) (bs:List V) (bds:List B3) (h1:vs=[.ref b,.int (n:Int)]) (h2:H b=some (.lst bs)) (h3:TupL tr H bs bds) (h4:Fx bds n) (h5:n≤60) (h6:bds.length≤101) (h7:∀ (d:Addr) (rs:List Addr) (H':Hp),H d=none->(∀ r∈rs,H r=none)->Same H H'->LL H' d rs (onL bds n bds.length)->Q (.ref d) H'):zi vs H Q
def zw:Sp:=fun vs H Q _=>zi vs H Q
theorem qbE {sc sc':Scope}{n:Nat} (h:∀ y∈sc'.names,y.2=NameKind.free->sc.names.lookup y.1=some .cell):∀ y∈sc'.names,y.2=NameKind.free->∃ c,(cellsFrom n sc.names []).lookup y.1=some c:=fun y m e=>Z8 (h y m e)
abbrev wkv (wt:List Nat):List (Key×V):=wt.map fun (i:Nat)=>(.inl (i:Int),.bl true)
abbrev qce:Pos:=match qX zI with
 | [.Return (some (.Call _ _ [⟨_,.Lambda _ _ _ p,_⟩] _)) _]=>p
 | _=>⟨0,0,0,0⟩
def TbF (a:Ad) (H:Hp):Prop:=qbP H a.t_furthest qce ("furthest"++".<locals>."++"<lambda>")
inductive Qc (a:Ad) (vs:List V) (H:Hp) (Q:VK):Prop
 | mk (w lw hq:Addr) (wt:List Nat) (lows hs:List Int) (h1:vs=[.ref w,.ref lw,.ref hq]) (h2:H w=some (.dK (wkv wt))) (h3:wt≠[]) (h4:H lw=some (.lst (lows.map V.int))) (h5:H hq=some (.lst (hs.map V.int))) (h6:(∀ i∈wt,i < lows.length∧i < hs.length)) (h7:lows.length≤60) (h8:TbF a H) (h9:∀ (e:Nat) (H':Hp),But a.t_furthest H H'->TbF a H'->e∈wt->(∀ j∈wt,dd lows hs j≤dd lows hs e)->Q (.int (e:Int)) H'):Qc a vs H Q
def Q3 (a:Ad):Sp:=fun vs H Q _=>Qc a vs H Q
section
variable {P:Program}{w:World}{K:Frag}{mg:Str->Option Value}{base:Heap}
theorem Zd {a:Ad} (T:Txt K mg a):FnOk P w K mg base CX0 1 a.f_p a.fd_p ["bonds","many"] zw:=by
 refine T.d_p.F.ok sc_numbers_from (fun vs H Q E h=>?_) (fun cdv A outer s H vs Q E hr h=>?_)
 · obtain⟨b,n,bs,bds,rfl,hb,tb,F,n60,few,kk⟩:=h;rfl
 · obtain⟨b,n,bs,bds,rfl,hb,tb,F,n60,few,kk⟩:=h;obtain⟨t_EARLIER,c_EARLIER⟩:=T.g_EARLIER
   refine⟨_,(qb (ZX (i:=2) sc_numbers_from.nd rfl (Or.inl rfl) rfl (CompOk.def ["entry"] [none]) (zk rfl T.n_range (qa (pv 1) qc)) (fun _ _ _ _ _=>(qr (i:=0) (show List.Nodup (["entry"]:List Str) by decide +kernel) rfl (Or.inl rfl))) (fun _ _ _ _ _=>zn) (fun _ _ _ _ _=>(zV qc)))
     (qb (zT PassesOwn.never rfl (qad rfl T.n_enumerate (qa (pv 0) qc)) (Za rfl (qK (qr (i:=3) (sc_numbers_from.nd) rfl (Or.inl rfl)) (qK (qr (i:=4) (sc_numbers_from.nd) rfl (Or.inl rfl)) zW)))
       (qg (zo (jM PySem.F.plainAttrs_list PySem.F.slot_list_append PySem.F.type_list_append qS (qp (r:=rIx K) qm (pv 2) (qp (r:=rIx K) qm (pv 4) (qV (v:=.int 1) rfl c_EARLIER ⟨_,rfl⟩) (fun _ _=>rfl)) (fun _ _=>rfl)) (qa (pv 3) qc)))))
     (qg (qu (pv 2))))),?_⟩
   try dsimp only [zG,Cx.nox]
   refine⟨_,rfl,_,rfl,by omega,by omega,fun D fD=>?_⟩;refine Qz (lo:=0) (n:=((n:Int)).toNat) (D:=D) (fun i σ H2=>∃ (s0:Option V) (rs:List Addr),σ=[s0]∧Same H H2∧LL H2 D rs (List.replicate i [])∧(∀ r∈rs,H r=none)∧rs.Nodup) ⟨none,[],rfl,Same.new _ fD,LL.nil upd_same,(fun r m=>nomatch m),List.nodup_nil⟩ ?_ ?_
   · rintro i σ H2 hi ⟨s0,rs,rfl,S,L,fr,nd⟩;refine⟨qx (Nat.le_of_ble_eq_true rfl),fun l2 fl2=>⟨_,Same.new _ fl2 _ _ L.at_,qD (by rw[List.length_map,L.len,List.length_replicate];omega),?_⟩⟩;refine⟨_,rs++[l2],rfl,(S.then _ fl2).put fD _,?_,fun r m=>?_,?_⟩
     · rw[List.replicate_succ'];exact(L.same (Same.new _ fl2)).snoc upd_same (qd L.at_ fl2).symm
     · rcases List.mem_append.mp m with m|m
       · exact fr r m
       · rw[List.mem_singleton.mp m];exact S.none fl2
     · rw[List.nodup_append];refine⟨nd,by simp,fun a1 m1 b1 m2=>?_⟩;rw[List.mem_singleton.mp m2];rintro rfl;obtain⟨zs,_,e⟩:=L.get m1;rw[fl2]at e;cases e
   rintro σ H2 ⟨s0,rs,rfl,S,L,fr,nd⟩;have en:((n:Int)).toNat=n:=by omega
   rw[en]at L
   have L0:LL H2 D rs (onL bds n 0):=by
     have e:List.replicate n ([]:List V)=onL bds n 0:=by
       refine List.ext_getElem? fun j=>?_;rw[List.getElem?_replicate];by_cases hj:j < n
       · rw[if_pos hj,jj hj];rfl
       · rw[if_neg hj,List.getElem?_eq_none (by rw[List.length_map,List.length_range];omega)]
     rw[← e];exact L
   clear L;(try unfold qa7);(try dsimp only);refine⟨_,rfl,b,rfl,⟨bs,SqL.of (S _ _ hb)⟩,Ji (K:=K) (a:=b) (xs:=bs) (fun i σ H3=>∃ s3 s4:Option V,σ=[some (.ref b),some (.int (n:Int)),some (.ref D),s3,s4]∧Same H H3∧LL H3 D rs (onL bds n i)) ⟨none,none,rfl,S,L0⟩ (fun i σ H3 _ ⟨_,_,_,S',_⟩=>SqL.of (S' _ _ hb)) ?_ ?_⟩
   · rintro i x σ H3 p hx ⟨s3,s4,rfl,S3,L3⟩ hn;obtain⟨bo,t,hbo,rfl,ht⟩:=tb.of hx;have hi:i < bds.length:=(List.getElem?_eq_some_iff.mp hbo).1;have eg:bds.getD i (0,0,0)=bo:=by rw[List.getD_eq_getElem?_getD,hbo];rfl
     have ok:=F bo (List.mem_of_getElem? hbo);have Sp:=Same.new (.tup [.int (i:Int),.ref t]) hn;have ht2:=Sp _ _ (S3 _ _ ht);have L4:=L3.same Sp;have er:bo.2.1 < rs.length:=by rw[L3.len,List.length_map,List.length_range];exact ok.2
     have hr:rs[bo.2.1]?=some rs[bo.2.1]:=List.getElem?_eq_getElem er;have each:=L4.each bo.2.1 _ _ hr (jj ok.2);refine⟨p,_,rfl,SqT.of upd_same,rfl,_,_,rfl,_,_,rfl,rfl,?_⟩;refine⟨_,rfl,_,rfl,.inr (.inl ⟨t,_,_,_,rfl,rfl,SqT.of ht2,rfl,.inl ⟨D,_,_,_,rfl,rfl,SqL.of L4.at_,qJ (by rw[List.getElem?_map,hr];rfl),(show tyV K "list" (.ref rs[bo.2.1]) _ from .inl ⟨rfl,_,SqL.of each⟩),_,rfl,rs[bo.2.1],_,_,rfl,rfl,each,qD (by rw[show (nL (onw bds i bo.2.1)).length=(onw bds i bo.2.1).length from List.length_map _];have:=qaj bds i bo.2.1;omega),?_⟩⟩)⟩;refine⟨_,_,rfl,fun c o e=>?_,LL.grow L4 nd (by rw[eg]) hr ok.2⟩;rw[qf (qd e (fr _ (List.mem_of_getElem? hr)))];exact Sp _ _ (S3 c o e)
   · rintro σ H3 ⟨s3,s4,rfl,S3,L3⟩;rw[tb.1]at L3;exact⟨_,rfl,kk D rs H3 fD fr S3 L3⟩
theorem jN {a:Ad} (T:Txt K mg a) (hB:JK mg base):FnOk P w K mg base CX0 1 a.f_i a.fd_i ["waiting","lows","heights"] (Q3 a):=by
 refine T.d_i.F.okC T.cd_furthest jJ (fun vs H Q E h=>?_) (fun cdv A outer s H vs Q E hcd hr h=>?_)
 · obtain⟨w,lw,hq,wt,lows,hs,rfl,hw,w0,hlw,hhq,ok,l60,tbf,kk⟩:=h;rfl
 · obtain⟨w,lw,hq,wt,lows,hs,rfl,hw,w0,hlw,hhq,ok,l60,tbf,kk⟩:=h;refine⟨_,(qg (qu (qae (T:=a.t_furthest) (i1:=1) (i2:=2) rfl hr rfl T.n_max (qN (r:=qb2) (JC rfl) (by rfl) T.n_list qB (qa (pv 0) qc)) rfl (qbE (sc:=qh zI) (by decide)) hcd T.hd_furthest hB rfl rfl rfl rfl (by decide) (by decide) rfl rfl rfl (fun _ _ _ _ _ _ _=>rfl) rfl rfl rfl (by decide) (by decide) (by decide) (by decide) (by decide) (by decide)))),?_⟩;(try dsimp only [zG,Cx.nox]);refine⟨_,rfl,w,wkv wt,rfl,.inl hw,fun l fl=>?_⟩;have S:=Same.new (.lst ((wkv wt).map fun p=>kV p.1)) fl
   have el:upd H l (.lst ((wkv wt).map fun p=>kV p.1)) l=some (.lst ((wt.map fun (i:Nat)=>(i:Int)).map V.int)):=by
     rw[upd_same,List.map_map,List.map_map];rfl
   try dsimp only
   generalize upd H l (.lst ((wkv wt).map fun p=>kV p.1))=G at S el ⊢;obtain⟨ps,t1,t2,t3⟩:=tbf;refine⟨l,lw,hq,wt.map fun (i:Nat)=>(i:Int),lows.map V.int,hs.map V.int,fun n=>dd lows hs n.toNat,⟨rfl,SqL.of el,?_,rfl,rfl,SqL.of (S _ _ hlw),SqL.of (S _ _ hhq),fun n mn=>?_⟩,⟨ps,S _ _ t1,t2,t3.imp id fun⟨c,h1,h2⟩=>⟨c,h1,S _ _ h2⟩⟩,fun M H2 B tb2 mM best=>?_⟩
   · rw[List.length_map];exact List.length_pos_iff.mpr w0
   · obtain⟨i,mi,rfl⟩:=List.mem_map.mp mn;obtain⟨o1,o2⟩:=ok i mi;refine⟨by omega,by omega,lows.getD i 0,hs.getD i 0,?_,?_,?_⟩
     · rw[List.getElem?_map,Int.toNat_natCast,List.getElem?_eq_getElem o1,List.getD_eq_getElem?_getD,List.getElem?_eq_getElem o1];rfl
     · rw[List.getElem?_map,Int.toNat_natCast,List.getElem?_eq_getElem o2,List.getD_eq_getElem?_getD,List.getElem?_eq_getElem o2];rfl
     · rw[Int.toNat_natCast];rfl
   · obtain⟨e,me,rfl⟩:=List.mem_map.mp mM;refine kk e H2 (fun b o q n=>B b o (S _ _ q) n) tb2 me fun j mj=>?_
     have:=best (j:Int) (List.mem_map.mpr ⟨j,mj,rfl⟩)
     dsimp only at this
     rwa [Int.toNat_natCast,Int.toNat_natCast]at this
end
theorem jF {H:Hp}{d x c dx:Addr}{ts:List Addr}{zss:List (List V)}{fs:List (Str×V)}{o:HO} (L:LL H d ts zss) (hx:H x=some (.ins c dx fs)):LL (upd H x o) d ts zss :=
 ⟨(qf (qO L.at_ hx (by intro z;cases z))).trans L.at_,L.len,fun i q zs e1 e2=>(qf (qO (L.each i q zs e1 e2) hx (by intro z;cases z))).trans (L.each i q zs e1 e2),L.out⟩
theorem qc3 {H:Hp}{d x c dx:Addr}{ts:List Addr}{zss:List (List V)}{fs:List (Str×V)} (L:LL H d ts zss) (hx:H x=some (.ins c dx fs)):LL (cut H [x]) d ts zss:=by
 refine L.cut (fun m=>?_) fun q m z=>?_
 · rw[List.mem_singleton]at m;exact qO L.at_ hx (by intro z;cases z) m
 · obtain⟨zs,_,e⟩:=L.get m;rw[List.mem_singleton]at z;exact qO e hx (by intro z;cases z) z
theorem qaX {β:Type}{f:β->List V}{H:Hp}{x c dx:Addr}{zs:List V}{ps:List β}{fs:List (Str×V)} (h:TupL f H zs ps) (hx:H x=some (.ins c dx fs)):TupL f (cut H [x]) zs ps:=⟨h.1,fun i z p e1 e2=>by
 obtain⟨t,rfl,e⟩:=h.2 i z p e1 e2;refine⟨t,rfl,(qY fun m=>?_).trans e⟩;rw[List.mem_singleton]at m
 exact qO e hx (by intro z;cases z) m⟩
theorem Qs {H G:Hp}{x c:Addr}{o:HO} (s:Same (cut H [x]) G) (hx:G x=some o) (hc:G c=none):H c=none:=by
 have:=s.none hc
 rwa [qY]at this
 intro m;rw[List.mem_singleton]at m;rw[m,hx]at hc;cases hc
theorem qcS:(¬ ("kept_spans":Str)="kept_bonds")∧(¬ ("kept_spans":Str)="heights")∧(¬ ("kept_spans":Str)="onwards")∧(¬ ("kept_bonds":Str)="heights")∧(¬ ("kept_bonds":Str)="onwards")∧(¬ ("heights":Str)="onwards")∧(¬ ("lift":Str)="onwards")∧(¬ ("lift":Str)="heights")∧(¬ ("lift":Str)="kept_bonds")∧(¬ ("lift":Str)="kept_spans"):=by decide +kernel
def f4 (ks kb hq ow:Addr):List (Str×V):=qQ "onwards" (.ref ow) (qQ "heights" (.ref hq) (qQ "kept_bonds" (.ref kb) (qQ "kept_spans" (.ref ks) [])))
theorem qei (ks kb hq ow:Addr):(f4 ks kb hq ow).lookup ("kept_spans":Str)=some (.ref ks):=by
 obtain⟨n1,n2,n3,n4,n5,n6,n7⟩:=qcS;unfold f4;rw[qi,if_neg n3,qi,if_neg n2,qi,if_neg n1,qi,if_pos rfl]
theorem qdG (ks kb hq ow:Addr):(f4 ks kb hq ow).lookup ("kept_bonds":Str)=some (.ref kb):=by
 obtain⟨n1,n2,n3,n4,n5,n6,n7⟩:=qcS;unfold f4;rw[qi,if_neg n5,qi,if_neg n4,qi,if_pos rfl]
theorem qej (ks kb hq ow:Addr):(f4 ks kb hq ow).lookup ("heights":Str)=some (.ref hq):=by
 obtain⟨n1,n2,n3,n4,n5,n6,n7⟩:=qcS;unfold f4;rw[qi,if_neg n6,qi,if_pos rfl]
theorem qeg (ks kb hq ow:Addr):(f4 ks kb hq ow).lookup ("onwards":Str)=some (.ref ow):=by
 unfold f4;rw[qi,if_pos rfl]
theorem qeh (ks kb hq ow:Addr):(f4 ks kb hq ow).lookup ("lift":Str)=none:=by
 obtain⟨n1,n2,n3,n4,n5,n6,n7,n8,n9,n10⟩:=qcS;unfold f4;rw[qi,if_neg n7,qi,if_neg n8,qi,if_neg n9,qi,if_neg n10];rfl
theorem qel (ks kb hq:Addr):(qQ "heights" (.ref hq) (qQ "kept_bonds" (.ref kb) (qQ "kept_spans" (.ref ks) []))).lookup ("kept_bonds":Str)=some (.ref kb):=by
 rw[qi,if_neg qcS.2.2.2.1,qi,if_pos rfl]
theorem qek (ks kb hq:Addr):(qQ "heights" (.ref hq) (qQ "kept_bonds" (.ref kb) (qQ "kept_spans" (.ref ks) []))).lookup ("kept_spans":Str)=some (.ref ks):=by
 rw[qi,if_neg qcS.2.1,qi,if_neg qcS.1,qi,if_pos rfl]
theorem Qw {x:Str}{v:V}{fs:List (Str×V)}{n:Nat} (h:fs.length≤n):(qQ x v fs).length≤n+1:=Nat.le_trans (zY x v fs) (Nat.succ_le_succ h)
structure Rz (a:Ad) (H:Hp) (x ks kb hq ow:Addr) (ts rs:List Addr) (zss:List (List V)) (bs:List V) (bds:List B3) (hs:List Int):Prop where
 at_:∃ dx,H x=some (.ins a.c_Raiser dx (f4 ks kb hq ow))
 sp:LL H ks ts zss
 bd:H kb=some (.lst bs)
 hh:H hq=some (.lst (hs.map V.int))
 on_:LL H ow rs (onL bds zss.length bds.length)
theorem Rz.same {a:Ad}{H H':Hp}{x ks kb hq ow:Addr}{ts rs:List Addr}{zss:List (List V)}{bs:List V}{bds:List B3}{hs:List Int} (h:Rz a H x ks kb hq ow ts rs zss bs bds hs) (s:Same H H'):Rz a H' x ks kb hq ow ts rs zss bs bds hs :=
 ⟨let ⟨dx,e⟩:=h.at_;⟨dx,s _ _ e⟩,h.sp.same s,s _ _ h.bd,s _ _ h.hh,h.on_.same s⟩
inductive zr (a:Ad) (vs:List V) (H:Hp) (Q:VK):Prop
 | mk (x dx f:Addr) (zss:List (List V)) (bs:List V) (bds:List B3) (g:Nat->Int) (h1:vs=[.ref x,.ref f]) (h2:H x=some (.ins a.c_Raiser dx [])) (h3:Fr a H f zss bs) (h4:TupL tr H bs bds) (h5:Fx bds zss.length) (h6:zss.length≤60) (h7:bds.length≤101) (h8:(∀ b∈bds,g b.2.1+b.2.2≤g b.1)) (h9:∀ (ks kb hq ow:Addr) (ts rs:List Addr) (hs:List Int) (H':Hp),H ks=none->(∀ t∈ts,H t=none)->H kb=none->H hq=none->H ow=none->(∀ r∈rs,H r=none)->But x H H'->Rz a H' x ks kb hq ow ts rs zss bs bds hs->hs.length=zss.length->Hk bds hs->Q .non H'):zr a vs H Q
def zQ (a:Ad):Sp:=fun vs H Q _=>zr a vs H Q
section
variable {P:Program}{w:World}{K:Frag}{mg:Str->Option Value}{base:Heap}
theorem Zt {a:Ad} (T:Txt K mg a):FnOk P w K mg base CX0 5 a.f_w a.fd_w ["self","frame"] (zQ a):=by
 have G_c:=zf (P:=P) (w:=w) (base:=base) T;have G_d:=zg (P:=P) (w:=w) (base:=base) T;have G_n:=Z1 (P:=P) (w:=w) (base:=base) T;have G_p:=Zd (P:=P) (w:=w) (base:=base) T;refine T.d_w.F.ok Zp (fun vs H Q E h=>?_) (fun cdv A outer s H vs Q E hr h=>?_)
 · obtain⟨x,dx,f,zss,bs,bds,g,rfl,hx,fr,tb,F,n60,few,hg,kk⟩:=h;rfl
 · obtain⟨x,dx,f,zss,bs,bds,g,rfl,hx,fr,tb,F,n60,few,hg,kk⟩:=h;have h_c:Room (2) _:=hr.mono (by decide);have h_d:Room (1) _:=hr.mono (by decide);have h_n:Room (4) _:=hr.mono (by decide);have h_p:Room (1) _:=hr.mono (by decide)
   refine⟨_,(qb (ZB (pv 0) (zK (pv 1) T.cl_Frame T.d_c.mt G_c h_c T.d_c.b .nil qz) rfl)
     (qb (ZB (pv 0) (zK (pv 1) T.cl_Frame T.d_d.mt G_d h_d T.d_d.b .nil qz) rfl)
     (qb (ZB (pv 0) (ql G_n h_n rfl T.d_n.m T.d_n.k T.d_n.b .nil qz (qa (pv 1) qc)) rfl)
     (qg (ZB (pv 0) (ql G_p h_p rfl T.d_p.m T.d_p.k T.d_p.b .nil qz (qa (Qn (pv 0) rfl) (qa (qk qL (by rfl) T.n_len qF (qa (Qn (pv 0) rfl) qc)) qc))) rfl))))),?_⟩
   try dsimp only [zG,Cx.nox]
   have gF:Fr a (cut H [x]) f zss bs:=by
     obtain⟨k,kb,rk,⟨dxf,hf⟩,Lk,hkb⟩:=fr
     have nf:f≠x:=qO hf hx fun z=>by
       injection z with z1 z2 z3
       have:=congrArg (List.lookup ("kept_bonds":Str)) z3
       rw[ZK]at this;cases this
     have nb:kb≠x:=qO hkb hx (by intro z;cases z);exact⟨k,kb,rk,⟨dxf,(qY (by simpa using nf)).trans hf⟩,qc3 Lk hx,(qY (by simpa using nb)).trans hkb⟩
   have gT:TupL tr (cut H [x]) bs bds:=qaX tb hx;have hx0:cut H [x] x=none:=QP (by simp);have S0:=zN H [x];obtain⟨k,kb0,rk,⟨dxf,hf⟩,Lk,hkb⟩:=id gF;refine⟨_,rfl,f,dxf,_,rfl,S0 _ _ hf,Qy _ _ (by decide +kernel) (by decide +kernel),f,k,kb0,rk,zss,rfl,⟨dxf,S0 _ _ hf⟩,Lk.same S0,(by rw[Lk.len];exact n60),fun ks ts G1 fks fts S1 L1=>?_⟩;have hx1:=S1 _ _ hx;refine⟨_,rfl,x,_,dx,[],rfl,hx1,T.cl_Raiser,T.n_Raiser_kept_spans,(by show 0 < 1000;decide),?_⟩;have S1':Same (cut H [x]) (upd G1 x (.ins a.c_Raiser dx (qQ "kept_spans" (.ref ks) []))):=(S0.trans S1).put hx0 _;have L1':LL (upd G1 x (.ins a.c_Raiser dx (qQ "kept_spans" (.ref ks) []))) ks ts zss:=jF L1 hx1;have hx2:(upd G1 x (.ins a.c_Raiser dx (qQ "kept_spans" (.ref ks) []))) x=some (.ins a.c_Raiser dx (qQ "kept_spans" (.ref ks) [])):=upd_same;generalize upd G1 x (.ins a.c_Raiser dx (qQ "kept_spans" (.ref ks) []))=G2 at S1' L1' hx2 ⊢;refine⟨_,rfl,f,dxf,_,rfl,S1' _ _ hf,Qy _ _ (by decide +kernel) (by decide +kernel),f,k,kb0,bs,rfl,⟨dxf,S1' _ _ hf⟩,S1' _ _ hkb,fun kb fb=>?_⟩;have fbH:H kb=none:=Qs S1' hx2 fb;have Sb:=Same.new (.lst bs) fb;have hb:(upd G2 kb (.lst bs)) kb=some (.lst bs):=upd_same;generalize upd G2 kb (.lst bs)=G3 at Sb hb ⊢;have hx3:=Sb _ _ hx2;refine⟨_,rfl,x,_,dx,_,rfl,hx3,T.cl_Raiser,T.n_Raiser_kept_bonds,Nat.lt_of_le_of_lt (Qw (Nat.le_refl 0)) (by decide),?_⟩;have S4:Same (cut H [x]) (upd G3 x (.ins a.c_Raiser dx (qQ "kept_bonds" (.ref kb) (qQ "kept_spans" (.ref ks) [])))):=(S1'.trans Sb).put hx0 _;have L4:LL (upd G3 x (.ins a.c_Raiser dx (qQ "kept_bonds" (.ref kb) (qQ "kept_spans" (.ref ks) [])))) ks ts zss:=jF (L1'.same Sb) hx3;have b4:(upd G3 x (.ins a.c_Raiser dx (qQ "kept_bonds" (.ref kb) (qQ "kept_spans" (.ref ks) [])))) kb=some (.lst bs):=(qf (qO hb hx3 (by intro z;cases z))).trans hb;have hx4:(upd G3 x (.ins a.c_Raiser dx (qQ "kept_bonds" (.ref kb) (qQ "kept_spans" (.ref ks) [])))) x=some (.ins a.c_Raiser dx (qQ "kept_bonds" (.ref kb) (qQ "kept_spans" (.ref ks) []))):=upd_same;generalize upd G3 x (.ins a.c_Raiser dx (qQ "kept_bonds" (.ref kb) (qQ "kept_spans" (.ref ks) [])))=G4 at S4 L4 b4 hx4 ⊢;refine⟨_,rfl,f,zss,bs,bds,g,rfl,gF.same S4,gT.same S4,F,n60,few,hg,fun hq hs G5 S5 fh hh lh hk=>?_⟩;have fhH:H hq=none:=Qs S4 hx4 fh;have hx5:=S5 _ _ hx4;have b5:=S5 _ _ b4;refine⟨_,rfl,x,_,dx,_,rfl,hx5,T.cl_Raiser,T.n_Raiser_heights,Nat.lt_of_le_of_lt (Qw (Qw (Nat.le_refl 0))) (by decide),?_⟩;have S6:Same (cut H [x]) (upd G5 x (.ins a.c_Raiser dx (qQ "heights" (.ref hq) (qQ "kept_bonds" (.ref kb) (qQ "kept_spans" (.ref ks) []))))):=(S4.trans S5).put hx0 _;have L6:LL (upd G5 x (.ins a.c_Raiser dx (qQ "heights" (.ref hq) (qQ "kept_bonds" (.ref kb) (qQ "kept_spans" (.ref ks) []))))) ks ts zss:=jF (L4.same S5) hx5;have b6:(upd G5 x (.ins a.c_Raiser dx (qQ "heights" (.ref hq) (qQ "kept_bonds" (.ref kb) (qQ "kept_spans" (.ref ks) []))))) kb=some (.lst bs):=(qf (qO b5 hx5 (by intro z;cases z))).trans b5;have h6:(upd G5 x (.ins a.c_Raiser dx (qQ "heights" (.ref hq) (qQ "kept_bonds" (.ref kb) (qQ "kept_spans" (.ref ks) []))))) hq=some (.lst (hs.map V.int)):=(qf (qO hh hx5 (by intro z;cases z))).trans hh;have hx6:(upd G5 x (.ins a.c_Raiser dx (qQ "heights" (.ref hq) (qQ "kept_bonds" (.ref kb) (qQ "kept_spans" (.ref ks) []))))) x=some (.ins a.c_Raiser dx (qQ "heights" (.ref hq) (qQ "kept_bonds" (.ref kb) (qQ "kept_spans" (.ref ks) [])))):=upd_same;generalize upd G5 x (.ins a.c_Raiser dx (qQ "heights" (.ref hq) (qQ "kept_bonds" (.ref kb) (qQ "kept_spans" (.ref ks) []))))=G6 at S6 L6 b6 h6 hx6 ⊢;have en:(ts.map V.ref).length=zss.length:=by rw[List.length_map,L6.len]
   refine⟨_,rfl,x,_,dx,_,_,rfl,hx6,T.cl_Raiser,T.n_Raiser_kept_bonds,qel _ _ _,_,rfl,x,_,dx,_,_,rfl,hx6,T.cl_Raiser,T.n_Raiser_kept_spans,qek _ _ _,_,_,rfl,.inl ⟨_,SqL.of L6.at_,rfl⟩,kb,(ts.map V.ref).length,bs,bds,rfl,b6,gT.same S6,(by rw[en];exact F),(by rw[en];exact n60),few,fun ow rs G7 fo fr S7 L7=>?_⟩;rw[en]at L7;have hx7:=S7 _ _ hx6;refine⟨_,rfl,x,_,dx,_,rfl,hx7,T.cl_Raiser,T.n_Raiser_onwards,Nat.lt_of_le_of_lt (Qw (Qw (Qw (Nat.le_refl 0)))) (by decide),?_⟩;refine kk ks kb hq ow ts rs hs _ fks fts fbH fhH (Qs S6 hx6 fo) (fun r m=>Qs S6 hx6 (fr r m)) (fun c o e n=>?_) ⟨⟨dx,upd_same⟩,jF (L6.same S7) hx7,?_,?_,jF L7 hx7⟩ lh hk
   · exact((S6.trans S7).put hx0 _) c o ((qY (by simpa using n)).trans e)
   · have b7:=S7 _ _ b6;exact(qf (qO b7 hx7 (by intro z;cases z))).trans b7
   · have h7:=S7 _ _ h6;exact(qf (qO h7 hx7 (by intro z;cases z))).trans h7
end
theorem qa3 {c:TT}{tb:TS}{D:qa1}{σ:L2.St}{H:Hp} (Pv:Nat->L2.St->Hp->Prop) (m0:Nat) (h0:Pv m0 σ H)
   (hs:∀ m σ H,Pv m σ H->c σ H fun b H1=>if b=true then tb { D with nx:=fun σ' H'=>∃ m',m' < m∧Pv m' σ' H',ct:=fun σ' H'=>∃ m',m' < m∧Pv m' σ' H',bk:=D.nx } σ H1 else D.nx σ H1)
   (mono:∀ σ H Q Q',(∀ b H1,Q b H1->Q' b H1)->c σ H Q->c σ H Q'):JT c tb D σ H:=by
 refine⟨Pv,⟨m0,h0⟩,fun m σ H p=>mono σ H _ _ (fun b H1 q=>?_) (hs m σ H p)⟩
 cases b with
 | true=>exact⟨_,fun σ' H' h=>h,q⟩
 | false=>exact q
theorem qbC {i:Nat}{v:V}{σ:L2.St}{H:Hp}{Q:L2.St->Hp->Prop} (h:Q (σ.set i (some v)) H):qbD i v σ H Q:=h
theorem qby {i j:Nat} (h:i≠j):¬ ((Sum.inl (i:Int):Key)=.inl (j:Int)):=fun z=>h (Int.ofNat.inj (Sum.inl.inj z))
theorem jG {e:Nat}:∀ {wt:List Nat},e∈wt->jI (wkv wt) (.inl (e:Int))=some (.bl true)
 | i::r,m=>by
   show jI ((Sum.inl (i:Int),V.bl true)::wkv r) _=_;by_cases z:i=e
   · rw[QS (by rw[z])]
   · rw[zZ (qby z)];exact jG ((List.mem_cons.mp m).resolve_left fun y=>z y.symm)
theorem qbR {e:Nat}:∀ {wt:List Nat},e∉wt->jI (wkv wt) (.inl (e:Int))=none
 | [],_=>rfl
 | i::r,m=>by
   show jI ((Sum.inl (i:Int),V.bl true)::wkv r) _=_;rw[zZ (qby fun y=>m (by rw[y];exact List.mem_cons_self))];exact qbR fun y=>m (List.mem_cons_of_mem _ y)
theorem ZO {e:Nat}:∀ {wt:List Nat},Qu (wkv wt) (.inl (e:Int))=wkv (wt.filter fun i=>decide (i≠e))
 | []=>rfl
 | i::r=>by
   show Qu ((Sum.inl (i:Int),V.bl true)::wkv r) _=_;by_cases z:i=e
   · rw[qaG (by rw[z]),List.filter_cons_of_neg (by simpa using z)];exact ZO
   · rw[qaH (qby z),List.filter_cons_of_pos (by simpa using z),ZO];rfl
theorem JN {e:Nat}:∀ {wt:List Nat},(wkv wt).map (fun kv=>if kv.1=(.inl (e:Int)) then (kv.1,V.bl true) else kv)=wkv wt
 | []=>rfl
 | i::r=>by
   show (if (Sum.inl (i:Int):Key)=.inl (e:Int) then (Sum.inl (i:Int),V.bl true) else (Sum.inl (i:Int),V.bl true))::(wkv r).map _=_;rw[JN];split<;>rfl
theorem qct {e:Nat}{wt:List Nat}:jK (wkv wt) (.inl (e:Int)) (.bl true)=wkv (if e∈wt then wt else wt++[e]):=by
 by_cases m:e∈wt
 · rw[if_pos m];unfold jK;rw[QT,jG m];exact JN
 · rw[if_neg m,qbe _ (qbR m)];unfold wkv;rw[List.map_append];rfl
structure Lf (a:Ad) (G:Hp) (lw sq w:Addr) (H:Hp) (lows:List Int) (wt st:List Nat):Prop where
 sm:Same G H
 lw_:H lw=some (.lst (lows.map V.int))
 sq_:H sq=some (.lst (nL st))
 w_:H w=some (.dK (wkv wt))
 nd:wt.Nodup
 tb:TbF a H
 ne:lw≠sq
theorem QC {a:Ad}{H:Hp}{l:Addr}{o u:HO} (h:TbF a H) (hl:H l=some u) (n1:∀ ps,u≠.tbl ps) (n2:∀ e,u≠.ext e):TbF a (upd H l o):=by
 obtain⟨ps,t1,t2,t3⟩:=h;refine⟨ps,(qf (qO t1 hl fun z=>n1 _ z.symm)).trans t1,t2,t3.imp id fun⟨c,h1,h2⟩=>⟨c,h1,(qf (qO h2 hl fun z=>n2 _ z.symm)).trans h2⟩⟩
theorem q9 {a:Ad}{H H':Hp} (h:TbF a H) (s:Same H H'):TbF a H':=by
 obtain⟨ps,t1,t2,t3⟩:=h;exact⟨ps,s _ _ t1,t2,t3.imp id fun⟨c,h1,h2⟩=>⟨c,h1,s _ _ h2⟩⟩
theorem jE {a:Ad}{H:Hp} (h:TbF a H) {l:Addr}{u:HO} (hl:H l=some u) (n1:∀ ps,u≠.tbl ps):l≠a.t_furthest:=by
 obtain⟨ps,t1,_⟩:=h;exact qO hl t1 (n1 _)
section
variable {a:Ad}{G H H':Hp}{lw sq w:Addr}{lows:List Int}{wt st:List Nat}
theorem Lf.same (h:Lf a G lw sq w H lows wt st) (s:Same H H'):Lf a G lw sq w H' lows wt st:=⟨h.sm.trans s,s _ _ h.lw_,s _ _ h.sq_,s _ _ h.w_,h.nd,q9 h.tb s,h.ne⟩
theorem Lf.but (h:Lf a G lw sq w H lows wt st) (n:G a.t_furthest=none) (b:But a.t_furthest H H') (t:TbF a H'):Lf a G lw sq w H' lows wt st :=
 ⟨h.sm.but b n,b _ _ h.lw_ (jE h.tb h.lw_ fun _ z=>nomatch z),b _ _ h.sq_ (jE h.tb h.sq_ fun _ z=>nomatch z),b _ _ h.w_ (jE h.tb h.w_ fun _ z=>nomatch z),h.nd,t,h.ne⟩
theorem Lf.low (h:Lf a G lw sq w H lows wt st) (n:G lw=none) (i:Nat) (y:Int):Lf a G lw sq w (upd H lw (.lst ((lows.map V.int).set i (.int y)))) (lows.set i y) wt st :=
 ⟨h.sm.put n _,upd_same.trans (by rw[List.map_set]),(qf h.ne.symm).trans h.sq_,(qf (qO h.w_ h.lw_ fun z=>nomatch z)).trans h.w_,h.nd,QC h.tb h.lw_ (fun _ z=>nomatch z) (fun _ z=>nomatch z),h.ne⟩
theorem Lf.push (h:Lf a G lw sq w H lows wt st) (n:G sq=none) (k:Nat):Lf a G lw sq w (upd H sq (.lst (nL st++[.int (k:Int)]))) lows wt (st++[k]) :=
 ⟨h.sm.put n _,(qf h.ne).trans h.lw_,upd_same.trans (by unfold nL;rw[List.map_append];rfl),(qf (qO h.w_ h.sq_ fun z=>nomatch z)).trans h.w_,h.nd,QC h.tb h.sq_ (fun _ z=>nomatch z) (fun _ z=>nomatch z),h.ne⟩
theorem Lf.wait (h:Lf a G lw sq w H lows wt st) (n:G w=none) {kvs:List (Key×V)}{wt':List Nat} (e:kvs=wkv wt') (nd:wt'.Nodup):Lf a G lw sq w (upd H w (.dK kvs)) lows wt' st :=
 ⟨h.sm.put n _,(qf (qO h.lw_ h.w_ fun z=>nomatch z)).trans h.lw_,(qf (qO h.sq_ h.w_ fun z=>nomatch z)).trans h.sq_,upd_same.trans (by rw[e]),nd,QC h.tb h.w_ (fun _ z=>nomatch z) (fun _ z=>nomatch z),h.ne⟩
end
theorem qbw {pss:Sps}{ls:List Int}{b:B3} (h1:b.1 < ls.length) (h2:b.2.1 < ls.length):lob pss (ls.map some) b=if ls.getD b.2.1 0+b.2.2 > ls.getD b.1 0 then ff (pss.getD b.1 []) (ls.getD b.2.1 0+b.2.2) else some (ls.getD b.1 0):=by
 have g1:ls.getD b.1 0=ls[b.1]:=by rw[List.getD_eq_getElem?_getD,List.getElem?_eq_getElem h1];rfl
 have g2:ls.getD b.2.1 0=ls[b.2.1]:=by rw[List.getD_eq_getElem?_getD,List.getElem?_eq_getElem h2];rfl
 unfold lob;rw[g1,g2,List.getElem?_map,List.getElem?_map,List.getElem?_eq_getElem h1,List.getElem?_eq_getElem h2];rfl
abbrev prK (z:Key×V):List V:=[kV z.1,z.2]
theorem qb9 {K:Frag}{H:Hp}:∀ {cs:List V}{L:List (Key×V)},TupL prK H cs L->Prs K H cs L
 | [],[],_=>.nil
 | [],_::_,h=>absurd h.1 (by simp)
 | _::_,[],h=>absurd h.1 (by simp)
 | c::cs,(k,v)::L,h=>by
   obtain⟨t,e,q⟩:=h.2 0 c (k,v) rfl rfl;subst e;exact .cons (SqT.of q) (qb9 ⟨by have:=h.1;simpa using this,fun i z p e1 e2=>h.2 (i+1) z p (by simpa using e1) (by simpa using e2)⟩)
theorem JL {i:Nat}:wkv (List.range (i+1))=wkv (List.range i)++[(.inl (i:Int),.bl true)]:=by
 unfold wkv;rw[List.range_succ,List.map_append];rfl
theorem JM {wt:List Nat} (h:wt.Nodup):((wkv wt).map (·.1)).Nodup:=by
 unfold wkv;rw[List.map_map];exact List.Pairwise.map _ (fun a b n=>qby n) h
theorem qar {wt:List Nat}{e:Nat} (h:wt.Nodup):(if e∈wt then wt else wt++[e]).Nodup:=by
 split
 · exact h
 · rename_i m
   rw[List.nodup_append];refine⟨h,by simp,fun a1 m1 b1 m2=>?_⟩;rw[List.mem_singleton.mp m2];rintro rfl;exact m m1
theorem qcL {wt:List Nat}{e j:Nat}:j∈(if e∈wt then wt else wt++[e])↔j∈wt∨j=e:=by
 split
 · rename_i m
   exact⟨.inl,fun h=>h.elim id fun z=>z▸m⟩
 · rw[List.mem_append,List.mem_singleton]
theorem qd3 (ls:List Int):(ls.map some).map oV=ls.map V.int:=by rw[List.map_map];rfl
inductive zq (a:Ad) (vs:List V) (H:Hp) (Q:VK):Prop
 | mk (x lw en ks kb hq ow:Addr) (ts rs:List Addr) (zss:List (List V)) (pss:Sps) (bs:List V) (bds:List B3) (hs l0:List Int) (h1:vs=[.ref x,.ref lw,.ref en]) (h2:Rz a (cut H [lw,a.t_furthest]) x ks kb hq ow ts rs zss bs bds hs) (h3:TbF a H) (h4:H en=some (.lst (nL (List.range pss.length)))) (h5:en≠lw) (h6:H lw=some (.lst (l0.map V.int))) (h7:LI pss l0) (h8:zss.length=pss.length) (h9:(∀ (i:Nat) zs ps,zss[i]?=some zs->pss[i]?=some ps->TupL pr (cut H [lw,a.t_furthest]) zs ps)) (h10:(∀ ps∈pss,Srt ps)) (h11:TupL tr (cut H [lw,a.t_furthest]) bs bds) (h12:Fx bds pss.length) (h13:hs.length=pss.length) (h14:Hk bds hs) (h15:pss.length≤60) (h16:bds.length≤101) (h17:bds.length * mu pss l0 []+bds.length < sizeLine) (h18:∀ (tp sq:Addr) (lows:List Int) (st:List Nat) (past:Option Nat) (H':Hp),Same (cut H [lw,a.t_furthest]) H'->TbF a H'->H sq=none->H' lw=some (.lst (lows.map V.int))->H' sq=some (.lst (nL st))->H' tp=some (.tup [.ref sq,oN past])->LI pss lows->Gd pss bds l0 st->rst pss bds l0 st=(lows,past)->(past=none->∀ b∈bds,lows.getD b.2.1 0+b.2.2≤lows.getD b.1 0)->st.length < sizeLine->Q (.ref tp) H'):zq a vs H Q
def zP (a:Ad):Sp:=fun vs H Q _=>zq a vs H Q
structure Hd0 (pss:Sps) (bds:List B3) (hs l0 lows:List Int) (wt P st:List Nat) (m:Nat):Prop where
 ph:Ph pss bds hs lows wt P
 gd:Gd pss bds l0 st
 rs:rst pss bds l0 st=(lows,none)
 mm:m=mu pss lows P
 le:st.length+bds.length * mu pss lows P≤bds.length * mu pss l0 []
def qdR (a:Ad) (G:Hp) (x lw en sq w:Addr) (pss:Sps) (bds:List B3) (hs l0:List Int) (m:Nat) (σ:L2.St) (H3:Hp):Prop:=∃ (lows:List Int) (wt P st:List Nat) (s5 s6 s7 s8:Option V),σ=[some (.ref x),some (.ref lw),some (.ref en),some (.ref sq),some (.ref w),s5,s6,s7,s8]∧Lf a G lw sq w H3 lows wt st∧Hd0 pss bds hs l0 lows wt P st m
section
variable {P:Program}{w:World}{K:Frag}{mg:Str->Option Value}{base:Heap}
theorem Zs {a:Ad} (T:Txt K mg a) (hB:JK mg base):FnOk P w K mg base CX0 4 a.f_x a.fd_x ["self","lows","entries"] (zP a):=by
 have G_i:FnOk P w K mg base CX0 1 a.f_i a.fd_i ["waiting","lows","heights"] (Q3 a):=jN T hB;have G_o:=Z0 (P:=P) (w:=w) (base:=base) T;refine T.d_x.F.ok sc_Raiser_lift (fun vs H Q E h=>?_) (fun cdv A outer s H vs Q E hr h=>?_)
 · obtain⟨x,lw,en,ks,kb,hq,ow,ts,rs,zss,pss,bs,bds,hs,l0,rfl,R,tbf,hen,nen,hlw,li,zl,hps,hsrt,tb,F,hl,hk,n60,few,big,kk⟩:=h;rfl
 · obtain⟨x,lw,en,ks,kb,hq,ow,ts,rs,zss,pss,bs,bds,hs,l0,rfl,R,tbf,hen,nen,hlw,li,zl,hps,hsrt,tb,F,hl,hk,n60,few,big,kk⟩:=h;have hu:=za hr;have hU:=hr.units;have h_i:Room (1) _:=hr.mono (by decide);have h_o:Room (3) _:=hr.mono (by decide);obtain⟨t_LATER,c_LATER⟩:=T.g_LATER
   refine⟨_,(qb (qo (i:=3) sc_Raiser_lift.nd rfl (Or.inl rfl) (zV qc))
     (qb (qo (i:=4) sc_Raiser_lift.nd rfl (Or.inl rfl) (qN (r:=qb7 K) (JE rfl) (by rfl) T.n_dict JF (qa (Zc rfl (CompOk.def ["entry"] [none]) (ze (pv 2)) (fun _ _ _ _ _=>(qr (i:=0) (show List.Nodup (["entry"]:List Str) by decide +kernel) rfl (Or.inl rfl))) (fun _ _ _ _ _=>zn) (fun _ _ _ _ _=>(zU (qa (pv 0) (qa zX qc))))) qc)))
     (qb (Ja PassesOwn.never (qbf (pv 4) (fun _=>rfl))
       (qb (qo (i:=5) sc_Raiser_lift.nd rfl (Or.inl rfl) (ql G_i h_i rfl T.d_i.m T.d_i.k T.d_i.b .nil qz (qa (pv 4) (qa (pv 1) (qa (Qn (pv 0) rfl) qc)))))
       (qb (zo (qbm (pv 4) (pv 5) ⟨rfl,rfl,rfl,rfl⟩))
       (qg (zT PassesOwn.never rfl (ze (qp (r:=rIx K) qm (Qn (pv 0) rfl) (pv 5) (fun _ _=>rfl))) (qr (i:=6) (sc_Raiser_lift.nd) rfl (Or.inl rfl))
         (qb (qo (i:=7) sc_Raiser_lift.nd rfl (Or.inl rfl) (qp (r:=rIx K) qm (qp (r:=rIx K) qm (Qn (pv 0) rfl) (pv 6) (fun _ _=>rfl)) (qV (v:=.int 0) rfl c_LATER ⟨_,rfl⟩) (fun _ _=>rfl)))
         (qb (qo (i:=8) sc_Raiser_lift.nd rfl (Or.inl rfl) (ql G_o h_o rfl T.d_o.m T.d_o.k T.d_o.b .nil qz (qa (Qn (pv 0) rfl) (qa (pv 1) (qa (qp (r:=rIx K) qm (Qn (pv 0) rfl) (pv 6) (fun _ _=>rfl)) qc)))))
         (qb (qU (qw (uEq hU) (pv 8) (qp (r:=rIx K) qm (pv 1) (pv 7) (fun _ _=>rfl)) (qE _))
           (qg jL)
           qC)
         (qb (zo (jM PySem.F.plainAttrs_list PySem.F.slot_list_append PySem.F.type_list_append qS (pv 3) (qa (pv 6) qc)))
         (qb (qU (qw ZG (pv 8) zb (qE _))
           (qg (qu (zU (qa (pv 3) (qa (pv 7) qc)))))
           qC)
         (qb (Qm (pv 8) (Zb (pv 1) (pv 7) zm))
         (qg (qcA hu (pv 4) (pv 7) zX rfl)))))))))))))
     (qg (qu (zU (qa (pv 3) (qa zb qc)))))))),?_⟩
   try dsimp only [zG,Cx.nox]
   have gl:cut H [lw,a.t_furthest] lw=none:=QP (by simp);have gt:cut H [lw,a.t_furthest] a.t_furthest=none:=QP (by simp);have S0:=zN H [lw,a.t_furthest];generalize hG:cut H [lw,a.t_furthest]=G at *;obtain⟨dx,hx⟩:=R.at_;refine⟨qx (Nat.le_of_ble_eq_true rfl),fun sq fsq=>?_⟩;have nls:lw≠sq:=qd hlw fsq;have S1:=Same.new (.lst []) fsq;have hsq:(upd H sq (.lst [])) sq=some (.lst []):=upd_same;generalize upd H sq (.lst [])=H1 at S1 hsq ⊢;refine⟨_,rfl,en,rfl,⟨_,SqL.of (S1 _ _ hen)⟩,fun D fD=>?_⟩;have enl:(nL (List.range pss.length)).length=pss.length:=by unfold nL;rw[List.length_map,List.length_range]
   refine zH (K:=K) (a:=en) (xs:=nL (List.range pss.length)) (D:=D) (fun i σ H2=>∃ (c0:Option V) (cs:List V),σ=[c0]∧Same H1 H2∧H2 D=some (.lst cs)∧cs.length=i∧TupL prK H2 cs (wkv (List.range i))) ⟨none,[],rfl,Same.new _ fD,upd_same,rfl,.nil⟩ (fun i σ H2 _ ⟨_,_,_,S,_⟩=>SqL.of (S _ _ (S1 _ _ hen))) ?_ ?_
   · rintro i v σ H2 hv ⟨c0,cs,rfl,S,hD,lc,tp⟩;have hi:i < pss.length:=by rw[← enl];exact(List.getElem?_eq_some_iff.mp hv).1
     have ev:v=.int (i:Int):=by
       unfold nL at hv;rw[List.getElem?_map,List.getElem?_range hi]at hv;exact(Option.some.inj hv).symm
     subst ev;refine⟨_,rfl,qx (Nat.le_of_ble_eq_true rfl),fun t ft=>⟨_,Same.new _ ft _ _ hD,qD (by omega),?_⟩⟩;refine⟨_,cs++[.ref t],rfl,(S.then _ ft).put fD _,upd_same,by rw[List.length_append,lc];rfl,?_⟩;rw[JL];exact TupL.put (TupL.snoc (f:=prK) (p:=((Sum.inl (i:Int):Key),V.bl true)) (tp.same (Same.new (.tup [.int (i:Int),.bl true]) ft)) upd_same) (Same.new _ ft _ _ hD)
   rintro σ H2 ⟨c0,cs,rfl,S,hD,lc,tp⟩;rw[enl]at lc tp;refine⟨D,cs,_,rfl,SqL.of hD,qb9 tp,JM List.nodup_range,fun w fw=>?_⟩;have gw:G w=none:=(S0.trans (S1.trans S)).none fw;have gs:G sq=none:=S0.none fsq;have Sw:=Same.new (.dK (wkv (List.range pss.length))) fw;have S3:=(S1.trans S).trans Sw;have L0:Lf a G lw sq w (upd H2 w (.dK (wkv (List.range pss.length)))) l0 (List.range pss.length) []:=⟨S0.trans S3,S3 _ _ hlw,Sw _ _ (S _ _ hsq),upd_same,List.nodup_range,q9 tbf S3,nls⟩
   generalize upd H2 w (.dK (wkv (List.range pss.length)))=H3 at L0 ⊢;clear tp hD lc cs Sw S3;(try dsimp only);refine qbC ?_;refine qa3 (qdR a G x lw en sq w pss bds hs l0) (mu pss l0 []) ⟨l0,_,[],[],none,none,none,none,rfl,L0,⟨Ph.start li (fun i=>List.mem_range) F,Gd.nil,rfl,rfl,by rw[List.length_nil];omega⟩⟩ ?_ ?_
   · rintro m σ H3 ⟨lows,wt,P,st,s5,s6,s7,s8,rfl,L,h⟩;refine⟨_,rfl,!(wkv wt).isEmpty,.inr (.inr ⟨wkv wt,L.w_,rfl⟩),?_⟩;by_cases w0:wt=[]
     · refine Qq (by rw[w0];rfl) ?_;refine⟨_,rfl,qx (Nat.le_of_ble_eq_true rfl),fun t ft=>?_⟩;have L':=L.same (Same.new (.tup [.ref sq,.non]) ft);exact kk t sq lows st none _ L'.sm L'.tb fsq L'.lw_ L'.sq_ upd_same h.ph.li h.gd h.rs (fun _ b mb=>h.ph.kp b mb (by rw[w0];exact fun z=>nomatch z)) (by have:=h.le;omega)
     refine qcO (by cases wt with|nil=>exact absurd rfl w0|cons _ _=>rfl) ?_;refine⟨_,rfl,_,rfl,_,rfl,x,_,dx,_,_,rfl,L.sm _ _ hx,T.cl_Raiser,T.n_Raiser_heights,qej _ _ _ _,w,lw,hq,wt,lows,hs,rfl,L.w_,w0,L.lw_,L.sm _ _ R.hh,fun i mi=>⟨by rw[h.ph.li.1];exact h.ph.wl i mi,by rw[hl];exact h.ph.wl i mi⟩,(by rw[h.ph.li.1];exact n60),L.tb,fun e H4 B tb4 me best=>?_⟩;have L4:=L.but gt B tb4;have eo:e < pss.length:=h.ph.wl e me;refine⟨_,rfl,w,rfl,.inl ⟨_,.inl L4.w_⟩,_,rfl,_,.inl (e:Int),_,L4.w_,rfl,jG me,?_⟩;have L5:=L4.wait gw (ZO (e:=e)) (L4.nd.filter _);generalize upd H4 w (.dK (Qu (wkv wt) (.inl (e:Int))))=H5 at L5 ⊢;have T5:Tn pss bds hs lows lows (wt.filter fun i=>decide (i≠e)) P e ((onw bds bds.length e).drop 0):=h.ph.turn me best (fun j=>by rw[List.mem_filter,decide_eq_true_iff]) fun k b hb he=>onw_mem.mpr ⟨(List.getElem?_eq_some_iff.mp hb).1,by rw[List.getD_eq_getElem?_getD,hb];exact he⟩
     have hr:rs[e]?=some (rs.getD e 0):=by
       have:e < rs.length:=by rw[R.on_.len,List.length_map,List.length_range,zl];exact eo
       rw[List.getD_eq_getElem?_getD,List.getElem?_eq_getElem this];rfl
     have each:=R.on_.each e _ _ hr (jj (by rw[zl];exact eo));have lon:(nL (onw bds bds.length e)).length=(onw bds bds.length e).length:=List.length_map _;have olen:=qaj bds bds.length e;refine⟨_,rfl,x,_,dx,_,_,rfl,L5.sm _ _ hx,T.cl_Raiser,T.n_Raiser_onwards,qeg _ _ _ _,_,rfl,.inl ⟨ow,_,_,_,rfl,rfl,SqL.of (L5.sm _ _ R.on_.at_),qJ (by rw[List.getElem?_map,hr];rfl),rs.getD e 0,rfl,⟨_,SqL.of (L5.sm _ _ each)⟩,Qt (K:=K) (D:=⟨fun σ' H'=>∃ m',m' < m∧qdR a G x lw en sq w pss bds hs l0 m' σ' H',Q,_,_⟩) (a:=rs.getD e 0) (xs:=nL (onw bds bds.length e)) (fun i σ H6=>∃ (lo:List Int) (wt2 st2:List Nat) (s6 s7 s8:Option V),σ=[some (.ref x),some (.ref lw),some (.ref en),some (.ref sq),some (.ref w),some (.int (e:Int)),s6,s7,s8]∧Lf a G lw sq w H6 lo wt2 st2∧Tn pss bds hs lows lo wt2 P e ((onw bds bds.length e).drop i)∧Gd pss bds l0 st2∧rst pss bds l0 st2=(lo,none)∧st2.length≤st.length+i) ⟨lows,_,st,_,_,_,rfl,L5,T5,h.gd,h.rs,Nat.le_refl _⟩ (fun i σ H6 _ ⟨_,_,_,_,_,_,_,L6,_⟩=>SqL.of (L6.sm _ _ each)) ?_ ?_⟩⟩
     · rintro i v σ H6 hv ⟨lo,wt2,st2,s6,s7,s8,rfl,L6,T6,g6,r6,len6⟩;obtain⟨k,hk',rfl⟩:=zE hv;have hi:=(List.getElem?_eq_some_iff.mp hk').1;have mk:=onw_mem.mp (List.mem_of_getElem? hk');obtain⟨b,hb⟩:∃ b,bds[k]?=some b:=⟨_,List.getElem?_eq_getElem mk.1⟩
       have he:b.2.1=e:=by have:=mk.2;rwa [List.getD_eq_getElem?_getD,hb]at this
       have ok:=F b (List.mem_of_getElem? hb);obtain⟨t,hz,ht⟩:=tb.at_ hb;have hx6:=L6.sm _ _ hx;have hb6:=L6.sm _ _ R.bd;have ht6:=L6.sm _ _ ht
       have edr:(onw bds bds.length e).drop i=k::(onw bds bds.length e).drop (i+1):=by
         rw[List.drop_eq_getElem_cons hi];rw[List.getElem?_eq_getElem hi]at hk';rw[Option.some.inj hk']
       rw[edr]at T6;have l1:b.1 < lo.length:=by rw[T6.li.1];exact ok.1
       have l2:b.2.1 < lo.length:=by rw[T6.li.1];exact ok.2
       have lt6:(nL st2).length < sizeLine:=by
         have:(nL st2).length=st2.length:=List.length_map _
         have:=h.le
         omega
       refine⟨_,rfl,x,_,dx,_,_,rfl,hx6,T.cl_Raiser,T.n_Raiser_kept_bonds,qdG _ _ _ _,_,rfl,.inl ⟨kb,_,_,_,rfl,rfl,SqL.of hb6,qJ hz,.inr (.inl ⟨t,_,_,_,rfl,rfl,SqT.of ht6,rfl,?_⟩)⟩⟩;refine⟨_,rfl,x,_,dx,_,_,rfl,hx6,T.cl_Raiser,T.n_Raiser_kept_spans,qei _ _ _ _,_,rfl,_,rfl,x,_,dx,_,_,rfl,hx6,T.cl_Raiser,T.n_Raiser_kept_bonds,qdG _ _ _ _,_,rfl,.inl ⟨kb,_,_,_,rfl,rfl,SqL.of hb6,qJ hz,ks,lw,t,ts,zss,pss,lo.map some,b,rfl,R.sp.same L6.sm,zl,(fun i zs ps e1 e2=>(hps i zs ps e1 e2).same L6.sm),hsrt,(by rw[qd3];exact L6.lw_),(by rw[List.length_map];exact T6.li.1),ht6,ok.1,ok.2,?_⟩⟩;have al:atI (lo.map V.int) (b.1:Int)=some (.int (lo.getD b.1 0)):=qJ (by rw[List.getElem?_map,List.getElem?_eq_getElem l1,List.getD_eq_getElem?_getD,List.getElem?_eq_getElem l1];rfl);rw[qbw l1 l2];by_cases up:lo.getD b.2.1 0+b.2.2 > lo.getD b.1 0
       · rw[if_pos up];have g7:=g6.snoc r6 hb up;have up':lo.getD b.1 0 < lo.getD e 0+b.2.2:=by rw[← he];exact up
         cases hf:ff (pss.getD b.1 []) (lo.getD b.2.1 0+b.2.2) with
         | none =>
           refine⟨_,rfl,_,rfl,_,rfl,.inl ⟨lw,_,_,_,rfl,rfl,SqL.of L6.lw_,al,.inl ⟨rfl,_,rfl,zM (fun g=>nomatch g) fun _=>?_⟩⟩⟩;refine⟨_,rfl,(show tyV K "list" (.ref sq) _ from .inl ⟨rfl,_,SqL.of L6.sq_⟩),_,rfl,sq,_,_,rfl,rfl,L6.sq_,lt6,?_⟩;have L7:=L6.push gs k;refine⟨_,rfl,rfl,_,rfl,zM (fun _=>?_) fun g=>absurd rfl g⟩;refine⟨_,rfl,_,rfl,qx (Nat.le_of_ble_eq_true rfl),fun t ft=>?_⟩;have L8:=L7.same (Same.new (.tup [.ref sq,.int (b.1:Int)]) ft);exact kk t sq lo (st2++[k]) (some b.1) _ L8.sm L8.tb fsq L8.lw_ L8.sq_ upd_same T6.li g7 (by rw[ZW,r6,J9 hb hf]) (fun z=>nomatch z) (by rw[List.length_append,List.length_singleton];have:=h.le;omega)
         | some y =>
           have ge:=qbG hf;refine⟨_,rfl,_,rfl,_,rfl,.inl ⟨lw,_,_,_,rfl,rfl,SqL.of L6.lw_,al,.inl ⟨rfl,_,rfl,zM (fun g=>absurd (V.int.inj g) (by omega)) fun _=>?_⟩⟩⟩;refine⟨_,rfl,(show tyV K "list" (.ref sq) _ from .inl ⟨rfl,_,SqL.of L6.sq_⟩),_,rfl,sq,_,_,rfl,rfl,L6.sq_,lt6,?_⟩;have L7:=L6.push gs k;generalize upd H6 sq _=H7 at L7 ⊢;refine⟨_,rfl,rfl,_,rfl,zM (fun g=>nomatch g) fun _=>?_⟩;refine⟨_,rfl,_,rfl,_,rfl,lw,_,_,b.1,rfl,rfl,L7.lw_,(by rw[List.length_map];exact Z5 l1),?_⟩;have L8:=L7.low gl b.1 y;obtain⟨T8,_⟩:=T6.rise hsrt hk F hb he up' (by rw[← he];exact hf) (fun j=>qcL)
           have w8:(wkv wt2).length < sizeLine:=by
             have:=K43.nodup_le pss.length wt2 L6.nd T6.wl
             exact qD (by rw[show (wkv wt2).length=wt2.length from List.length_map _];omega)
           refine⟨_,rfl,_,rfl,w,_,rfl,DPut.k (k:=.inl (b.1:Int)) L8.w_ w8,?_⟩;exact⟨_,_,_,_,_,_,rfl,L8.wait gw qct (qar L8.nd),T8,g7,(by rw[ZW,r6,qbY hb hf]),(by rw[List.length_append,List.length_singleton];omega)⟩
       · rw[if_neg up];refine⟨_,rfl,_,rfl,_,rfl,.inl ⟨lw,_,_,_,rfl,rfl,SqL.of L6.lw_,al,.inl ⟨rfl,_,rfl,zM (fun _=>?_) fun g=>absurd rfl g⟩⟩⟩;exact⟨lo,wt2,st2,_,_,_,rfl,L6,T6.skip hb he (by rw[← he];omega),g6,r6,by omega⟩
     · rintro σ H6 ⟨lo,wt2,st2,s6,s7,s8,rfl,L6,T6,g6,r6,len6⟩;rw[lon]at len6 T6;rw[List.drop_length]at T6;obtain⟨P',ph',lt⟩:=T6.done;refine⟨mu pss lo P',by rw[h.mm];exact lt,lo,wt2,P',st2,_,_,_,_,rfl,L6,⟨ph',g6,r6,rfl,?_⟩⟩
       have:=Nat.mul_le_mul_left bds.length lt
       rw[Nat.mul_succ]at this
       have:=h.le
       omega
   · rintro σ H Q1 Q2 hm ⟨v,hv,k,hk,q⟩;exact⟨v,hv,k,hk,hm _ _ q⟩
end
theorem qcV {H:Hp}{lw t c:Addr}{o:HO} (e:H c=some o) (n1:c≠lw) (n2:c≠t):cut H [lw,t] c=some o:=(qY (by simp[n1,n2])).trans e
theorem qaZ {H:Hp}{lw t d:Addr}{ts:List Addr}{zss:List (List V)} (L:LL H d ts zss) (n1:d≠lw) (n2:∀ r∈ts,r≠lw) (m:∀ c xs,H c=some (.lst xs)->c≠t):LL (cut H [lw,t]) d ts zss :=
 ⟨qcV L.at_ n1 (m _ _ L.at_),L.len,fun i q zs e1 e2=>qcV (L.each i q zs e1 e2) (n2 q (List.mem_of_getElem? e1)) (m _ _ (L.each i q zs e1 e2)),L.out⟩
theorem jB {β:Type}{f:β->List V}{H:Hp}{lw t:Addr}{zs:List V}{ps:List β}{xs:List V}{tt:Array Value} (h:TupL f H zs ps) (hl:H lw=some (.lst xs)) (ht:H t=some (.tbl tt)):TupL f (cut H [lw,t]) zs ps:=⟨h.1,fun i z p e1 e2=>by
 obtain⟨c,rfl,e⟩:=h.2 i z p e1 e2
 exact⟨c,rfl,qcV e (qO e hl (by intro z;cases z)) (qO e ht (by intro z;cases z))⟩⟩
theorem qdP {a:Ad}{H:Hp}{x ks kb hq ow lw:Addr}{ts rs:List Addr}{zss:List (List V)}{bs:List V}{bds:List B3}{hs:List Int}{xs:List V} (R:Rz a H x ks kb hq ow ts rs zss bs bds hs) (tb:TbF a H) (hl:H lw=some (.lst xs)) (n1:ks≠lw) (n2:∀ t∈ts,t≠lw) (n3:kb≠lw) (n4:hq≠lw) (n5:ow≠lw) (n6:∀ t∈rs,t≠lw):Rz a (cut H [lw,a.t_furthest]) x ks kb hq ow ts rs zss bs bds hs:=by
 obtain⟨tt,ht,_⟩:=tb;have m:∀ c xs,H c=some (.lst xs)->c≠a.t_furthest:=fun c xs e=>qO e ht (by intro z;cases z);obtain⟨dx,hx⟩:=R.at_;exact⟨⟨dx,qcV hx (qO hx hl (by intro z;cases z)) (qO hx ht (by intro z;cases z))⟩,qaZ R.sp n1 n2 m,qcV R.bd n3 (m _ _ R.bd),qcV R.hh n4 (m _ _ R.hh),qaZ R.on_ n5 n6 m⟩
inductive QZ (a:Ad) (vs:List V) (H:Hp) (Q:VK):Prop
 | mk (f l:Addr) (zss:List (List V)) (pss:Sps) (bs:List V) (bds:List B3) (g:Nat->Int) (l0:List Int) (h1:vs=[.ref f,.ref l]) (h2:Fr a H f zss bs) (h3:TupL tr H bs bds) (h4:Fx bds pss.length) (h5:zss.length=pss.length) (h6:pss.length≤60) (h7:bds.length≤101) (h8:(∀ b∈bds,g b.2.1+b.2.2≤g b.1)) (h9:(∀ (i:Nat) zs ps,zss[i]?=some zs->pss[i]?=some ps->TupL pr H zs ps)) (h10:(∀ ps∈pss,Srt ps)) (h11:H l=some (.lst (l0.map V.int))) (h12:LI pss l0) (h13:TbF a H) (h14:bds.length * mu pss l0 []+bds.length < sizeLine) (h15:∀ (tp lw sq:Addr) (lows:List Int) (st:List Nat) (past:Option Nat) (H':Hp),But a.t_furthest H H'->TbF a H'->H lw=none->H sq=none->lw≠sq->H tp=none->H' lw=some (.lst (lows.map V.int))->H' sq=some (.lst (nL st))->H' tp=some (.tup [.ref lw,.ref sq,oN past])->LI pss lows->Gd pss bds l0 st->rst pss bds l0 st=(lows,past)->(past=none->∀ b∈bds,lows.getD b.2.1 0+b.2.2≤lows.getD b.1 0)->st.length < sizeLine->Q (.ref tp) H'):QZ a vs H Q
def Q0 (a:Ad):Sp:=fun vs H Q _=>QZ a vs H Q
section
variable {P:Program}{w:World}{K:Frag}{mg:Str->Option Value}{base:Heap}
theorem qak {a:Ad} (T:Txt K mg a) (hB:JK mg base):FnOk P w K mg base CX0 7 a.f_e a.fd_e ["frame","lows"] (Q0 a):=by
 have G_x:FnOk P w K mg base CX0 4 a.f_x a.fd_x ["self","lows","entries"] (zP a):=Zs T hB;have G_w:=Zt (P:=P) (w:=w) (base:=base) T;refine T.d_e.F.ok sc_raised (fun vs H Q E h=>?_) (fun cdv A outer s H vs Q E hr h=>?_)
 · obtain⟨f,l,zss,pss,bs,bds,g,l0,rfl,fr,tb,F,zl,n60,few,hg,hps,hsrt,hl,li,tbf,big,kk⟩:=h;rfl
 · obtain⟨f,l,zss,pss,bs,bds,g,l0,rfl,fr,tb,F,zl,n60,few,hg,hps,hsrt,hl,li,tbf,big,kk⟩:=h;have h_x:Room (4) _:=hr.mono (by decide);have h_w:Room (5+1) _:=hr.mono (by decide)
   refine⟨_,(qb (qo (i:=2) sc_raised.nd rfl (Or.inl rfl) (qN (r:=qbd K) qH (by rfl) T.n_list qB (qa (pv 1) qc)))
     (qb (qo (i:=3) sc_raised.nd rfl (Or.inl rfl) (qcD (qaf T.M_Raiser G_w h_w rfl T.g_Raiser T.d_w.b .nil qz (qa (pv 0) qc)) T.cl_Raiser T.d_x.mt G_x h_x T.d_x.b .nil qz (qa (pv 2) (qa (qN (r:=qb1) (JB rfl) (by rfl) T.n_list qB (qa (qbk rfl T.n_range (qk qL (by rfl) T.n_len qF (qa (pv 1) qc))) qc)) qc))))
     (qg (qu (zU (qa (pv 2) (qa (qp (r:=rIx K) qm (pv 3) qe (fun _ _=>rfl)) (qa (qp (r:=rIx K) qm (pv 3) qe (fun _ _=>rfl)) qc)))))))),?_⟩
   try dsimp only [zG,Cx.nox]
   refine⟨_,rfl,l,_,rfl,.inl (SqL.of hl),fun lw fl=>?_⟩;have S1:=Same.new (.lst (l0.map V.int)) fl;have h1:(upd H lw (.lst (l0.map V.int))) lw=some (.lst (l0.map V.int)):=upd_same;generalize upd H lw (.lst (l0.map V.int))=H1 at S1 h1 ⊢;refine⟨_,rfl,fun x dx fx fdx nd=>?_⟩;have S2:=(Same.new (.own x) fdx).then (.ins a.c_Raiser dx []) ((qf nd.symm).trans fx)
   have hx2:(upd (upd H1 dx (.own x)) x (.ins a.c_Raiser dx [])) x=some (.ins a.c_Raiser dx []):=upd_same;generalize upd (upd H1 dx (.own x)) x (.ins a.c_Raiser dx [])=H2 at S2 hx2 ⊢;have S12:=S1.trans S2;refine⟨x,dx,f,zss,bs,bds,g,rfl,hx2,fr.same S12,tb.same S12,(by rw[zl];exact F),(by rw[zl];exact n60),few,hg,fun ks kb hq ow ts rs hs H3 f1 f2 f3 f5 f6 f7 B R lh hk=>⟨rfl,?_⟩⟩;have S3:Same H1 H3:=fun c o e=>B c o (S2 c o e) (qd e fx);obtain⟨dx',hx3⟩:=R.at_;refine⟨x,dx',_,rfl,hx3,qeh _ _ _ _,_,rfl,_,rfl,_,_,rfl,.inl ⟨_,SqL.of ((S1.trans S3) _ _ hl),rfl⟩,_,rfl,fun r fr2=>?_⟩;have e0:(((l0.map V.int).length:Nat):Int)=(pss.length:Int):=by rw[List.length_map,li.1]
   rw[e0];have S4:=Same.new (.rng 0 (pss.length:Int)) fr2;refine⟨r,(pss.length:Int),rfl,upd_same,by omega,by omega,fun en fen=>?_⟩;have S5:=Same.new (.lst ((List.range ((pss.length:Int)).toNat).map fun (i:Nat)=>V.int (i:Int))) fen
   have he:(upd (upd H3 r (.rng 0 (pss.length:Int))) en (.lst ((List.range ((pss.length:Int)).toNat).map fun (i:Nat)=>V.int (i:Int)))) en=some (.lst (nL (List.range pss.length))):=by
     rw[upd_same,Int.toNat_natCast];rfl
   generalize upd (upd H3 r (.rng 0 (pss.length:Int))) en (.lst ((List.range ((pss.length:Int)).toNat).map fun (i:Nat)=>V.int (i:Int)))=H5 at S5 he ⊢;have S35:=S4.trans S5;have SA:=(S1.trans S3).trans S35;have h5:=S35 _ _ (S3 _ _ h1);have tb5:=q9 tbf SA;obtain⟨tt,ht5,_⟩:=id tb5;have l2:=S2 _ _ h1;have nx:∀ c,H2 c=none->c≠lw:=fun c e=>(qd l2 e).symm;refine⟨x,lw,en,ks,kb,hq,ow,ts,rs,zss,pss,bs,bds,hs,l0,rfl,qdP (R.same S35) tb5 h5 (nx _ f1) (fun t m=>nx _ (f2 t m)) (nx _ f3) (nx _ f5) (nx _ f6) (fun t m=>nx _ (f7 t m)),tb5,he,(qd (S4 _ _ (S3 _ _ h1)) fen).symm,h5,li,zl,(fun i zs ps e1 e2=>jB ((hps i zs ps e1 e2).same SA) h5 ht5),hsrt,jB (tb.same SA) h5 ht5,F,(by rw[lh];exact zl),hk,n60,few,big,fun tp sq lows st past H6 S6 tb6 fs hlw hsq htp li6 gd rs6 kp sl=>?_⟩;have fsH:=SA.none fs;have nsl:lw≠sq:=qd h5 fs;refine⟨_,rfl,_,rfl,.inr (.inl ⟨tp,_,_,_,rfl,rfl,SqT.of htp,rfl,_,rfl,.inr (.inl ⟨tp,_,_,_,rfl,rfl,SqT.of htp,rfl,qx (Nat.le_of_ble_eq_true rfl),fun t ft=>?_⟩)⟩)⟩;have S7:=Same.new (.tup [.ref lw,.ref sq,oN past]) ft;have BB:But a.t_furthest H H6:=fun c o e n=>S6 c o (qcV (SA _ _ e) (qd e fl) n)
   have ftH:H t=none:=by
     by_cases z:t=a.t_furthest
     · obtain⟨_,q,_⟩:=tb6;rw[z,q]at ft;cases ft
     · cases q:H t with
       | none=>rfl
       | some o=>rw[BB t o q z]at ft;cases ft
   exact kk t lw sq lows st past _ (fun c o e n=>S7 _ _ (BB c o e n)) (q9 tb6 S7) fl fsH nsl ftH (S7 _ _ hlw) (S7 _ _ hsq) upd_same li6 gd rs6 kp sl
end
inductive Zy (K:Frag) (vs:List V) (H:Hp) (Q:VK):Prop
 | mk (sa:Addr) (ns:List Int) (k:Int) (h1:vs=[.ref sa,.int k]) (h2:SqL K H sa (ns.map V.int)) (h3:0≤k) (h4:∀ (p:Addr) (H':Hp),H p=none->Same H H'->PoolAt H' p->Q (.ref p) H'):Zy K vs H Q
def j0 (K:Frag):Sp:=fun vs H Q _=>Zy K vs H Q
inductive Zx (vs:List V) (H:Hp) (Q:VK):Prop
 | mk (p:Addr) (m:Int) (h1:vs=[.ref p,.int m]) (h2:PoolAt H p) (h3:0 < m) (h4:m < 1073741824) (h5:∀ (d:Int) (H':Hp),0≤d->d < m->But p H H'->PoolAt H' p->Q (.int d) H'):Zx vs H Q
def Qe:Sp:=fun vs H Q _=>Zx vs H Q
def SW (H:Hp):Nat->V->V->Prop
 | 0,x,y=>SV H 0 x y
 | n+1,x,y=>SV H 0 x y∨∃ (t:Bool) (a b:Addr) (xs ys:List V),x=.ref a∧y=.ref b∧H a=some (ho t xs)∧H b=some (ho t ys)∧xs.length=ys.length∧xs.length≤1000∧∀ (i:Nat) u v,xs[i]?=some u->ys[i]?=some v->SW H n u v
theorem SW.same {H H':Hp} (s:Same H H'):∀ {n:Nat}{x y:V},SW H n x y->SW H' n x y
 | 0,_,_,h=>h
 | _+1,_,_,.inl h=>.inl h
 | _+1,_,_,.inr ⟨t,a,b,xs,ys,e1,e2,h1,h2,h3,h4,h5⟩=>.inr ⟨t,a,b,xs,ys,e1,e2,s _ _ h1,s _ _ h2,h3,h4,fun i u v q1 q2=>(h5 i u v q1 q2).same s⟩
theorem SV.w {H:Hp}:∀ {n:Nat}{x y:V},SV H n x y->SW H n x y
 | 0,_,_,h=>h
 | _+1,_,_,⟨t,a,b,xs,ys,e1,e2,h1,h2,h3,h4,h5⟩=>.inr ⟨t,a,b,xs,ys,e1,e2,h1,h2,h3,h4,fun i u v q1 q2=>SV.w (h5 i u v q1 q2)⟩
def qcw:Nat->Sp
 | 0=>fun _ _ _ _=>False
 | n+1=>fun vs H Q _=>∃ x y,vs=[x,y]∧SW H n x y∧∀ H',Same H H'->Q (.bl true) H'
def ZT:Sp:=fun vs H Q E=>qcw 4 vs H Q E∨qcw 3 vs H Q E∨qcw 2 vs H Q E∨qcw 1 vs H Q E
theorem zO {β:Type}{f:β->List V}{H H':Hp}{p:Addr}{zs:List V}{ps:List β} (h:TupL f H zs ps) (hp:PoolAt H p) (b:But p H H'):TupL f H' zs ps:=⟨h.1,fun i z q e1 e2=>by
 obtain⟨t,rfl,e⟩:=h.2 i z q e1 e2;obtain⟨_,_,_,e'⟩:=hp
 exact⟨t,rfl,b _ _ e (qO e e' (by intro z;cases z))⟩⟩
theorem Jl {ps:List (Int×Int)}{lo hi:Int} (h:Srt ps) (b:∀ x∈ps,x.2 < lo) (le:lo≤hi):Srt (ps++[(lo,hi)]):=by
 refine⟨List.pairwise_append.mpr ⟨h.1,List.pairwise_singleton _ _,fun x m y my=>?_⟩,fun x m=>?_⟩
 · rw[List.mem_singleton.mp my];exact b x m
 · rcases List.mem_append.mp m with m|m
   · exact h.2 x m
   · rw[List.mem_singleton.mp m];exact le
inductive Q6 (vs:List V) (H:Hp) (Q:VK):Prop
 | mk (p:Addr) (ht:Int) (h1:vs=[.ref p,.int ht]) (h2:PoolAt H p) (h3:∀ (q:Addr) (zs:List V) (ps:List (Int×Int)) (H':Hp),H q=none->But p H H'->PoolAt H' p->H' q=some (.lst zs)->TupL pr H' zs ps->Srt ps->ps≠[]->zs.length≤8->Q (.ref q) H'):Q6 vs H Q
def jb:Sp:=fun vs H Q _=>Q6 vs H Q
inductive ZA (vs:List V) (H:Hp) (Q:VK):Prop
 | mk (p q:Addr) (hs:List Int) (h1:vs=[.ref p,.ref q]) (h2:PoolAt H p) (h3:H q=some (.lst (hs.map V.int))) (h4:q≠p) (h5:0 < hs.length) (h6:hs.length≤60) (h7:∀ (t:Addr) (b:B3) (H':Hp),But p H H'->PoolAt H' p->H' t=some (.tup (tr b))->b.1 < hs.length->b.2.1 < hs.length->hs.getD b.2.1 0+b.2.2≤hs.getD b.1 0->Q (.ref t) H'):ZA vs H Q
def j3:Sp:=fun vs H Q _=>ZA vs H Q
inductive jc (vs:List V) (H:Hp) (Q:VK):Prop
 | mk (p q:Addr) (zs:List V) (ps:List (Int×Int)) (h1:vs=[.ref p,.ref q]) (h2:PoolAt H p) (h3:H q=some (.lst zs)) (h4:q≠p) (h5:TupL pr H zs ps) (h6:Srt ps) (h7:ps≠[]) (h8:zs.length≤60) (h9:∀ (n:Int) (H':Hp),But p H H'->PoolAt H' p->Mem ps n->Q (.int n) H'):jc vs H Q
def JZ:Sp:=fun vs H Q _=>jc vs H Q
inductive Q7 (vs:List V) (H:Hp) (Q:VK):Prop
 | mk (lw b:Addr) (lows:List Int) (bs:List V) (bds:List B3) (h1:vs=[.ref lw,.ref b]) (h2:H lw=some (.lst (lows.map V.int))) (h3:H b=some (.lst bs)) (h4:TupL tr H bs bds) (h5:Fx bds lows.length) (h6:(∀ b∈bds,lows.getD b.2.1 0+b.2.2≤lows.getD b.1 0)) (h7:Q (.bl true) H):Q7 vs H Q
def jd:Sp:=fun vs H Q _=>Q7 vs H Q
inductive QH (vs:List V) (H:Hp) (Q:VK):Prop
 | mk (sq b:Addr) (st:List Nat) (bs:List V) (h1:vs=[.ref sq,.ref b]) (h2:H sq=some (.lst (nL st))) (h3:H b=some (.lst bs)) (h4:(∀ k∈st,k < bs.length)) (h5:Q (.bl true) H):QH vs H Q
def Zz:Sp:=fun vs H Q _=>QH vs H Q
inductive QG (vs:List V) (H:Hp) (Q:VK):Prop
 | mk (tp s b l lw sq:Addr) (qs:List Addr) (zss:List (List V)) (pss:Sps) (bs:List V) (bds:List B3) (l0 lows:List Int) (st:List Nat) (past:Option Nat) (h1:vs=[.ref tp,.ref s,.ref b,.ref l]) (h2:H tp=some (.tup [.ref lw,.ref sq,oN past])) (h3:H lw=some (.lst (lows.map V.int))) (h4:H sq=some (.lst (nL st))) (h5:LL H s qs zss) (h6:zss.length=pss.length) (h7:(∀ (i:Nat) zs ps,zss[i]?=some zs->pss[i]?=some ps->TupL pr H zs ps)) (h8:(∀ ps∈pss,Srt ps)) (h9:H b=some (.lst bs)) (h10:TupL tr H bs bds) (h11:Fx bds pss.length) (h12:H l=some (.lst (l0.map V.int))) (h13:LI pss l0) (h14:pss.length≤60) (h15:LI pss lows) (h16:Gd pss bds l0 st) (h17:rst pss bds l0 st=(lows,past)) (h18:(past=none->∀ b∈bds,lows.getD b.2.1 0+b.2.2≤lows.getD b.1 0)) (h19:∀ H',Same H H'->Q (.bl true) H'):QG vs H Q
def Qv:Sp:=fun vs H Q _=>QG vs H Q
section
variable {P:Program}{w:World}{K:Frag}{mg:Str->Option Value}{base:Heap}
theorem Z7 (c k:Int):0≤(c * 7919+k * 104729+12345) % 2147483647∧(c * 7919+k * 104729+12345) % 2147483647 < 2147483647:=⟨Int.emod_nonneg _ (by decide),Int.emod_lt_of_pos _ (by decide)⟩
theorem qbq {a:Ad} (T:Txt K mg a):FnOk P w K mg base CX0 1 a.f_f a.fd_f ["_law_script","_law_k"] (j0 K):=by
 refine T.d_f.F.ok sc_Lpool (fun vs H Q E h=>?_) (fun cdv A outer s H vs Q E hr h=>?_)
 · obtain⟨sa,ns,k,rfl,hS,k0,kk⟩:=h;rfl
 · obtain⟨sa,ns,k,rfl,hS,k0,kk⟩:=h;have hU:=hr.units
   refine⟨_,(qb (qo (i:=2) sc_Lpool.nd rfl (Or.inl rfl) qe)
     (qb (qU (qw qbo (qk qL (by rfl) T.n_len qF (qa (pv 0) qc)) qe (qE _))
       (qg (qo (i:=2) sc_Lpool.nd rfl (Or.inl rfl) (qk qbO (by rfl) T.n_abs qaS (qa (qp (r:=rIx K) qm (pv 0) (qy QN (pv 1) (qk qL (by rfl) T.n_len qF (qa (pv 0) qc))) (fun _ _=>rfl)) qc))))
       qC)
     (qb (qo (i:=3) sc_Lpool.nd rfl (Or.inl rfl) (qy QN (qy QY (qy QY (qy Qo (pv 2) qe) (qy Qo (pv 1) qe)) qe) qe))
     (qb (qo (i:=3) sc_Lpool.nd rfl (Or.inl rfl) (qy QN (qy Qo (pv 3) (pv 3)) qe))
     (qb (qU (PW.pt (QR (qw qd9 (pv 1) (qk qL (by rfl) T.n_len qF (qa (pv 0) qc)) (qE _)) (Ql (qw Jp (pv 2) (qy qah qe qe) (qE _)))))
       (qg (qo (i:=2) sc_Lpool.nd rfl (Or.inl rfl) qe))
       qC)
     (qg (qu (zV (qa (pv 2) (qa (pv 3) (qa (qy QN (qy QY (qy Qx (pv 3) qe) (qy Qo qe (pv 1))) qe) qc))))))))))),?_⟩
   try dsimp only [zG,Cx.nox]
   refine⟨_,rfl,_,_,rfl,.inl ⟨_,hS,rfl⟩,_,_,rfl,rfl,_,rfl,?_⟩;refine zM (fun h1=>?_) (fun h1=>?_)
   · obtain⟨v,hv,mv⟩:=jV (xs:=ns.map V.int) (i:=k % ((ns.map V.int).length:Int)) (Int.emod_nonneg _ (by omega)) (Int.emod_lt_of_pos _ (by omega))
     obtain⟨n,rfl⟩:∃ n,v=.int n:=by
       obtain⟨n,_,e⟩:=List.mem_map.mp mv;exact⟨n,e.symm⟩
     refine⟨_,rfl,_,rfl,_,rfl,_,_,rfl,.inl ⟨_,hS,rfl⟩,_,_,rfl,rfl,(by omega),.inl ⟨sa,_,_,_,rfl,rfl,hS,hv,n,rfl,?_⟩⟩;generalize (if n < 0 then -n else n)=c;refine⟨_,rfl,_,_,rfl,rfl,.inr ⟨by decide,by decide⟩,_,rfl,_,_,rfl,rfl,.inr ⟨by decide,by decide⟩,.inl ⟨_,_,rfl,rfl,.inl ⟨_,_,rfl,rfl,_,_,rfl,rfl,(by show (0:Int) < _;decide),?_⟩⟩⟩;refine⟨_,rfl,_,rfl,_,_,rfl,rfl,.inl ⟨by have:=Z7 c k;omega,by have:=Z7 c k;omega⟩,_,_,rfl,rfl,(by show (0:Int) < _;decide),?_⟩;have fin:∀ c f:Int,∀ p:Addr,H p=none->Q (.ref p) (upd H p (.lst [.int c,.int f,.int ((f / 7+31 * k) % 2147483629)])):=fun c f p fp=>kk p _ fp (Same.new _ fp) ⟨_,_,_,upd_same⟩;refine⟨_,rfl,_,rfl,_,_,rfl,.inl ⟨_,hS,rfl⟩,_,_,rfl,rfl,_,rfl,?_⟩;refine zM (fun h2=>qch ?_) (fun h2=>?_)
     · exact⟨_,rfl,_,rfl,_,rfl,_,_,rfl,rfl,⟨by decide,by decide⟩,_,rfl,_,_,rfl,rfl,.inl ⟨by decide,by decide⟩,.inl ⟨_,_,rfl,rfl,_,_,rfl,rfl,(by show (0:Int) < _;decide),qx (Nat.le_of_ble_eq_true rfl),fun p fp=>fin _ _ p fp⟩⟩
     · refine⟨_,rfl,_,_,rfl,rfl,⟨by decide,by decide,by decide⟩,_,_,rfl,rfl,_,rfl,?_⟩;refine zM (fun h3=>?_) (fun h3=>?_)
       · exact⟨_,rfl,_,rfl,_,rfl,_,_,rfl,rfl,⟨by decide,by decide⟩,_,rfl,_,_,rfl,rfl,.inl ⟨by decide,by decide⟩,.inl ⟨_,_,rfl,rfl,_,_,rfl,rfl,(by show (0:Int) < _;decide),qx (Nat.le_of_ble_eq_true rfl),fun p fp=>fin _ _ p fp⟩⟩
       · exact⟨_,rfl,_,rfl,_,rfl,_,_,rfl,rfl,⟨by decide,by decide⟩,_,rfl,_,_,rfl,rfl,.inl ⟨by decide,by decide⟩,.inl ⟨_,_,rfl,rfl,_,_,rfl,rfl,(by show (0:Int) < _;decide),qx (Nat.le_of_ble_eq_true rfl),fun p fp=>fin _ _ p fp⟩⟩
   ·
     refine⟨_,rfl,_,_,rfl,rfl,.inr ⟨by decide,by decide⟩,_,rfl,_,_,rfl,rfl,.inr ⟨by decide,by decide⟩,.inl ⟨_,_,rfl,rfl,.inl ⟨_,_,rfl,rfl,_,_,rfl,rfl,(by show (0:Int) < _;decide),?_⟩⟩⟩;refine⟨_,rfl,_,rfl,_,_,rfl,rfl,.inl ⟨by have:=Z7 0 k;omega,by have:=Z7 0 k;omega⟩,_,_,rfl,rfl,(by show (0:Int) < _;decide),?_⟩;have fin:∀ c f:Int,∀ p:Addr,H p=none->Q (.ref p) (upd H p (.lst [.int c,.int f,.int ((f / 7+31 * k) % 2147483629)])):=fun c f p fp=>kk p _ fp (Same.new _ fp) ⟨_,_,_,upd_same⟩;refine⟨_,rfl,_,rfl,_,_,rfl,.inl ⟨_,hS,rfl⟩,_,_,rfl,rfl,_,rfl,?_⟩;refine zM (fun h2=>qch ?_) (fun h2=>?_)
     · exact⟨_,rfl,_,rfl,_,rfl,_,_,rfl,rfl,⟨by decide,by decide⟩,_,rfl,_,_,rfl,rfl,.inl ⟨by decide,by decide⟩,.inl ⟨_,_,rfl,rfl,_,_,rfl,rfl,(by show (0:Int) < _;decide),qx (Nat.le_of_ble_eq_true rfl),fun p fp=>fin _ _ p fp⟩⟩
     · refine⟨_,rfl,_,_,rfl,rfl,⟨by decide,by decide,by decide⟩,_,_,rfl,rfl,_,rfl,?_⟩;refine zM (fun h3=>?_) (fun h3=>?_)
       · exact⟨_,rfl,_,rfl,_,rfl,_,_,rfl,rfl,⟨by decide,by decide⟩,_,rfl,_,_,rfl,rfl,.inl ⟨by decide,by decide⟩,.inl ⟨_,_,rfl,rfl,_,_,rfl,rfl,(by show (0:Int) < _;decide),qx (Nat.le_of_ble_eq_true rfl),fun p fp=>fin _ _ p fp⟩⟩
       · exact⟨_,rfl,_,rfl,_,rfl,_,_,rfl,rfl,⟨by decide,by decide⟩,_,rfl,_,_,rfl,rfl,.inl ⟨by decide,by decide⟩,.inl ⟨_,_,rfl,rfl,_,_,rfl,rfl,(by show (0:Int) < _;decide),qx (Nat.le_of_ble_eq_true rfl),fun p fp=>fin _ _ p fp⟩⟩
theorem QV {a:Ad} (T:Txt K mg a):FnOk P w K mg base CX0 1 a.f_a a.fd_a ["_law_pool_here","_law_m"] Qe:=by
 refine T.d_a.F.ok sc_Ltake (fun vs H Q E h=>?_) (fun cdv A outer s H vs Q E hr h=>?_)
 · obtain⟨p,m,rfl,⟨c,x,y,hp⟩,m0,m1,kk⟩:=h;rfl
 · obtain⟨p,m,rfl,⟨c,x,y,hp⟩,m0,m1,kk⟩:=h;have hU:=hr.units
   refine⟨_,(qb (qU (qw qbo (qp (r:=rIx K) qm (pv 0) qe (fun _ _=>rfl)) qe (qE _))
       (qb (qo (i:=2) sc_Ltake.nd rfl (Or.inl rfl) (qy QN (qp (r:=rIx K) qm (pv 0) qe (fun _ _=>rfl)) (pv 1)))
       (qb (Qm (qy Qx (qp (r:=rIx K) qm (pv 0) qe (fun _ _=>rfl)) (pv 1)) (Zb (pv 0) qe zm))
       (qg (qu (pv 2)))))
       qC)
     (qb (Qm (qy QN (qy QY (qy Qo (qp (r:=rIx K) qm (pv 0) qe (fun _ _=>rfl)) qe) qe) qe) (Zb (pv 0) qe zm))
     (qb (Qm (qy QN (qy QY (qy QY (qy Qo (qp (r:=rIx K) qm (pv 0) qe (fun _ _=>rfl)) qe) (qy Qx (qp (r:=rIx K) qm (pv 0) qe (fun _ _=>rfl)) qe)) qe) qe) (Zb (pv 0) qe zm))
     (qg (qu (qy QN (qy QY (qy Qx (qp (r:=rIx K) qm (pv 0) qe (fun _ _=>rfl)) qe) (qy Qx (qp (r:=rIx K) qm (pv 0) qe (fun _ _=>rfl)) qe)) (pv 1))))))),?_⟩
   try dsimp only [zG,Cx.nox]
   refine⟨_,rfl,.inl ⟨p,_,_,_,rfl,rfl,SqL.of hp,rfl,_,_,rfl,rfl,_,rfl,?_⟩⟩;refine zM (fun h1=>?_) (fun h1=>?_)
   · refine⟨_,rfl,.inl ⟨p,_,_,_,rfl,rfl,SqL.of hp,rfl,_,rfl,_,_,rfl,rfl,m0,?_⟩⟩;refine⟨_,rfl,.inl ⟨p,_,_,_,rfl,rfl,SqL.of hp,rfl,_,rfl,_,_,rfl,rfl,⟨m0,m1⟩,_,rfl,p,_,_,_,rfl,rfl,hp,rfl,_,rfl,?_⟩⟩;exact kk _ _ (Int.emod_nonneg _ (by omega)) (Int.emod_lt_of_pos _ m0) ((But.refl p H).put _) ⟨_,_,_,upd_same⟩
   · refine⟨_,rfl,.inl ⟨p,_,_,_,rfl,rfl,SqL.of hp,rfl,_,_,rfl,rfl,.inr ⟨by decide,by decide⟩,.inl ⟨_,_,rfl,rfl,_,_,rfl,rfl,(by show (0:Int) < _;decide),_,rfl,p,_,_,_,rfl,rfl,hp,rfl,?_⟩⟩⟩;have hp1:=@upd_same H p (.lst [.int c,.int ((x * 48271+11) % 2147483647),.int y]);refine⟨_,rfl,.inl ⟨p,_,_,_,rfl,rfl,SqL.of hp1,rfl,_,_,rfl,rfl,.inr ⟨by decide,by decide⟩,_,rfl,.inl ⟨p,_,_,_,rfl,rfl,SqL.of hp1,rfl,_,_,rfl,rfl,⟨by decide,by decide⟩,.inl ⟨_,_,rfl,rfl,.inl ⟨_,_,rfl,rfl,_,_,rfl,rfl,(by show (0:Int) < _;decide),_,rfl,p,_,_,_,rfl,rfl,hp1,rfl,?_⟩⟩⟩⟩⟩;have hp2:=@upd_same (upd H p (.lst [.int c,.int ((x * 48271+11) % 2147483647),.int y])) p (.lst [.int c,.int ((x * 48271+11) % 2147483647),.int ((y * 69621+((x * 48271+11) % 2147483647) / 5+7) % 2147483629)]);refine⟨_,rfl,.inl ⟨p,_,_,_,rfl,rfl,SqL.of hp2,rfl,_,_,rfl,rfl,⟨by decide,by decide⟩,_,rfl,.inl ⟨p,_,_,_,rfl,rfl,SqL.of hp2,rfl,_,_,rfl,rfl,⟨by decide,by decide⟩,.inl ⟨_,_,rfl,rfl,_,rfl,_,_,rfl,rfl,m0,?_⟩⟩⟩⟩;exact kk _ _ (Int.emod_nonneg _ (by omega)) (Int.emod_lt_of_pos _ m0) (((But.refl p H).put _).put _) ⟨_,_,_,upd_same⟩
theorem J2 {a:Ad} (T:Txt K mg a) (n:Nat) (G_b:FnOk P w K mg base CX0 n a.f_b a.fd_b ["_law_found","_law_due"] (qcw n)):FnOk P w K mg base CX0 (n+1) a.f_b a.fd_b ["_law_found","_law_due"] (qcw (n+1)):=by
 refine T.d_b.F.ok qa9 (fun vs H Q E h=>?_) (fun cdv A outer s H vs Q E hr h=>?_)
 · obtain⟨x,y,rfl,hv,kk⟩:=h;rfl
 · obtain⟨x,y,rfl,hv,kk⟩:=h;have hU:=hr.units;have h_b:Room n _:=hr
   refine⟨_,(qb (qU (zD (qk qbN (by rfl) T.n_isinstance qj (qa (pv 1) (qa (zU (qa (qR (v:=.ty "list") rfl T.n_list qB rfl) (qa (qR (v:=.ty "tuple") rfl T.n_tuple zp rfl) qc))) qc))))
       (qb (qU (PW.pt (QR (qw (uNe hU) (qk qP (by rfl) T.n_isinstance qj (qa (pv 1) (qa (qR (v:=.ty "list") rfl T.n_list qB rfl) qc))) (qk qP (by rfl) T.n_isinstance qj (qa (pv 0) (qa (qR (v:=.ty "list") rfl T.n_list qB rfl) qc))) (qE _)) (Ql (qw (uNe hU) (qk qP (by rfl) T.n_isinstance qj (qa (pv 1) (qa (qR (v:=.ty "tuple") rfl T.n_tuple zp rfl) qc))) (qk qP (by rfl) T.n_isinstance qj (qa (pv 0) (qa (qR (v:=.ty "tuple") rfl T.n_tuple zp rfl) qc))) (qE _)))))
         (qg (qu zX))
         qC)
       (qg (qu (qag (ZY (uEq hU) (qk qL (by rfl) T.n_len qF (qa (pv 0) qc)) (qk qL (by rfl) T.n_len qF (qa (pv 1) qc)) (qE _)) (Jb (qk (qaO rfl) (by rfl) T.n_all qaR (qa (Zc rfl (CompOk.def ["_law_one","_law_other"] [none,none]) (qdo rfl T.n_zip (qa (pv 0) (qa (pv 1) qc))) (fun _ _ _ _ _=>(show PG _ _ (qeI K 2 _) from (Za rfl (qK (qr (i:=0) (show List.Nodup (["_law_one","_law_other"]:List Str) by decide +kernel) rfl (Or.inl rfl)) (qK (qr (i:=1) (show List.Nodup (["_law_one","_law_other"]:List Str) by decide +kernel) rfl (Or.inl rfl)) zW))))) (fun _ _ _ _ _=>zn) (fun _ _ _ _ _=>(ql G_b h_b rfl T.d_b.m T.d_b.k T.d_b.b .nil qz (qa (pv 0) (qa (pv 1) qc))))) qc)))))))
       qC)
     (qb (qU (PW.pt (QR (qw (uNe hU) (qk qP (by rfl) T.n_isinstance qj (qa (pv 0) (qa (qR (v:=.ty "bool") rfl T.n_bool QB rfl) qc))) (qk qP (by rfl) T.n_isinstance qj (qa (pv 1) (qa (qR (v:=.ty "bool") rfl T.n_bool QB rfl) qc))) (qE _)) (Ql (qw (uNe hU) (qk qP (by rfl) T.n_isinstance qj (qa (pv 0) (qa (qR (v:=.ty "int") rfl T.n_int Zn rfl) qc))) (qk qP (by rfl) T.n_isinstance qj (qa (pv 1) (qa (qR (v:=.ty "int") rfl T.n_int Zn rfl) qc))) (qE _)))))
       (qg (qu zX))
       qC)
     (qg (qu (qag (ZY (uEq hU) (qk qP (by rfl) T.n_isinstance qj (qa (pv 0) (qa (qR (v:=.ty "str") rfl T.n_str jt rfl) qc))) (qk qP (by rfl) T.n_isinstance qj (qa (pv 1) (qa (qR (v:=.ty "str") rfl T.n_str jt rfl) qc))) (qE _)) (Jb (ZY (uEq hU) (pv 0) (pv 1) (qE _)))))))),?_⟩
   try dsimp only [zG,Cx.nox]
   have hv2:SV H 0 x y∨∃ m,n=m+1∧∃ (t:Bool) (a b:Addr) (xs ys:List V),x=.ref a∧y=.ref b∧H a=some (ho t xs)∧H b=some (ho t ys)∧xs.length=ys.length∧xs.length≤1000∧∀ (i:Nat) u v,xs[i]?=some u->ys[i]?=some v->SW H m u v:=by
     cases n with
     | zero=>exact .inl hv
     | succ m=>exact Or.imp id (fun h=>⟨m,rfl,h⟩) hv
   clear hv;rcases hv2 with hv|⟨m,rfl,t,b,c,xs,ys,rfl,rfl,hb,hc,hlen,hle,hk⟩
   ·
     have tyx:∃ t,tyN H x=some t∧tyN H y=some t∧jo t ["list","tuple"]=false∧qd4 x y=true∧x=y:=by
       rcases hv with ⟨i,rfl,rfl⟩|⟨rfl,rfl⟩
       · exact⟨_,rfl,rfl,rfl,rfl,rfl⟩
       · exact⟨_,rfl,rfl,rfl,rfl,rfl⟩
     obtain⟨t,hx,hy,hn,hs,he⟩:=tyx;refine⟨_,rfl,qx (Nat.le_of_ble_eq_true rfl),fun tp ftp=>⟨_,tp,["list","tuple"],_,rfl,upd_same,by decide,QU (Same.new _ ftp) hy,_,rfl,Qq hn ?_⟩⟩;have hx':=QU (Same.new (.tup [.ty "list",.ty "tuple"]) ftp) hx;have hy':=QU (Same.new (.tup [.ty "list",.ty "tuple"]) ftp) hy;refine⟨_,rfl,_,_,_,rfl,(by decide),hx',_,rfl,_,_,_,rfl,(by decide),hy',.inl ⟨rfl,_,rfl,jS (fun g=>absurd rfl g) (fun _=>?_)⟩⟩;refine⟨_,rfl,_,_,_,rfl,(by decide),hx',_,rfl,_,_,_,rfl,(by decide),hy',.inl ⟨rfl,_,rfl,jS (fun g=>absurd rfl g) (fun _=>?_)⟩⟩;refine⟨_,rfl,_,_,_,rfl,(by decide),hx',_,rfl,_,_,_,rfl,(by decide),hy',.inl ⟨rfl,_,rfl,zM (fun _=>?_) (fun g=>absurd rfl g)⟩⟩;refine⟨_,rfl,_,rfl,.inl ⟨hs,?_⟩⟩;rw[decide_eq_true he];exact kk _ (Same.new _ ftp)
   ·
     refine⟨_,rfl,qx (Nat.le_of_ble_eq_true rfl),fun tp ftp=>⟨_,tp,["list","tuple"],_,rfl,upd_same,by decide,QU (Same.new _ ftp) (tyK hc),_,rfl,qcO (by cases t<;>rfl) ?_⟩⟩;have S1:=Same.new (.tup [.ty "list",.ty "tuple"]) ftp;have hb1:=S1 _ _ hb;have hc1:=S1 _ _ hc;refine⟨_,rfl,_,_,_,rfl,(by decide),tyK hc1,_,rfl,_,_,_,rfl,(by decide),tyK hb1,.inl ⟨rfl,_,rfl,jS (fun g=>absurd rfl g) (fun _=>?_)⟩⟩;refine⟨_,rfl,_,_,_,rfl,(by decide),tyK hc1,_,rfl,_,_,_,rfl,(by decide),tyK hb1,.inl ⟨rfl,_,rfl,jS (fun g=>absurd rfl g) (fun _=>?_)⟩⟩;refine⟨_,rfl,_,_,rfl,qea hb1,_,rfl,_,_,rfl,qea hc1,.inl ⟨rfl,_,rfl,zM (fun _=>?_) (fun g=>absurd (by rw[hlen]) g)⟩⟩;generalize upd H tp (.tup [.ty "list",.ty "tuple"])=H1 at S1 hb1 hc1 ⊢;refine⟨_,rfl,_,rfl,t,b,c,rfl,⟨_,SqK.of hb1⟩,⟨_,SqK.of hc1⟩,fun D fD=>?_⟩;refine qbJ (K:=K) (t:=t) (a:=b) (b:=c) (xs:=xs) (ys:=ys) (D:=D) (fun i σ H2=>∃ (s0 s1:Option V) (bs:List Bool),σ=[s0,s1]∧Same H1 H2∧H2 D=some (.lst (bs.map V.bl))∧bs.all id=true∧bs.length=i) hlen ⟨none,none,[],rfl,Same.new _ fD,upd_same,rfl,rfl⟩ (fun i σ H2 _ ⟨_,_,_,_,S,_⟩=>⟨SqK.of (S _ _ hb1),SqK.of (S _ _ hc1)⟩) ?_ ?_
     · rintro i u v σ H2 p hu' hv' ⟨s0,s1,bs,rfl,S,hD,ha,hl⟩ hn;have S3:Same H1 (upd H2 p (.tup [u,v])):=S.then _ hn
       have suv:=SW.same S3 (SW.same S1 (hk i u v hu' hv'));refine⟨p,[u,v],rfl,SqT.of upd_same,rfl,_,_,rfl,_,_,rfl,rfl,?_⟩;refine⟨_,rfl,_,rfl,u,v,rfl,suv,fun H4 S4=>?_⟩;have hD4:=S4 _ _ (Same.new (.tup [u,v]) hn _ _ hD);refine⟨_,hD4,?_,_,_,bs++[true],rfl,(S3.trans S4).put fD _,by rw[upd_same,List.map_append];rfl,by rw[List.all_append,ha];rfl,by rw[List.length_append,hl];rfl⟩;rw[List.length_map,hl];exact qD (by have:=(List.getElem?_eq_some_iff.mp hu').1;omega)
     · rintro σ H2 ⟨s0,s1,bs,rfl,S,hD,ha,hl⟩;refine⟨D,bs,rfl,SqL.of hD,?_⟩;rw[ha];exact kk _ (S1.trans S)
theorem Qg {a:Ad} (T:Txt K mg a):∀ n,FnOk P w K mg base CX0 n a.f_b a.fd_b ["_law_found","_law_due"] (qcw n)
 | 0=>⟨fun _ _ _ _ h=>h.elim,fun _ _ _ _ _ _ _ _ _ _ _ _ _ h=>h.elim⟩
 | n+1=>J2 T n (Qg T n)
theorem Jd {a:Ad} (T:Txt K mg a):FnOk P w K mg base CX0 4 a.f_b a.fd_b ["_law_found","_law_due"] ZT:=by
 have F4:=Qg (P:=P) (w:=w) (base:=base) T 4;have F3:=(Qg (P:=P) (w:=w) (base:=base) T 3).mono (show 3≤4 by decide);have F2:=(Qg (P:=P) (w:=w) (base:=base) T 2).mono (show 2≤4 by decide);have F1:=(Qg (P:=P) (w:=w) (base:=base) T 1).mono (show 1≤4 by decide);exact⟨fun vs H Q E h=>h.elim (F4.len vs H Q E) fun h=>h.elim (F3.len vs H Q E) fun h=>h.elim (F2.len vs H Q E) (F1.len vs H Q E),fun A outer s H args us vs Q E r e b v h=>h.elim (F4.run A outer s H args us vs Q E r e b v) fun h=>h.elim (F3.run A outer s H args us vs Q E r e b v) fun h=>h.elim (F2.run A outer s H args us vs Q E r e b v) (F1.run A outer s H args us vs Q E r e b v)⟩
theorem qal {a:Ad} (T:Txt K mg a):FnOk P w K mg base CX0 2 a.f_r a.fd_r ["_law_pool_here","_law_height"] jb:=by
 have G_a:=QV (P:=P) (w:=w) (base:=base) T;refine T.d_r.F.ok sc_Lspans (fun vs H Q E h=>?_) (fun cdv A outer s H vs Q E hr h=>?_)
 · obtain⟨p,ht,rfl,hp,kk⟩:=h;rfl
 · obtain⟨p,ht,rfl,hp,kk⟩:=h;have hU:=hr.units;have h_a:Room (1) _:=hr.mono (by decide)
   refine⟨_,(qb (qo (i:=2) sc_Lspans.nd rfl (Or.inl rfl) (qy ZF (pv 1) (ql G_a h_a rfl T.d_a.m T.d_a.k T.d_a.b .nil qz (qa (pv 0) (qa qe qc)))))
     (qb (qo (i:=3) sc_Lspans.nd rfl (Or.inl rfl) (zV qc))
     (qb (zT PassesOwn.never rfl (zk rfl T.n_range (qa (qp (r:=rIx K) qm (zV (qa qe (qa qe (qa qe (qa qe (qa qe (qa qe (qa qe (qa qe qc))))))))) (ql G_a h_a rfl T.d_a.m T.d_a.k T.d_a.b .nil qz (qa (pv 0) (qa qe qc))) (fun _ _=>rfl)) qc)) (qr (i:=4) (sc_Lspans.nd) rfl (Or.inl rfl))
       (qb (qo (i:=5) sc_Lspans.nd rfl (Or.inl rfl) (qy QY (pv 2) (qy Qo (ql G_a h_a rfl T.d_a.m T.d_a.k T.d_a.b .nil qz (qa (pv 0) (qa qe qc))) (ql G_a h_a rfl T.d_a.m T.d_a.k T.d_a.b .nil qz (qa (pv 0) (qa qe qc))))))
       (qb (zo (jM PySem.F.plainAttrs_list PySem.F.slot_list_append PySem.F.type_list_append qS (pv 3) (qa (zU (qa (pv 2) (qa (pv 5) qc))) qc)))
       (qg (qo (i:=2) sc_Lspans.nd rfl (Or.inl rfl) (qy QY (qy QY (pv 5) qe) (ql G_a h_a rfl T.d_a.m T.d_a.k T.d_a.b .nil qz (qa (pv 0) (qa qe qc)))))))))
     (qb (qU (qw (uEq hU) (ql G_a h_a rfl T.d_a.m T.d_a.k T.d_a.b .nil qz (qa (pv 0) (qa qe qc))) qe (qE _))
       (qg (zo (jM PySem.F.plainAttrs_list PySem.F.slot_list_append PySem.F.type_list_append qS (pv 3) (qa (zU (qa (pv 2) (qa (qy QY (pv 2) (qy qah qe qe)) qc))) qc))))
       qC)
     (qg (qu (pv 3))))))),?_⟩
   try dsimp only [zG,Cx.nox]
   refine⟨_,rfl,_,rfl,p,_,rfl,hp,by decide,by decide,fun e G2 e0 e1 bG2 pG2=>⟨_,_,rfl,rfl,?_⟩⟩;have t2:=bG2;generalize ht - e=lo0;refine⟨qx (Nat.le_of_ble_eq_true rfl),fun q fq=>?_⟩;have nq:q≠p:=pG2.ne fq;have hqH:H q=none:=t2.none fq nq;refine⟨qx (Nat.le_of_ble_eq_true rfl),fun l2 fl2=>?_⟩;have nl2:l2≠p:=(pG2.upd nq _).ne fl2;refine⟨_,rfl,p,_,rfl,(pG2.upd nq _).upd nl2 _,by decide,by decide,fun g G3 g0 g1 bG3 pG3=>?_⟩;refine qdj 1 7 (bG3 _ _ upd_same nl2) g0 g1 rfl (fun n n0 n1=>?_);have t3:But p H G3:=((t2.new _ fq).new _ fl2).trans bG3;have hq3:G3 q=some (.lst []):=bG3 _ _ ((qf (ZP fl2).1.symm).trans upd_same) nq;refine⟨n,rfl,by omega,by omega,Zi (lo:=0) (fun i σ H2=>∃ (low:Int) (s4 s5:Option V) (zs:List V) (ps:List (Int×Int)),σ=[some (.ref p),some (.int ht),some (.int low),some (.ref q),s4,s5]∧But p H H2∧PoolAt H2 p∧H2 q=some (.lst zs)∧TupL pr H2 zs ps∧Srt ps∧(∀ x∈ps,x.2 < low)∧zs.length=i) ⟨_,none,none,[],[],rfl,t3,pG3,hq3,.nil,⟨List.Pairwise.nil,(fun x m=>nomatch m)⟩,(fun x m=>nomatch m),rfl⟩ ?_ ?_⟩
   · rintro i σ H2 hi ⟨low,s4,s5,zs,ps,rfl,t,hp2,hq,tz,sz,bz,lz⟩;refine⟨_,rfl,_,rfl,p,_,rfl,hp2,by decide,by decide,fun a1 G4 a10 a11 bG4 pG4=>?_⟩;have a12:a1 < 6:=a11;refine⟨_,rfl,p,_,rfl,pG4,by decide,by decide,fun a2 G5 a20 a21 bG5 pG5=>?_⟩;have a22:a2 < 3:=a21;refine⟨_,_,rfl,rfl,.inl ⟨by omega,by omega⟩,.inl ⟨_,_,rfl,rfl,?_⟩⟩;have am:0≤a1 * a2:=Int.mul_nonneg a10 a20;generalize a1 * a2=m at am;have hq5:G5 q=some (.lst zs):=bG5 _ _ (bG4 _ _ hq nq) nq;have tz5:TupL pr G5 zs ps:=zO (zO tz hp2 bG4) pG4 bG5;refine⟨_,rfl,.inl ⟨rfl,_,SqL.of hq5⟩,_,rfl,_,rfl,qx (Nat.le_of_ble_eq_true rfl),fun tt ft=>?_⟩;have nt:tt≠p:=pG5.ne ft;have hq6:=(qf (qd hq5 ft):(upd G5 tt (.tup [.int low,.int (low+m)])) q=_).trans hq5;refine⟨q,_,_,rfl,rfl,hq6,qD (by have:i < n.toNat:=hi;omega),?_⟩;have tz6:=((tz5.same (Same.new (.tup [.int low,.int (low+m)]) ft)).snoc (p:=(low,low+m)) upd_same).put (ys:=zs++[.ref tt]) hq6;have t6:=(((t.trans bG4).trans bG5).new (.tup [.int low,.int (low+m)]) ft).putN hqH (.lst (zs++[.ref tt]));have p6:=(pG5.upd nt (.tup [.int low,.int (low+m)])).upd nq (.lst (zs++[.ref tt]));refine⟨_,rfl,.inl ⟨_,_,rfl,rfl,_,rfl,p,_,rfl,p6,by decide,by decide,fun a3 G6 a30 a31 bG6 pG6=>.inl ⟨_,_,rfl,rfl,?_⟩⟩⟩;refine⟨_,_,_,zs++[.ref tt],ps++[(low,low+m)],rfl,t6.trans bG6,pG6,bG6 _ _ upd_same nq,zO tz6 p6 bG6,Jl sz bz (by omega),fun x mx=>?_,by rw[List.length_append,lz];rfl⟩;rcases List.mem_append.mp mx with mx|mx
     · have:=bz x mx
       omega
     · have ex:x=(low,low+m):=by simpa using mx
       rw[ex];show low+m < _;omega
   · rintro σ H2 ⟨low,s4,s5,zs,ps,rfl,t,hp2,hq,tz,sz,bz,lz⟩
     have pne:ps≠[]:=fun z=>by
       have:=tz.1
       rw[z,List.length_nil]at this;omega
     refine⟨_,rfl,p,_,rfl,hp2,by decide,by decide,fun b1 G7 b10 b11 bG7 pG7=>.inl ⟨rfl,_,rfl,zM (fun _=>?_) (fun _=>?_)⟩⟩
     · have hq7:=bG7 _ _ hq nq;have tz7:=zO tz hp2 bG7;refine⟨_,rfl,.inl ⟨rfl,_,SqL.of hq7⟩,_,rfl,_,rfl,_,_,rfl,rfl,⟨by decide,by decide,by decide⟩,.inl ⟨_,_,rfl,rfl,qx (Nat.le_of_ble_eq_true rfl),fun tt ft=>?_⟩⟩;have nt:tt≠p:=pG7.ne ft
       have fin:∀ (hi:Int) (R:VK),(∀ H',Q (.ref q) H'->R .non H')->low≤hi->qab (.ref q) [.ref tt] (upd G7 tt (.tup [.int low,.int hi])) R:=fun hi R hR le=>by
         have hq8:=(qf (qd hq7 ft):(upd G7 tt (.tup [.int low,.int hi])) q=_).trans hq7;refine⟨q,_,_,rfl,rfl,hq8,qD (by omega),?_⟩;have tz8:=((tz7.same (Same.new (.tup [.int low,.int hi]) ft)).snoc (p:=(low,hi)) upd_same).put (ys:=zs++[.ref tt]) hq8;exact hR _ (kk q _ _ _ hqH (((t.trans bG7).new _ ft).putN hqH _) ((pG7.upd nt _).upd nq _) upd_same tz8 (Jl sz bz le) (by simp) (by rw[List.length_append,lz];show _+1≤8;omega))
       exact fin _ _ (fun H' h=>⟨_,rfl,h⟩) (Int.le_add_of_nonneg_right (by decide))
     · exact⟨_,rfl,kk q zs ps G7 hqH (t.trans bG7) pG7 (bG7 _ _ hq nq) (zO tz hp2 bG7) sz pne (by omega)⟩
theorem qbr {a:Ad} (T:Txt K mg a):FnOk P w K mg base CX0 2 a.f_s a.fd_s ["_law_pool_here","_law_heights"] j3:=by
 have G_a:=QV (P:=P) (w:=w) (base:=base) T;refine T.d_s.F.ok sc_Lbond (fun vs H Q E h=>?_) (fun cdv A outer s H vs Q E hr h=>?_)
 · obtain⟨p,q,hs,rfl,hp,hq,nq,z0,z1,kk⟩:=h;rfl
 · obtain⟨p,q,hs,rfl,hp,hq,nq,z0,z1,kk⟩:=h;have h_a:Room (1) _:=hr.mono (by decide)
   refine⟨_,(qb (qo (i:=2) sc_Lbond.nd rfl (Or.inl rfl) (ql G_a h_a rfl T.d_a.m T.d_a.k T.d_a.b .nil qz (qa (pv 0) (qa (qk qL (by rfl) T.n_len qF (qa (pv 1) qc)) qc))))
     (qb (qo (i:=3) sc_Lbond.nd rfl (Or.inl rfl) (ql G_a h_a rfl T.d_a.m T.d_a.k T.d_a.b .nil qz (qa (pv 0) (qa (qk qL (by rfl) T.n_len qF (qa (pv 1) qc)) qc))))
     (qb (qo (i:=4) sc_Lbond.nd rfl (Or.inl rfl) (qy ZF (qp (r:=rIx K) qm (pv 1) (pv 2) (fun _ _=>rfl)) (qp (r:=rIx K) qm (pv 1) (pv 3) (fun _ _=>rfl))))
     (qg (qu (zU (qa (pv 2) (qa (pv 3) (qa (qy ZF (pv 4) (qy Qo (ql G_a h_a rfl T.d_a.m T.d_a.k T.d_a.b .nil qz (qa (pv 0) (qa qe qc))) (ql G_a h_a rfl T.d_a.m T.d_a.k T.d_a.b .nil qz (qa (pv 0) (qa qe qc))))) qc))))))))),?_⟩
   try dsimp only [zG,Cx.nox]
   have hl:(hs.map V.int).length=hs.length:=List.length_map _;refine⟨_,rfl,_,rfl,_,_,rfl,.inl ⟨_,SqL.of hq,rfl⟩,p,_,rfl,hp,by omega,by omega,fun d G1 d0 d1 bG1 pG1=>?_⟩;have hq1:=bG1 _ _ hq nq;refine⟨_,rfl,_,rfl,_,_,rfl,.inl ⟨_,SqL.of hq1,rfl⟩,p,_,rfl,pG1,by omega,by omega,fun e G2 e0 e1 bG2 pG2=>?_⟩;have hq2:=bG2 _ _ hq1 nq;rw[hl]at d1 e1;obtain⟨dn,rfl⟩:=Int.eq_ofNat_of_zero_le d0;obtain⟨en,rfl⟩:=Int.eq_ofNat_of_zero_le e0;have dl:dn < hs.length:=by omega
   have el:en < hs.length:=by omega
   have ad:atI (hs.map V.int) (dn:Int)=some (.int (hs.getD dn 0)):=qJ (by rw[List.getElem?_map,List.getElem?_eq_getElem dl,List.getD_eq_getElem?_getD,List.getElem?_eq_getElem dl];rfl);have ae:atI (hs.map V.int) (en:Int)=some (.int (hs.getD en 0)):=qJ (by rw[List.getElem?_map,List.getElem?_eq_getElem el,List.getD_eq_getElem?_getD,List.getElem?_eq_getElem el];rfl);refine⟨_,rfl,_,rfl,.inl ⟨q,_,_,_,rfl,rfl,SqL.of hq2,ad,_,rfl,_,rfl,.inl ⟨q,_,_,_,rfl,rfl,SqL.of hq2,ae,_,_,rfl,rfl,?_⟩⟩⟩;refine⟨_,rfl,_,rfl,_,rfl,_,rfl,p,_,rfl,pG2,by decide,by decide,fun g G3 g0 g1 bG3 pG3=>?_⟩;have g2:g < 5:=g1;refine⟨_,rfl,p,_,rfl,pG3,by decide,by decide,fun f G4 f0 f1 bG4 pG4=>?_⟩;have f2:f < 3:=f1;refine⟨_,_,rfl,rfl,.inl ⟨by omega,by omega⟩,_,_,rfl,rfl,qx (Nat.le_of_ble_eq_true rfl),fun t ft=>?_⟩;have gf:0≤g * f:=Int.mul_nonneg g0 f0;have nt:t≠p:=pG4.ne ft;refine kk t (dn,en,hs.getD dn 0 - hs.getD en 0 - g * f) _ ((((bG1.trans bG2).trans bG3).trans bG4).new _ ft) (pG4.upd nt _) upd_same dl el ?_;show hs.getD en 0+(hs.getD dn 0 - hs.getD en 0 - g * f)≤hs.getD dn 0;omega
theorem qcF {a:Ad} (T:Txt K mg a):FnOk P w K mg base CX0 2 a.f_t a.fd_t ["_law_pool_here","_law_spans_here"] JZ:=by
 have G_a:=QV (P:=P) (w:=w) (base:=base) T;refine T.d_t.F.ok sc_Llow (fun vs H Q E h=>?_) (fun cdv A outer s H vs Q E hr h=>?_)
 · obtain⟨p,q,zs,ps,rfl,hp,hq,nq,tz,sz,pne,l60,kk⟩:=h;rfl
 · obtain⟨p,q,zs,ps,rfl,hp,hq,nq,tz,sz,pne,l60,kk⟩:=h;have h_a:Room (1) _:=hr.mono (by decide)
   refine⟨_,(qb (Qm (qp (r:=rIx K) qm (pv 1) (ql G_a h_a rfl T.d_a.m T.d_a.k T.d_a.b .nil qz (qa (pv 0) (qa (qk qL (by rfl) T.n_len qF (qa (pv 1) qc)) qc))) (fun _ _=>rfl)) (Za rfl (qK (qr (i:=2) (sc_Llow.nd) rfl (Or.inl rfl)) (qK (qr (i:=3) (sc_Llow.nd) rfl (Or.inl rfl)) zW))))
     (qg (qu (qk (jr rfl) (by rfl) T.n_min ju (qa (pv 3) (qa (qy QY (pv 2) (ql G_a h_a rfl T.d_a.m T.d_a.k T.d_a.b .nil qz (qa (pv 0) (qa qe qc)))) qc)))))),?_⟩
   try dsimp only [zG,Cx.nox]
   have zl:0 < zs.length:=by rw[tz.1];exact List.length_pos_iff.mpr pne
   refine⟨_,rfl,_,rfl,_,rfl,_,_,rfl,.inl ⟨_,SqL.of hq,rfl⟩,p,_,rfl,hp,by omega,by omega,fun d G1 d0 d1 bG1 pG1=>?_⟩;have hq1:=bG1 _ _ hq nq;obtain⟨dn,rfl⟩:=Int.eq_ofNat_of_zero_le d0;have dl:dn < ps.length:=by rw[← tz.1];omega
   obtain⟨t,hz,ht⟩:=(zO tz hp bG1).at_ (List.getElem?_eq_getElem dl);have md:ps[dn]∈ps:=List.getElem_mem dl;generalize ps[dn]=x at md ht;refine .inl ⟨q,_,_,_,rfl,rfl,SqL.of hq1,qJ hz,t,_,rfl,SqT.of ht,rfl,_,_,rfl,_,_,rfl,rfl,?_⟩;refine⟨_,rfl,_,rfl,_,rfl,p,_,rfl,pG1,by decide,by decide,fun e G2 e0 e1 bG2 pG2=>.inl ⟨_,_,rfl,rfl,_,_,rfl,?_⟩⟩;have le:=sz.2 x md;refine kk _ _ (bG1.trans bG2) pG2 ⟨x,md,?_,?_⟩<;>split<;>omega
theorem qam {a:Ad} (T:Txt K mg a):FnOk P w K mg base CX0 1 a.f_u a.fd_u ["_law_lows","_law_bonds"] jd:=by
 refine T.d_u.F.ok sc_Lkeeps (fun vs H Q E h=>?_) (fun cdv A outer s H vs Q E hr h=>?_)
 · obtain⟨lw,b,lows,bs,bds,rfl,hlw,hb,tb,F,kp,kk⟩:=h;rfl
 · obtain⟨lw,b,lows,bs,bds,rfl,hlw,hb,tb,F,kp,kk⟩:=h;have hU:=hr.units
   refine⟨_,(qb (zT PassesOwn.never rfl (ze (pv 1)) (Za rfl (qK (qr (i:=2) (sc_Lkeeps.nd) rfl (Or.inl rfl)) (qK (qr (i:=3) (sc_Lkeeps.nd) rfl (Or.inl rfl)) (qK (qr (i:=4) (sc_Lkeeps.nd) rfl (Or.inl rfl)) zW))))
       (qg (qU (qw Jp (qp (r:=rIx K) qm (pv 0) (pv 2) (fun _ _=>rfl)) (qy QY (qp (r:=rIx K) qm (pv 0) (pv 3) (fun _ _=>rfl)) (pv 4)) (qE _))
         (qg (qu zX))
         qC)))
     (qg (qu zX))),?_⟩
   try dsimp only [zG,Cx.nox]
   refine⟨_,rfl,b,rfl,⟨_,SqL.of hb⟩,Qt (K:=K) (a:=b) (xs:=bs) (fun i σ H2=>∃ s2 s3 s4:Option V,σ=[some (.ref lw),some (.ref b),s2,s3,s4]∧H=H2) ⟨none,none,none,rfl,rfl⟩ (fun i σ H2 _ ⟨_,_,_,_,e⟩=>e▸SqL.of hb) ?_ ?_⟩
   · rintro i v σ H2 hv ⟨s2,s3,s4,rfl,rfl⟩;obtain⟨bo,t,hbo,rfl,ht⟩:=tb.of hv;have mb:=List.mem_of_getElem? hbo;have ok:=F bo mb;have le:=kp bo mb;have al:atI (lows.map V.int) (bo.1:Int)=some (.int (lows.getD bo.1 0)):=qJ (by rw[List.getElem?_map,List.getElem?_eq_getElem ok.1,List.getD_eq_getElem?_getD,List.getElem?_eq_getElem ok.1];rfl);have ae:atI (lows.map V.int) (bo.2.1:Int)=some (.int (lows.getD bo.2.1 0)):=qJ (by rw[List.getElem?_map,List.getElem?_eq_getElem ok.2,List.getD_eq_getElem?_getD,List.getElem?_eq_getElem ok.2];rfl);refine⟨t,_,rfl,SqT.of ht,rfl,_,_,rfl,_,_,rfl,_,_,rfl,rfl,?_⟩;refine⟨_,rfl,_,rfl,.inl ⟨lw,_,_,_,rfl,rfl,SqL.of hlw,al,_,rfl,_,rfl,.inl ⟨lw,_,_,_,rfl,rfl,SqL.of hlw,ae,_,rfl,.inl ⟨_,_,rfl,rfl,_,_,rfl,rfl,_,rfl,zM (fun g=>absurd g (by omega)) (fun _=>?_)⟩⟩⟩⟩;exact⟨_,_,_,rfl,rfl⟩
   · rintro σ H2 ⟨s2,s3,s4,rfl,rfl⟩;exact kk
theorem Jt {a:Ad} (T:Txt K mg a):FnOk P w K mg base CX0 1 a.f_v a.fd_v ["_law_steps","_law_bonds"] Zz:=by
 refine T.d_v.F.ok sc_Lis_row (fun vs H Q E h=>?_) (fun cdv A outer s H vs Q E hr h=>?_)
 · obtain⟨sq,b,st,bs,rfl,hsq,hb,ok,kk⟩:=h;rfl
 · obtain⟨sq,b,st,bs,rfl,hsq,hb,ok,kk⟩:=h;have hU:=hr.units
   refine⟨_,(qb (qU (zS (zD (qk qP (by rfl) T.n_isinstance qj (qa (pv 0) (qa (qR (v:=.ty "list") rfl T.n_list qB rfl) qc)))))
       (qg (qu zX))
       qC)
     (qb (zT PassesOwn.never rfl (ze (pv 0)) (qr (i:=2) (sc_Lis_row.nd) rfl (Or.inl rfl))
       (qg (qU (PW.pt (QR (zS (zD (qk qP (by rfl) T.n_isinstance qj (qa (pv 2) (qa (qR (v:=.ty "int") rfl T.n_int Zn rfl) qc))))) (QR (zD (qk qP (by rfl) T.n_isinstance qj (qa (pv 2) (qa (qR (v:=.ty "bool") rfl T.n_bool QB rfl) qc)))) (Ql (zS (qbg qbn Jp qe (pv 2) (qk qL (by rfl) T.n_len qF (qa (pv 1) qc))))))))
         (qg (qu zX))
         qC)))
     (qg (qu zX)))),?_⟩
   try dsimp only [zG,Cx.nox]
   refine⟨_,rfl,_,_,_,rfl,(by decide),(tyK (t:=false) hsq),_,rfl,Qq rfl ?_⟩;refine⟨_,rfl,sq,rfl,⟨_,SqL.of hsq⟩,Qt (K:=K) (a:=sq) (xs:=nL st) (fun i σ H2=>∃ s2:Option V,σ=[some (.ref sq),some (.ref b),s2]∧H=H2) ⟨none,rfl,rfl⟩ (fun i σ H2 _ ⟨_,_,e⟩=>e▸SqL.of hsq) ?_ ?_⟩
   · rintro i v σ H2 hv ⟨s2,rfl,rfl⟩;obtain⟨k,hk,rfl⟩:=zE hv;have lt:=ok k (List.mem_of_getElem? hk);refine⟨_,rfl,_,_,_,rfl,(by decide),rfl,_,rfl,Qq rfl ?_⟩;refine⟨_,rfl,_,_,_,rfl,(by decide),rfl,_,rfl,Qq rfl ?_⟩;refine⟨_,rfl,_,_,rfl,rfl,_,rfl,zM (fun _=>?_) (fun g=>absurd (show (0:Int)≤(k:Int) by omega) g)⟩;refine⟨_,rfl,_,_,rfl,.inl ⟨_,SqL.of hb,rfl⟩,_,_,rfl,rfl,_,rfl,jS (fun g=>absurd (show (k:Int) < (bs.length:Int) by omega) g) (fun _=>?_)⟩;exact⟨_,rfl,rfl⟩
   · rintro σ H2 ⟨s2,rfl,rfl⟩;exact kk
end
theorem jX {H:Hp}{a b:Addr}{ns:List Int} (h1:H a=some (.lst (ns.map V.int))) (h2:H b=some (.lst (ns.map V.int))) (hl:ns.length≤1000):SV H 1 (.ref a) (.ref b):=by
 refine⟨false,a,b,_,_,rfl,rfl,h1,h2,rfl,by rw[List.length_map];exact hl,fun i u v e1 e2=>?_⟩;rw[e1]at e2;cases e2;obtain⟨n,_,rfl⟩:=zE e1;exact .inl ⟨n,rfl,rfl⟩
theorem qer {H:Hp} (o:Option Nat):SV H 0 (oN o) (oN o):=by
 cases o with
 | none=>exact .inr ⟨rfl,rfl⟩
 | some k=>exact .inl ⟨_,rfl,rfl⟩
theorem qcy {pss:Sps}{bds:List B3}{s:List Int×Option Nat}{k:Nat}:(rp1 pss bds s k).1.length=s.1.length:=by
 unfold rp1;split
 · rfl
 · exact List.length_set
theorem qaU {ls:List Int}{i:Nat} (h:i < ls.length):atI (ls.map V.int) (i:Int)=some (.int (ls.getD i 0)):=qJ (by rw[List.getElem?_map,List.getElem?_eq_getElem h,List.getD_eq_getElem?_getD,List.getElem?_eq_getElem h];rfl)
section
variable {P:Program}{w:World}{K:Frag}{mg:Str->Option Value}{base:Heap}
theorem Js {a:Ad} (T:Txt K mg a):FnOk P w K mg base CX0 5 a.f_h a.fd_h ["_law_found","_law_spans_here","_law_bonds","_law_lows"] Qv:=by
 have G_q:=qan (P:=P) (w:=w) (base:=base) T;have G_u:=qam (P:=P) (w:=w) (base:=base) T;have G_v:=Jt (P:=P) (w:=w) (base:=base) T;have G_b:=Jd (P:=P) (w:=w) (base:=base) T;refine T.d_h.F.ok sc_Ljudged (fun vs H Q E h=>?_) (fun cdv A outer s H vs Q E hr h=>?_)
 · obtain⟨tp,s,b,l,lw,sq,qs,zss,pss,bs,bds,l0,lows,st,past,rfl,htp,hlw,hsq,L,zl,hps,hsrt,hb,tb,F,hl,li0,n60,li,gd,rs,kp,kk⟩:=h;rfl
 · obtain⟨tp,s,b,l,lw,sq,qs,zss,pss,bs,bds,l0,lows,st,past,rfl,htp,hlw,hsq,L,zl,hps,hsrt,hb,tb,F,hl,li0,n60,li,gd,rs,kp,kk⟩:=h;have hU:=hr.units;have h_q:Room (1) _:=hr.mono (by decide);have h_u:Room (1) _:=hr.mono (by decide);have h_v:Room (1) _:=hr.mono (by decide);have h_b:Room (4) _:=hr.mono (by decide)
   refine⟨_,(qb (qU (PW.pt (QR (zS (zD (qk qP (by rfl) T.n_isinstance qj (qa (pv 0) (qa (qR (v:=.ty "tuple") rfl T.n_tuple zp rfl) qc))))) (QR (qw (uNe hU) (qk qL (by rfl) T.n_len qF (qa (pv 0) qc)) qe (qE _)) (Ql (zS (zD (ql G_v h_v rfl T.d_v.m T.d_v.k T.d_v.b .nil qz (qa (qp (r:=rIx K) qm (pv 0) qe (fun _ _=>rfl)) (qa (pv 2) qc)))))))))
       (qg (qu zX))
       qC)
     (qb (qo (i:=3) sc_Ljudged.nd rfl (Or.inl rfl) (qN (r:=qbd K) qH (by rfl) T.n_list qB (qa (pv 3) qc)))
     (qb (qo (i:=4) sc_Ljudged.nd rfl (Or.inl rfl) zb)
     (qb (zT PassesOwn.never rfl (ze (qp (r:=rIx K) qm (pv 0) qe (fun _ _=>rfl))) (qr (i:=5) (sc_Ljudged.nd) rfl (Or.inl rfl))
       (qb (Qm (qp (r:=rIx K) qm (pv 2) (pv 5) (fun _ _=>rfl)) (Za rfl (qK (qr (i:=6) (sc_Ljudged.nd) rfl (Or.inl rfl)) (qK (qr (i:=7) (sc_Ljudged.nd) rfl (Or.inl rfl)) (qK (qr (i:=8) (sc_Ljudged.nd) rfl (Or.inl rfl)) zW)))))
       (qb (qU (PW.pt (QR (qw qai (pv 4) zb (qE _)) (Ql (qw qbn (qy QY (qp (r:=rIx K) qm (pv 3) (pv 7) (fun _ _=>rfl)) (pv 8)) (qp (r:=rIx K) qm (pv 3) (pv 6) (fun _ _=>rfl)) (qE _)))))
         (qg (qu zX))
         qC)
       (qb (qo (i:=9) sc_Ljudged.nd rfl (Or.inl rfl) (ql G_q h_q rfl T.d_q.m T.d_q.k T.d_q.b .nil qz (qa (qp (r:=rIx K) qm (pv 1) (pv 6) (fun _ _=>rfl)) (qa (qy QY (qp (r:=rIx K) qm (pv 3) (pv 7) (fun _ _=>rfl)) (pv 8)) qc))))
       (qg (qU (qw ZG (pv 9) zb (qE _))
         (qg (qo (i:=4) sc_Ljudged.nd rfl (Or.inl rfl) (pv 6)))
         (qg (Qm (pv 9) (Zb (pv 3) (pv 6) zm)))))))))
     (qb (qU (PW.pt (QR (zS (zD (ql G_b h_b rfl T.d_b.m T.d_b.k T.d_b.b .nil qz (qa (qp (r:=rIx K) qm (pv 0) qe (fun _ _=>rfl)) (qa (pv 3) qc))))) (Ql (zS (zD (ql G_b h_b rfl T.d_b.m T.d_b.k T.d_b.b .nil qz (qa (qp (r:=rIx K) qm (pv 0) qe (fun _ _=>rfl)) (qa (pv 4) qc))))))))
       (qg (qu zX))
       qC)
     (qg (qu (qd8 (ZY qai (pv 4) zb (qE _)) (Jb (ql G_u h_u rfl T.d_u.m T.d_u.k T.d_u.b .nil qz (qa (pv 3) (qa (pv 2) qc)))))))))))),?_⟩
   try dsimp only [zG,Cx.nox]
   have okst:∀ k∈st,k < bs.length:=fun k m=>by
     obtain⟨i,hi⟩:=List.getElem?_of_mem m;rw[tb.1];exact(gd i k hi).1
   refine⟨_,rfl,_,_,_,rfl,(by decide),(tyK (t:=true) htp),_,rfl,Qq rfl ?_⟩;refine⟨_,rfl,_,_,rfl,qea (t:=true) htp,.inl ⟨rfl,_,rfl,jS (fun g=>absurd rfl g) (fun _=>?_)⟩⟩;refine⟨_,rfl,.inr (.inl ⟨tp,_,_,_,rfl,rfl,SqT.of htp,rfl,_,rfl,sq,b,st,bs,rfl,hsq,hb,okst,_,rfl,Qq rfl ?_⟩)⟩;refine⟨_,rfl,l,_,rfl,.inl (SqL.of hl),fun l2 fl2=>?_⟩;have S1:=Same.new (.lst (l0.map V.int)) fl2;have h2:(upd H l2 (.lst (l0.map V.int))) l2=some (.lst (l0.map V.int)):=upd_same;generalize upd H l2 (.lst (l0.map V.int))=G1 at S1 h2 ⊢;unfold qa7;dsimp only;refine zC (t:=qdf _ _) (fun σ' H'=>σ'=[some (.ref tp),some (.ref s),some (.ref b),some (.ref l2),some .non,none,none,none,none,none]∧G1=H') (fun N hN=>hN _ _ ⟨rfl,rfl⟩) ?_;rintro _ _ ⟨rfl,rfl⟩;refine zC (t:=qdY _ _ _) (fun σ' H'=>∃ s5 s6 s7 s8 s9:Option V,σ'=[some (.ref tp),some (.ref s),some (.ref b),some (.ref l2),some (oN past),s5,s6,s7,s8,s9]∧Same H H'∧H' l2=some (.lst (lows.map V.int))) (fun N hN=>?_) ?_
   · refine⟨_,rfl,.inr (.inl ⟨tp,_,_,_,rfl,rfl,SqT.of (S1 _ _ htp),rfl,sq,rfl,⟨_,SqL.of (S1 _ _ hsq)⟩,Qt (K:=K) (a:=sq) (xs:=nL st) (fun i σ H2=>∃ s5 s6 s7 s8 s9:Option V,σ=[some (.ref tp),some (.ref s),some (.ref b),some (.ref l2),some (oN (rst pss bds l0 (st.take i)).2),s5,s6,s7,s8,s9]∧Same H H2∧H2 l2=some (.lst ((rst pss bds l0 (st.take i)).1.map V.int))∧(rst pss bds l0 (st.take i)).1.length=pss.length) ⟨none,none,none,none,none,rfl,S1,h2,li0.1⟩ (fun i σ H2 _ ⟨_,_,_,_,_,_,S,_⟩=>SqL.of (S _ _ hsq)) ?_ ?_⟩)⟩
     · rintro i v σ H2 hv ⟨s5,s6,s7,s8,s9,rfl,S,hl2,len⟩;obtain⟨k,hk,rfl⟩:=zE hv;obtain⟨kl,pn,up⟩:=gd i k hk;have e1:rst pss bds l0 (st.take (i+1))=rp1 pss bds (rst pss bds l0 (st.take i)) k:=by rw[ZR hk,ZW]
       have len1:(rst pss bds l0 (st.take (i+1))).1.length=pss.length:=by rw[e1,qcy];exact len
       rw[e1];rw[e1]at len1;clear e1;generalize rst pss bds l0 (st.take i)=r at pn up len hl2 len1 ⊢;obtain⟨ls,pa⟩:=r;dsimp only at pn up len hl2 ⊢;subst pn;obtain⟨bo,hbo⟩:∃ bo,bds[k]?=some bo:=⟨_,List.getElem?_eq_getElem kl⟩
       have eb:bds.getD k (0,0,0)=bo:=by rw[List.getD_eq_getElem?_getD,hbo];rfl
       rw[eb]at up;have ok:=F bo (List.mem_of_getElem? hbo);obtain⟨t,hz,ht⟩:=tb.at_ hbo;have al:=qaU (ls:=ls) (i:=bo.1) (by rw[len];exact ok.1);have ae:=qaU (ls:=ls) (i:=bo.2.1) (by rw[len];exact ok.2);have hb2:=S _ _ hb;have ht2:=S _ _ ht;refine⟨_,rfl,_,rfl,.inl ⟨b,_,_,_,rfl,rfl,SqL.of hb2,qJ hz,t,_,rfl,SqT.of ht2,rfl,_,_,rfl,_,_,rfl,_,_,rfl,rfl,?_⟩⟩;refine⟨_,rfl,rfl,_,rfl,jS (fun g=>absurd rfl g) (fun _=>?_)⟩;refine⟨_,rfl,_,rfl,.inl ⟨l2,_,_,_,rfl,rfl,SqL.of hl2,ae,_,rfl,.inl ⟨_,_,rfl,rfl,_,rfl,_,rfl,.inl ⟨l2,_,_,_,rfl,rfl,SqL.of hl2,al,_,_,rfl,rfl,_,rfl,zM (fun g=>absurd g (by omega)) (fun _=>?_)⟩⟩⟩⟩;have iq:bo.1 < qs.length:=by rw[L.len,zl];exact ok.1
       have iz:bo.1 < zss.length:=by rw[zl];exact ok.1
       have hqs:qs[bo.1]?=some qs[bo.1]:=List.getElem?_eq_getElem iq;have hzs:zss[bo.1]?=some zss[bo.1]:=List.getElem?_eq_getElem iz;have hpz:pss[bo.1]?=some (pss.getD bo.1 []):=by rw[List.getD_eq_getElem?_getD,List.getElem?_eq_getElem ok.1];rfl
       refine⟨_,rfl,_,rfl,.inl ⟨s,_,_,_,rfl,rfl,SqL.of (S _ _ L.at_),qJ (by rw[List.getElem?_map,hqs];rfl),_,rfl,_,rfl,.inl ⟨l2,_,_,_,rfl,rfl,SqL.of hl2,ae,_,rfl,.inl ⟨_,_,rfl,rfl,qs[bo.1],_,_,pss.getD bo.1 [],rfl,S _ _ (L.each _ _ _ hqs hzs),(hps _ _ _ hzs hpz).same S,?_⟩⟩⟩⟩
       cases hf:ff (pss.getD bo.1 []) (ls.getD bo.2.1 0+bo.2.2) with
       | none =>
         rw[J9 hbo hf]at len1 ⊢;refine⟨_,rfl,rfl,_,rfl,zM (fun _=>?_) (fun g=>absurd rfl g)⟩;exact⟨_,rfl,_,_,_,_,_,rfl,S,hl2,len1⟩
       | some y =>
         rw[qbY hbo hf]at len1 ⊢;refine⟨_,rfl,rfl,_,rfl,zM (fun g=>nomatch g) (fun _=>?_)⟩;refine⟨_,rfl,_,rfl,_,rfl,l2,_,_,bo.1,rfl,rfl,hl2,(by rw[List.length_map];exact Z5 (by rw[len];exact ok.1)),?_⟩;exact⟨_,_,_,_,_,rfl,S.put fl2 _,upd_same.trans (by rw[List.map_set];rfl),len1⟩
     · rintro σ H2 ⟨s5,s6,s7,s8,s9,rfl,S,hl2,len⟩;have e:(nL st).length=st.length:=List.length_map _;rw[e,List.take_length,rs]at hl2 ⊢;exact hN _ _ ⟨_,_,_,_,_,rfl,S,hl2⟩
   rintro _ H2 ⟨s5,s6,s7,s8,s9,rfl,S,hl2⟩;have l1000:lows.length≤1000:=by rw[li.1];omega
   refine⟨_,rfl,.inr (.inl ⟨tp,_,_,_,rfl,rfl,SqT.of (S _ _ htp),rfl,_,rfl,.inr (.inr (.inl ⟨_,_,rfl,SV.w (jX (S _ _ hlw) hl2 l1000),fun G2 Sa=>⟨_,rfl,Qq rfl ?_⟩⟩))⟩)⟩;have S3:=S.trans Sa;refine⟨_,rfl,.inr (.inl ⟨tp,_,_,_,rfl,rfl,SqT.of (S3 _ _ htp),rfl,_,rfl,.inr (.inr (.inr ⟨_,_,rfl,SV.w (qer past),fun G3 Sb=>⟨_,rfl,Qq rfl ?_⟩⟩))⟩)⟩;have S4:=S3.trans Sb
   cases past with
   | some k=>exact⟨_,rfl,rfl,_,rfl,qcO rfl (kk _ S4)⟩
   | none =>
     refine⟨_,rfl,rfl,_,rfl,Qq rfl ?_⟩;exact⟨_,rfl,_,rfl,l2,b,lows,bs,bds,rfl,Sb _ _ (Sa _ _ hl2),S4 _ _ hb,tb.same S4,(by rw[li.1];exact F),kp rfl,kk _ S4⟩
end
theorem ZN {H:Hp}{zs:List V}{ps:List (Int×Int)} (h:TupL pr H zs ps):Tups H zs:=fun y m=>by
 obtain⟨i,hi,e⟩:=List.mem_iff_getElem.mp m;obtain⟨p,hp⟩:∃ p,ps[i]?=some p:=⟨_,List.getElem?_eq_getElem (by rw[← h.1];exact hi)⟩
 obtain⟨t,et,q⟩:=h.2 i y p (by rw[List.getElem?_eq_getElem hi,e]) hp;exact⟨t,[p.1,p.2],et,Nat.le_of_ble_eq_true rfl,q⟩
theorem jC {β:Type}{f:β->List V}{H:Hp}{p:Addr}{zs:List V}{ps:List β} (h:TupL f H zs ps) (hp:PoolAt H p):TupL f (cut H [p]) zs ps:=⟨h.1,fun i z q e1 e2=>by
 obtain⟨t,rfl,e⟩:=h.2 i z q e1 e2;obtain⟨_,_,_,e'⟩:=hp
 exact⟨t,rfl,(qY (by simpa using qO e e' (by intro z;cases z))).trans e⟩⟩
theorem jY {α β:Type}{R:α->β->Prop}{C:α->β->Prop}{A:Prop} (use:(∀ x y,C x y->R x y)->A) (rest:∀ x y,C x y->R x y):A:=use rest
structure Lw (a:Ad) (G:Hp) (s b:Addr) (qs:List Addr) (zss:List (List V)) (pss:Sps) (bs:List V) (bds:List B3) (hs:List Int):Prop where
 ls:LL G s qs zss
 zl:zss.length=pss.length
 ps:∀ (i:Nat) zs ps,zss[i]?=some zs->pss[i]?=some ps->TupL pr G zs ps
 srt:∀ ps∈pss,Srt ps∧ps≠[]
 few:pss.length≤8
 small:∀ zs∈zss,zs.length≤8
 hb:G b=some (.lst bs)
 tb:TupL tr G bs bds
 bl:bds.length≤62
 fx:Fx bds pss.length
 kp:∀ b∈bds,hs.getD b.2.1 0+b.2.2≤hs.getD b.1 0
theorem Lw.same {a:Ad}{G G':Hp}{s b:Addr}{qs:List Addr}{zss:List (List V)}{pss:Sps}{bs:List V}{bds:List B3}{hs:List Int} (h:Lw a G s b qs zss pss bs bds hs) (S:Same G G'):Lw a G' s b qs zss pss bs bds hs :=
 ⟨h.ls.same S,h.zl,fun i zs ps e1 e2=>(h.ps i zs ps e1 e2).same S,h.srt,h.few,h.small,S _ _ h.hb,h.tb.same S,h.bl,h.fx,h.kp⟩
def qa8 (K:Frag) (t:Addr):Sp:=fun vs H Q _=>∃ (sa:Addr) (ns:List Int),vs=[.ref sa]∧SqL K H sa (ns.map V.int)∧ns.length≤63∧qbP H t qce ("furthest"++".<locals>."++"<lambda>")∧∀ H',Q (.bl true) H'
theorem qco {H:Hp}{c t:Addr}{o:HO} (e:H c=some o) (n:c≠t):cut H [t] c=some o:=(qY (by simpa using n)).trans e
theorem qa0 {H:Hp}{t d:Addr}{ts:List Addr}{zss:List (List V)}{tt:Array Value} (L:LL H d ts zss) (ht:H t=some (.tbl tt)):LL (cut H [t]) d ts zss :=
 ⟨qco L.at_ (qO L.at_ ht (by intro z;cases z)),L.len,fun i q zs e1 e2=>qco (L.each i q zs e1 e2) (qO (L.each i q zs e1 e2) ht (by intro z;cases z)),L.out⟩
theorem jD {β:Type}{f:β->List V}{H:Hp}{t:Addr}{zs:List V}{ps:List β}{tt:Array Value} (h:TupL f H zs ps) (ht:H t=some (.tbl tt)):TupL f (cut H [t]) zs ps:=⟨h.1,fun i z p e1 e2=>by
 obtain⟨c,rfl,e⟩:=h.2 i z p e1 e2
 exact⟨c,rfl,qco e (qO e ht (by intro z;cases z))⟩⟩
theorem qc2 {a:Ad}{G:Hp}{s b t:Addr}{qs:List Addr}{zss:List (List V)}{pss:Sps}{bs:List V}{bds:List B3}{hs:List Int}{tt:Array Value} (h:Lw a G s b qs zss pss bs bds hs) (ht:G t=some (.tbl tt)):Lw a (cut G [t]) s b qs zss pss bs bds hs :=
 ⟨qa0 h.ls ht,h.zl,fun i zs ps e1 e2=>jD (h.ps i zs ps e1 e2) ht,h.srt,h.few,h.small,qco h.hb (qO h.hb ht (by intro z;cases z)),jD h.tb ht,h.bl,h.fx,h.kp⟩
theorem qc4 {a:Ad}{G:Hp}{x t:Addr}{zss:List (List V)}{bs:List V}{tt:Array Value} (h:Fr a G x zss bs) (ht:G t=some (.tbl tt)):Fr a (cut G [t]) x zss bs:=by
 obtain⟨k,kb,rs,⟨dx,f⟩,L,e⟩:=h;exact⟨k,kb,rs,⟨dx,qco f (qO f ht (by intro z;cases z))⟩,qa0 L ht,qco e (qO e ht (by intro z;cases z))⟩
theorem Lw.big {a:Ad}{G:Hp}{s b:Addr}{qs:List Addr}{zss:List (List V)}{pss:Sps}{bs:List V}{bds:List B3}{hs:List Int} (h:Lw a G s b qs zss pss bs bds hs) (l:List Int):bds.length * mu pss l []+bds.length < sizeLine:=by
 have h8:∀ ps∈pss,ps.length≤8:=fun ps m=>by
   obtain⟨i,hi⟩:=List.getElem?_of_mem m
   have:i < zss.length:=by rw[h.zl];exact(List.getElem?_eq_some_iff.mp hi).1
   rw[← (h.ps i _ ps (List.getElem?_eq_getElem this) hi).1];exact h.small _ (List.getElem_mem this)
 have h1:=qca (lows:=l) h8
 have h2:mu pss l []≤9 * 64+8:=by
   unfold mu
   have:=h.few
   have h3:pss.length * 8≤64:=by omega
   have h4:(pss.length+1) * pot pss l≤9 * 64:=Nat.mul_le_mul (by omega) (Nat.le_trans h1 h3);rw[List.length_nil];omega
 have h5:bds.length * mu pss l []≤62 * (9 * 64+8):=Nat.mul_le_mul h.bl h2
 have:=h.bl
 exact Nat.lt_of_le_of_lt (show _≤40000 by omega) (by decide)
theorem qcK {H:Hp}{x y:Addr}{ns:List Int}{Q:VK} (h1:H x=some (.lst (ns.map V.int))) (h2:H y=some (.lst (ns.map V.int))) (q:Q (.bl false) H):qez (.ref x) (.ref y) H Q:=by
 obtain⟨l1,l2⟩:=Jf ns;have cl:PyData.canLay0 (.list (ns.map PyData.int))=true:=by simp only[PyData.canLay0,l1]
 have sh:SeqAt.shaped (.list (ns.map PyData.int))=true:=by
   unfold SeqAt.shaped;rw[cl,Bool.true_and];refine decide_eq_true ?_;simp only[PyData.depth];omega
 refine .inr ⟨_,_,.lst (.inl h1) (jT ns),.lst (.inl h2) (jT ns),sh,sh,?_⟩;rw[SeqAt.eqv_refl _ cl];exact q
theorem Gd.none {pss:Sps}{bds:List B3}{l:List Int}{st:List Nat} (h:Gd pss bds l st) (k:∀ b∈bds,l.getD b.2.1 0+b.2.2≤l.getD b.1 0):st=[]:=by
 cases st with
 | nil=>rfl
 | cons j r =>
   obtain⟨h1,_,h3⟩:=h 0 j rfl;have mb:bds.getD j (0,0,0)∈bds:=by rw[List.getD_eq_getElem?_getD,List.getElem?_eq_getElem h1];exact List.getElem_mem h1
   have:=k _ mb
   have e:rst pss bds l ((j::r).take 0)=(l,Option.none):=rfl;rw[e]at h3;dsimp only at h3;exact absurd h3 (by omega)
theorem qcZ {H:Hp}{x y p q r s:Addr}{ns:List Int} (hx:H x=some (.tup [.ref p,.ref q,.non])) (hy:H y=some (.tup [.ref r,.ref s,.non])) (h1:H p=some (.lst (ns.map V.int))) (h2:H r=some (.lst (ns.map V.int))) (h3:H q=some (.lst [])) (h4:H s=some (.lst [])) (hl:ns.length≤1000):SW H 2 (.ref x) (.ref y):=by
 refine .inr ⟨true,x,y,_,_,rfl,rfl,hx,hy,rfl,Nat.le_of_ble_eq_true rfl,fun i u v e1 e2=>?_⟩
 match i,e1,e2 with
 | 0,e1,e2=>cases e1;cases e2;exact SV.w (jX h1 h2 hl)
 | 1,e1,e2=>cases e1;cases e2;exact SV.w (jX (ns:=[]) h3 h4 (by decide))
 | 2,e1,e2=>cases e1;cases e2;exact .inl (.inr ⟨rfl,rfl⟩)
 | j+3,e1,e2=>simp at e1
theorem JI {H:Hp}{zs:List V}{ps:List B3} (h:TupL tr H zs ps):Tups H zs:=fun y m=>by
 obtain⟨i,hi,e⟩:=List.mem_iff_getElem.mp m;obtain⟨p,hp⟩:∃ p,ps[i]?=some p:=⟨_,List.getElem?_eq_getElem (by rw[← h.1];exact hi)⟩
 obtain⟨t,et,q⟩:=h.2 i y p (by rw[List.getElem?_eq_getElem hi,e]) hp;exact⟨t,[(p.1:Int),(p.2.1:Int),p.2.2],et,Nat.le_of_ble_eq_true rfl,q⟩
theorem Lw.tups {a:Ad}{G:Hp}{s b:Addr}{qs:List Addr}{zss:List (List V)}{pss:Sps}{bs:List V}{bds:List B3}{hs:List Int} (h:Lw a G s b qs zss pss bs bds hs):∀ zs∈zss,Tups G zs∧zs.length≤12:=fun zs m=>by
 obtain⟨i,hi⟩:=List.getElem?_of_mem m
 have:i < pss.length:=by rw[← h.zl];exact(List.getElem?_eq_some_iff.mp hi).1
 exact⟨ZN (h.ps i zs _ hi (List.getElem?_eq_getElem this)),Nat.le_trans (h.small zs m) (by decide)⟩
def Ls (pss:Sps) (ls:List Int) (i:Nat):Prop:=ls.length=i∧∀ j,j < i->Mem (pss.getD j []) (ls.getD j 0)
theorem Ls.snoc {pss:Sps}{ls:List Int}{i:Nat}{n:Int} (h:Ls pss ls i) (m:Mem (pss.getD i []) n):Ls pss (ls++[n]) (i+1):=by
 refine⟨by rw[List.length_append,h.1];rfl,fun j hj=>?_⟩;rw[List.getD_eq_getElem?_getD (l:=ls++[n]),List.getElem?_append];by_cases z:j < i
 · rw[if_pos (by rw[h.1];exact z),← List.getD_eq_getElem?_getD];exact h.2 j z
 · have:j=i:=by omega
   subst this;rw[if_neg (by rw[h.1];omega),h.1,Nat.sub_self];exact m
section
variable {P:Program}{w:World}{K:Frag}{mg:Str->Option Value}{base:Heap}
theorem qdu {a:Ad} (T:Txt K mg a) (hB:JK mg base):FnOk P w K mg base CX0 8 a.f_z a.fd_z ["_law_script"] (qa8 K a.t_furthest):=by
 have G_f:=qbq (P:=P) (w:=w) (base:=base) T;have G_a:=QV (P:=P) (w:=w) (base:=base) T;have G_y:=Z3 (P:=P) (w:=w) (base:=base) T;have G_e:FnOk P w K mg base CX0 7 a.f_e a.fd_e ["frame","lows"] (Q0 a):=qak T hB;have G_r:=qal (P:=P) (w:=w) (base:=base) T;have G_h:=Js (P:=P) (w:=w) (base:=base) T;have G_b:=Jd (P:=P) (w:=w) (base:=base) T;have G_t:=qcF (P:=P) (w:=w) (base:=base) T;have G_c:=zf (P:=P) (w:=w) (base:=base) T;have G_d:=zg (P:=P) (w:=w) (base:=base) T;have G_s:=qbr (P:=P) (w:=w) (base:=base) T;refine T.d_z.F.ok sc_law (fun vs H Q E h=>?_) (fun cdv A outer s H vs Q E hr h=>?_)
 · obtain⟨sa,ns,rfl,hS,hlen,tbf,kk⟩:=h;rfl
 · obtain⟨sa,ns,rfl,hS,hlen,tbf,kk⟩:=h;have hU:=hr.units;have h_f:Room (1) _:=hr.mono (by decide);have h_a:Room (1) _:=hr.mono (by decide);have h_y:Room (2+1) _:=hr.mono (by decide);have h_e:Room (7) _:=hr.mono (by decide);have h_r:Room (2) _:=hr.mono (by decide);have h_h:Room (5) _:=hr.mono (by decide);have h_b:Room (4) _:=hr.mono (by decide);have h_t:Room (2) _:=hr.mono (by decide);have h_c:Room (2) _:=hr.mono (by decide);have h_d:Room (1) _:=hr.mono (by decide);have h_s:Room (2) _:=hr.mono (by decide)
   refine⟨_,(qb (qo (i:=1) sc_law.nd rfl (Or.inr rfl) (ql G_f h_f rfl T.d_f.m T.d_f.k T.d_f.b .nil qz (qa (pv 0) (qa qe qc))))
     (qb (qo (i:=2) sc_law.nd rfl (Or.inr rfl) (qp (r:=rIx K) qm (zV (qa qe (qa qe (qa qe (qa (qy qah qe qe) qc))))) (ql G_a h_a rfl T.d_a.m T.d_a.k T.d_a.b .nil qz (qa (pv 1) (qa qe qc))) (fun _ _=>rfl)))
     (qb (qo (i:=3) sc_law.nd rfl (Or.inl rfl) (ql G_a h_a rfl T.d_a.m T.d_a.k T.d_a.b .nil qz (qa (pv 1) (qa qe qc))))
     (qb (qo (i:=4) sc_law.nd rfl (Or.inr rfl) (Zc rfl (CompOk.def ["_law_k","_law_far","_law_head"] [none,some 2,some 1]) (zk rfl T.n_range (qa (pv 3) qc)) (fun _ _ _ _ _=>(qr (i:=0) (show List.Nodup (["_law_k","_law_far","_law_head"]:List Str) by decide +kernel) rfl (Or.inl rfl))) (fun _ _ _ _ _=>zn) (fun _ _ _ _ _=>(qy Qo (qy ZF (ql G_a h_a rfl T.d_a.m T.d_a.k T.d_a.b .nil qz (qa (pv 2) (qa qe qc))) qe) (pv 1)))))
     (qb (ZX (i:=5) sc_law.nd rfl (Or.inl rfl) rfl (CompOk.def ["_law_k","_law_script","_law_heights"] [none,some 0,some 4]) (zk rfl T.n_range (qa (pv 3) qc)) (fun _ _ _ _ _=>(qr (i:=0) (show List.Nodup (["_law_k","_law_script","_law_heights"]:List Str) by decide +kernel) rfl (Or.inl rfl))) (fun _ _ _ _ _=>zn) (fun _ _ _ _ _=>(ql G_r h_r rfl T.d_r.m T.d_r.k T.d_r.b .nil qz (qa (ql G_f h_f rfl T.d_f.m T.d_f.k T.d_f.b .nil qz (qa (pv 1) (qa (qy QY qe (pv 0)) qc))) (qa (qp (r:=rIx K) qm (pv 2) (pv 0) (fun _ _=>rfl)) qc)))))
     (qb (qo (i:=6) sc_law.nd rfl (Or.inl rfl) (zV qc))
     (qb (qU (qw qbo (pv 3) qe (qE _))
       (qg (zT PassesOwn.never rfl (zk rfl T.n_range (qa (qk (jr rfl) (by rfl) T.n_min ju (qa qe (qa (qk (Zl rfl) (by rfl) T.n_max Zm (qa (ql G_a h_a rfl T.d_a.m T.d_a.k T.d_a.b .nil qz (qa (pv 1) (qa qe qc))) (qa (qy ZF (qy ZF (qk qL (by rfl) T.n_len qF (qa (pv 0) qc)) qe) (pv 3)) qc))) qc))) qc)) (qr (i:=7) (sc_law.nd) rfl (Or.inl rfl))
         (qg (zo (jM PySem.F.plainAttrs_list PySem.F.slot_list_append PySem.F.type_list_append qS (pv 6) (qa (ql G_s h_s rfl T.d_s.m T.d_s.k T.d_s.b .nil qz (qa (ql G_f h_f rfl T.d_f.m T.d_f.k T.d_f.b .nil qz (qa (pv 0) (qa (qy QY (qy QY qe (pv 3)) (pv 7)) qc))) (qa (pv 4) qc))) qc))))))
       qC)
     (qb (ZX (i:=8) sc_law.nd rfl (Or.inl rfl) rfl (CompOk.def ["_law_one"] [none]) (ze (pv 5)) (fun _ _ _ _ _=>(qr (i:=0) (show List.Nodup (["_law_one"]:List Str) by decide +kernel) rfl (Or.inl rfl))) (fun _ _ _ _ _=>zn) (fun _ _ _ _ _=>(qp (r:=rIx K) qm (qp (r:=rIx K) qm (pv 0) qe (fun _ _=>rfl)) qe (fun _ _=>rfl))))
     (qb (qU (qw (uEq hU) (ql G_a h_a rfl T.d_a.m T.d_a.k T.d_a.b .nil qz (qa (pv 1) (qa qe qc))) qe (qE _))
       (qg (ZX (i:=8) sc_law.nd rfl (Or.inl rfl) rfl (CompOk.def ["_law_one","_law_head"] [none,some 1]) (ze (pv 5)) (fun _ _ _ _ _=>(qr (i:=0) (show List.Nodup (["_law_one","_law_head"]:List Str) by decide +kernel) rfl (Or.inl rfl))) (fun _ _ _ _ _=>zn) (fun _ _ _ _ _=>(ql G_t h_t rfl T.d_t.m T.d_t.k T.d_t.b .nil qz (qa (pv 1) (qa (pv 0) qc))))))
       qC)
     (qb (qo (i:=9) sc_law.nd rfl (Or.inl rfl) (qaf T.M_Frame G_y h_y rfl T.g_Frame T.d_y.b .nil qz (qa (Zc rfl (CompOk.def ["_law_one"] [none]) (ze (pv 5)) (fun _ _ _ _ _=>(qr (i:=0) (show List.Nodup (["_law_one"]:List Str) by decide +kernel) rfl (Or.inl rfl))) (fun _ _ _ _ _=>zn) (fun _ _ _ _ _=>(qN (r:=qbd K) qH (by rfl) T.n_list qB (qa (pv 0) qc)))) (qa (qN (r:=qbd K) qH (by rfl) T.n_list qB (qa (pv 6) qc)) qc))))
     (qb (qo (i:=10) sc_law.nd rfl (Or.inl rfl) (qN (r:=qbd K) qH (by rfl) T.n_list qB (qa (pv 8) qc)))
     (qb (qo (i:=11) sc_law.nd rfl (Or.inl rfl) (ql G_e h_e rfl T.d_e.m T.d_e.k T.d_e.b .nil qz (qa (pv 9) (qa (pv 10) qc))))
     (qb (qU (PW.pt (QR (qw (uNe hU) (pv 10) (pv 8) (qE _)) (Ql (zS (zD (ql G_h h_h rfl T.d_h.m T.d_h.k T.d_h.b .nil qz (qa (pv 11) (qa (pv 5) (qa (pv 6) (qa (pv 8) qc))))))))))
       (qg (qu zX))
       qC)
     (qb (qU (qw ZG (qp (r:=rIx K) qm (pv 11) qe (fun _ _=>rfl)) zb (qE _))
       (qb (qo (i:=12) sc_law.nd rfl (Or.inl rfl) (ql G_e h_e rfl T.d_e.m T.d_e.k T.d_e.b .nil qz (qa (pv 9) (qa (qN (r:=qbd K) qH (by rfl) T.n_list qB (qa (qp (r:=rIx K) qm (pv 11) qe (fun _ _=>rfl)) qc)) qc))))
       (qg (qU (zS (zD (ql G_b h_b rfl T.d_b.m T.d_b.k T.d_b.b .nil qz (qa (pv 12) (qa (zU (qa (qp (r:=rIx K) qm (pv 11) qe (fun _ _=>rfl)) (qa (zV qc) (qa zb qc)))) qc)))))
         (qg (qu zX))
         qC)))
       qC)
     (qb (zo (jM PySem.F.plainAttrs_list PySem.F.slot_list_append PySem.F.type_list_append qS (qp (r:=rIx K) qm (pv 11) qe (fun _ _=>rfl)) (qa qe qc)))
     (qb (zo (jM PySem.F.plainAttrs_list PySem.F.slot_list_append PySem.F.type_list_append qS (qp (r:=rIx K) qm (pv 11) qe (fun _ _=>rfl)) (qa qe qc)))
     (qb (zo (qdr PySem.F.plainAttrs_list PySem.F.slot_list_clear PySem.F.type_list_clear qbu (pv 10)))
     (qb (qo (i:=12) sc_law.nd rfl (Or.inl rfl) (ql G_e h_e rfl T.d_e.m T.d_e.k T.d_e.b .nil qz (qa (pv 9) (qa (pv 8) qc))))
     (qb (qU (zS (zD (ql G_h h_h rfl T.d_h.m T.d_h.k T.d_h.b .nil qz (qa (pv 12) (qa (pv 5) (qa (pv 6) (qa (pv 8) qc)))))))
       (qg (qu zX))
       qC)
     (qg (qu (qag (ql G_b h_b rfl T.d_b.m T.d_b.k T.d_b.b .nil qz (qa (zK (pv 9) T.cl_Frame T.d_c.mt G_c h_c T.d_c.b .nil qz) (qa (pv 5) qc))) (Jb (ql G_b h_b rfl T.d_b.m T.d_b.k T.d_b.b .nil qz (qa (zK (pv 9) T.cl_Frame T.d_d.mt G_d h_d T.d_d.b .nil qz) (qa (pv 6) qc)))))))))))))))))))))))))),?_⟩
   try dsimp only [zG,Cx.nox]
   have tbf:TbF a H:=tbf;have hl63:(ns.map V.int).length≤63:=by rw[List.length_map];exact hlen
   refine⟨_,rfl,sa,ns,0,rfl,hS,Int.le_refl 0,fun p G0 fp s0 p0=>?_⟩;refine⟨_,_,rfl,rfl,⟨by decide,by decide,by decide⟩,qx (Nat.le_of_ble_eq_true rfl),fun l1 fl1=>?_⟩;have nl1:l1≠p:=p0.ne fl1;refine⟨_,rfl,p,_,rfl,p0.upd nl1 _,by decide,by decide,fun z G1 z0 z1 bG1 pG1=>?_⟩;refine qcz (bG1 _ _ upd_same nl1) z0 z1 rfl (fun far=>?_);have S1:Same H G1:=(s0.then _ fl1).but bG1 fp;refine⟨_,rfl,p,_,rfl,pG1,by decide,by decide,fun y G2 y0 y1 bG2 pG2=>?_⟩;have S2:=S1.but bG2 fp;have y2:y < 9:=y1
   -- heights
   refine⟨_,rfl,y,rfl,by omega,by omega,fun hq fhq=>?_⟩;have nhq:hq≠p:=pG2.ne fhq;have fhH:H hq=none:=S2.none fhq;refine Qz (lo:=0) (n:=y.toNat) (D:=hq) (fun i σ H2=>∃ (c0:Option V) (hs:List Int),σ=[c0,some (.int far),some (.ref p)]∧Same H H2∧PoolAt H2 p∧H2 hq=some (.lst (hs.map V.int))∧hs.length=i) ⟨none,[],rfl,S2.then _ fhq,pG2.upd nhq _,upd_same,rfl⟩ ?_ ?_
   · rintro i σ H2 hi ⟨c0,hs,rfl,B,p2,hh,lh⟩;refine⟨_,rfl,p,_,rfl,p2,by decide,by decide,fun e G3 e0 e1 bG3 pG3=>⟨_,_,rfl,rfl,_,rfl,_,_,rfl,rfl,.inl ⟨by have e2:e < 61:=e1;omega,by have e2:e < 61:=e1;omega⟩,?_⟩⟩;have hh2:=bG3 _ _ hh nhq;exact⟨_,hh2,qD (by rw[List.length_map,lh];have:i < y.toNat:=hi;omega),_,hs++[_],rfl,(B.but bG3 fp).put fhH _,pG3.upd nhq _,by rw[upd_same,List.map_append];rfl,by rw[List.length_append,lh];rfl⟩
   rintro σ G3 ⟨c0,hs,rfl,S3,p3,hh,lh⟩;clear bG1 bG2 pG1 pG2 p0 s0
   -- spans
   refine⟨_,rfl,y,rfl,by omega,by omega,fun s fs=>?_⟩;refine Qz (lo:=0) (n:=y.toNat) (D:=s) (fun i σ H2=>∃ (c0:Option V) (qs:List Addr) (zss:List (List V)) (pss:Sps),σ=[c0,some (.ref sa),some (.ref hq)]∧Same G3 H2∧LL H2 s qs zss∧zss.length=i∧pss.length=i∧(∀ (j:Nat) zs ps,zss[j]?=some zs->pss[j]?=some ps->TupL pr H2 zs ps)∧(∀ ps∈pss,Srt ps∧ps≠[])∧∀ zs∈zss,zs.length≤8) ⟨none,[],[],[],rfl,Same.new _ fs,.nil upd_same,rfl,rfl,(fun j zs ps e=>by simp at e),(fun ps m=>nomatch m),(fun zs m=>nomatch m)⟩ ?_ ?_
   · rintro i σ H2 hi ⟨c0,qs,zss,pss,rfl,S,L,lz,lp,tz,sz,small⟩;have hi2:i < hs.length:=by rw[lh];exact hi
     refine⟨_,rfl,_,rfl,.inl ⟨_,_,rfl,rfl,sa,ns,_,rfl,(S3.trans S).seq hS,by omega,fun q Ga fq sq pq=>?_⟩⟩;refine⟨_,rfl,_,rfl,.inl ⟨hq,_,_,_,rfl,rfl,SqL.of (sq _ _ (S _ _ hh)),(by rw[Int.zero_add];exact qaU hi2),q,_,rfl,pq,fun r zs ps Gb fr b2 p2 hr tr' sr pne lr=>?_⟩⟩;have Sb:Same H2 Gb:=sq.but b2 fq;have L':=L.same Sb;have nrs:r≠s:=(qd (sq _ _ L.at_) fr).symm;have li:(qs.map V.ref).length=i:=by rw[List.length_map,L.len];exact lz
     refine⟨_,L'.at_,qD (by have:i < y.toNat:=hi;omega),_,qs++[r],zss++[zs],pss++[ps],rfl,(S.trans Sb).put fs _,L'.snoc hr nrs,by rw[List.length_append,lz];rfl,by rw[List.length_append,lp];rfl,fun j zs' ps' e1 e2=>?_,fun ps' m=>?_,fun zs' m=>?_⟩
     · rcases q8 e1 with e|⟨ej,e⟩
       · rcases q8 e2 with e'|⟨ej',_⟩
         · exact((tz j zs' ps' e e').same Sb).put L'.at_
         · have:=(List.getElem?_eq_some_iff.mp e).1
           omega
       · rcases q8 e2 with e'|⟨_,e'⟩
         · have:=(List.getElem?_eq_some_iff.mp e').1
           omega
         · rw[e,e'];exact tr'.put L'.at_
     · rcases List.mem_append.mp m with m|m
       · exact sz ps' m
       · have e:ps'=ps:=by simpa using m
         rw[e];exact⟨sr,pne⟩
     · rcases List.mem_append.mp m with m|m
       · exact small zs' m
       · have e:zs'=zs:=by simpa using m
         rw[e];exact lr
   rintro σ G5 ⟨c0,qs,zss,pss,rfl,S5,L5,lz,lp,tz,sz,small⟩;have p5:=p3.same S5;have SH5:=S3.trans S5
   have hz5:∀ zs∈zss,Tups G5 zs:=fun zs m=>by
     obtain⟨i,hi⟩:=List.getElem?_of_mem m
     have:i < pss.length:=by rw[lp,← lz];exact(List.getElem?_eq_some_iff.mp hi).1
     exact ZN (tz i zs _ hi (List.getElem?_eq_getElem this))
   have hE:∃ E:Hp,Same E G5∧E p=none∧Same H E∧LL E s qs zss∧E hq=some (.lst (hs.map V.int))∧∀ (j:Nat) zs ps,zss[j]?=some zs->pss[j]?=some ps->TupL pr E zs ps:=⟨cut G5 [p],zN _ _,QP (by simp),SH5.cut (fun c m=>by
     have e:c=p:=by simpa using m
     rw[e];exact fp),L5.cutP p5 hz5,(qY (by simpa using nhq)).trans (S5 _ _ hh),fun j zs ps e1 e2=>jC (tz j zs ps e1 e2) p5⟩
   obtain⟨E,SE,Ep,HE,LE,hE,tE⟩:=hE;clear L5 tz hz5 S5 SH5 hh
   -- bonds
   refine⟨qx (Nat.le_of_ble_eq_true rfl),fun b fb=>?_⟩;have nb:b≠p:=p5.ne fb;have Eb:E b=none:=SE.none fb;have SE6:=SE.then (.lst []) fb
   have hb6:(upd G5 b (.lst [])) b=some (.lst []):=upd_same;have p6:=p5.upd nb (.lst []);generalize upd G5 b (.lst [])=G6 at SE6 hb6 p6 ⊢;refine⟨_,rfl,_,_,rfl,rfl,_,rfl,?_⟩;refine' jY (C:=fun (s7:Option V) G=>∃ (bs:List V) (bds:List B3),Same E G∧PoolAt G p∧G b=some (.lst bs)∧TupL tr G bs bds∧bds.length≤62∧Fx bds hs.length∧∀ b∈bds,hs.getD b.2.1 0+b.2.2≤hs.getD b.1 0) (fun rest=>zM (fun y0=>?b1) (fun _=>?b2)) ?rest
   case b1 =>
     have y0':0 < y:=y0;refine⟨_,rfl,p,_,rfl,p6,by decide,by decide,fun w G8 w0 w1 bG8 pG8=>?_⟩;have E8:=SE6.but bG8 Ep;have w2:w < 16:=w1;refine⟨_,rfl,_,_,rfl,.inl ⟨_,(HE.trans E8).seq hS,rfl⟩,_,_,rfl,rfl,_,rfl,_,_,rfl,rfl,_,_,rfl,_,_,rfl,_,rfl,(by (repeat' split)<;>omega),(by (repeat' split)<;>omega),?_⟩;refine Zi (lo:=0) (fun i σ H3=>∃ (s7:Option V) (bs:List V) (bds:List B3),σ=[some (.ref sa),some (.ref p),some (.int far),some (.int y),some (.ref hq),some (.ref s),some (.ref b),s7,none,none,none,none,none]∧Same E H3∧PoolAt H3 p∧H3 b=some (.lst bs)∧TupL tr H3 bs bds∧bs.length=i∧Fx bds hs.length∧∀ b∈bds,hs.getD b.2.1 0+b.2.2≤hs.getD b.1 0) ⟨none,[],[],rfl,E8,pG8,bG8 _ _ hb6 nb,.nil,rfl,(fun k m=>nomatch m),(fun k m=>nomatch m)⟩ ?_ ?_
     · rintro i σ H3 hi ⟨s7,bs,bds,rfl,S3',p3',hb3,tb3,lb,F3,k3⟩
       have hi62:i < 62:=by
         refine Nat.lt_of_lt_of_le hi ?_
         (repeat' split)<;>omega
       refine⟨_,rfl,.inl ⟨rfl,_,SqL.of hb3⟩,_,rfl,_,rfl,.inl ⟨_,_,rfl,rfl,_,rfl,.inl ⟨_,_,rfl,rfl,sa,ns,_,rfl,(HE.trans S3').seq hS,by omega,fun q Ga fq sq pq=>?_⟩⟩⟩;refine⟨_,rfl,q,hq,hs,rfl,pq,sq _ _ (S3' _ _ hE),(qd (S3' _ _ hE) fq),by omega,by omega,fun t bo Gb b2 p2 ht h1 h2 h3=>?_⟩;have Sb:Same H3 Gb:=sq.but b2 fq;have hb4:=Sb _ _ hb3;refine⟨b,_,_,rfl,rfl,hb4,qD (by omega),?_⟩;refine⟨_,bs++[.ref t],bds++[bo],rfl,(S3'.trans Sb).put Eb _,(p3'.same Sb).upd nb _,upd_same,((tb3.same Sb).snoc ht).put hb4,by rw[List.length_append,lb];rfl,fun b' m=>?_,fun b' m=>?_⟩
       · rcases List.mem_append.mp m with m|m
         · exact F3 b' m
         · rw[List.mem_singleton.mp m];exact⟨h1,h2⟩
       · rcases List.mem_append.mp m with m|m
         · exact k3 b' m
         · rw[List.mem_singleton.mp m];exact h3
     · rintro σ H3 ⟨s7,bs,bds,rfl,S3',p3',hb3,tb3,lb,F3,k3⟩;exact rest s7 H3 ⟨bs,bds,S3',p3',hb3,tb3,by rw[← tb3.1,lb];(repeat' split)<;>omega,F3,k3⟩
   case b2=>exact rest none G6 ⟨[],[],SE6,p6,hb6,.nil,by decide,(fun b m=>nomatch m),(fun b m=>nomatch m)⟩
   case rest =>
     rintro s7 G8 ⟨bs,bds,SE8,p8,hb8,tb8,bl,F8,k8⟩;have eh:hs.length=pss.length:=by rw[lh,lp]
     have hE2:∃ E2:Hp,Same E2 G8∧E2 p=none∧Same H E2∧Lw a E2 s b qs zss pss bs bds hs:=by
       have SC:Same E (cut G8 [p]):=SE8.cut (fun c m=>by
         have e:c=p:=by simpa using m
         rw[e];exact Ep)
       exact⟨cut G8 [p],zN _ _,QP (by simp),HE.trans SC,⟨LE.same SC,by rw[lz,lp],fun j zs ps e1 e2=>(tE j zs ps e1 e2).same SC,sz,by rw[lp];omega,small,qco hb8 nb,jC tb8 p8,bl,(by rw[← eh];exact F8),k8⟩⟩
     obtain⟨E2,S2E,E2p,HE2,W⟩:=hE2;clear SE8 hb8 tb8 F8 k8 LE tE hE SE HE
     have each:∀ (i:Nat) (q:Addr),qs[i]?=some q->∃ zs ps,E2 q=some (.lst zs)∧TupL pr E2 zs ps∧Srt ps∧ps≠[]∧zs.length≤8∧pss.getD i []=ps:=fun i q hq=>by
       have iz:i < zss.length:=by rw[← W.ls.len];exact(List.getElem?_eq_some_iff.mp hq).1
       have ip:i < pss.length:=by rw[← W.zl];exact iz
       have hz:=List.getElem?_eq_getElem iz;have hp:=List.getElem?_eq_getElem ip;obtain⟨s1,s2⟩:=W.srt _ (List.getElem_mem ip);exact⟨_,_,W.ls.each i q _ hq hz,W.ps i _ _ hz hp,s1,s2,W.small _ (List.getElem_mem iz),by rw[List.getD_eq_getElem?_getD,hp];rfl⟩
     have lqs:(qs.map V.ref).length=pss.length:=by rw[List.length_map,W.ls.len,W.zl]
     have few:=W.few
     -- lows
     refine⟨_,rfl,s,rfl,⟨_,SqL.of (S2E _ _ W.ls.at_)⟩,fun lq flq=>?_⟩;have nlq:lq≠p:=p8.ne flq;refine zH (K:=K) (a:=s) (xs:=qs.map V.ref) (D:=lq) (fun i σ H2=>∃ (c0:Option V) (ls:List Int),σ=[c0]∧Same G8 H2∧H2 lq=some (.lst (ls.map V.int))∧Ls pss ls i) ⟨none,[],rfl,Same.new _ flq,upd_same,rfl,fun j h=>absurd h (Nat.not_lt_zero _)⟩ (fun i σ H2 _ ⟨_,_,_,S,_⟩=>SqL.of (S _ _ (S2E _ _ W.ls.at_))) ?_ ?_
     · rintro i v σ H2 hv ⟨c0,ls,rfl,S,hD,ll⟩;have hi8:i < pss.length:=by rw[← lqs];exact(List.getElem?_eq_some_iff.mp hv).1
       obtain⟨q,hqi,rfl⟩:=zE hv;obtain⟨zs,ps,hz,tz,s1,s2,_,ep⟩:=each i q hqi;have S':=S2E.trans S;obtain⟨x,ps',rfl⟩:=List.exists_cons_of_ne_nil s2;obtain⟨t,hz0,ht⟩:=tz.at_ (i:=0) (p:=x) rfl;refine⟨_,rfl,.inl ⟨q,_,_,_,rfl,rfl,SqL.of (S' _ _ hz),(show atI zs ((0:Nat):Int)=some (.ref t) from qJ hz0),.inr (.inl ⟨t,_,_,_,rfl,rfl,SqT.of (S' _ _ ht),rfl,_,hD,qD (by rw[List.length_map,ll.1];omega),?_⟩)⟩⟩;exact⟨_,ls++[x.1],rfl,S.put flq _,by rw[upd_same,List.map_append];rfl,ll.snoc ⟨x,by rw[ep];exact List.mem_cons_self,Int.le_refl _,s1.2 x List.mem_cons_self⟩⟩
     rintro σ G9 ⟨c0,l01,rfl,S9,hlq,ll⟩;rw[lqs]at ll;have SE9:=S2E.trans S9;have p9:=p8.same S9;refine⟨_,rfl,p,_,rfl,p9,by decide,by decide,fun u G10 u0 u1 bG10 pG10=>.inl ⟨rfl,_,rfl,?_⟩⟩;have SE10:=SE9.but bG10 E2p;refine' jY (C:=fun (lq:Addr) G=>∃ l0:List Int,Same E2 G∧G lq=some (.lst (l0.map V.int))∧Ls pss l0 pss.length) (fun rest=>zM (fun _=>?b1) (fun _=>?b2)) ?rest
     case b1 =>
       refine⟨_,rfl,s,rfl,⟨_,SqL.of (SE10 _ _ W.ls.at_)⟩,fun lr flr=>?_⟩;have nlr:lr≠p:=pG10.ne flr;have Elr:E2 lr=none:=SE10.none flr;refine zH (K:=K) (a:=s) (xs:=qs.map V.ref) (D:=lr) (fun i σ H2=>∃ (c0:Option V) (ls:List Int),σ=[c0,some (.ref p)]∧Same E2 H2∧PoolAt H2 p∧H2 lr=some (.lst (ls.map V.int))∧Ls pss ls i) ⟨none,[],rfl,SE10.then _ flr,pG10.upd nlr _,upd_same,rfl,fun j h=>absurd h (Nat.not_lt_zero _)⟩ (fun i σ H2 _ ⟨_,_,_,S,_⟩=>SqL.of (S _ _ W.ls.at_)) ?_ ?_
       · rintro i v σ H2 hv ⟨c0,ls,rfl,S,p2,hD,ll⟩;have hi8:i < pss.length:=by rw[← lqs];exact(List.getElem?_eq_some_iff.mp hv).1
         obtain⟨q,hqi,rfl⟩:=zE hv;obtain⟨zs,ps,hz,tz,s1,s2,z8,ep⟩:=each i q hqi;refine⟨_,rfl,_,rfl,p,q,zs,ps,rfl,p2,S _ _ hz,qd hz E2p,tz.same S,s1,s2,by omega,fun n Gb b2 p2' mm=>?_⟩;have hD2:=b2 _ _ hD nlr;refine⟨_,hD2,qD (by rw[List.length_map,ll.1];omega),?_⟩;exact⟨_,ls++[n],rfl,(S.but b2 E2p).put Elr _,p2'.upd nlr _,by rw[upd_same,List.map_append];rfl,ll.snoc (by rw[ep];exact mm)⟩
       · rintro σ H2 ⟨c0,ls,rfl,S,p2,hD,ll⟩;rw[lqs]at ll;exact rest lr H2 ⟨ls,S,hD,ll⟩
     case b2=>exact rest lq G10 ⟨l01,SE10,bG10 _ _ hlq nlq,ll⟩
     case rest =>
       rintro lq G11 ⟨l0,S11,hlw0,ll⟩;have li:LI pss l0:=⟨ll.1,ll.2⟩
       have W11:=W.same S11;have tb11:=q9 tbf (HE2.trans S11);refine⟨_,rfl,s,rfl,⟨_,SqL.of W11.ls.at_⟩,fun D fD=>?_⟩;have hlq:=(by rw[W11.ls.len,W11.zl];omega:qs.length≤60)
       have hll:=W11.ls.len;refine zH (K:=K) (a:=s) (D:=D) (fun i σ H2=>∃ (s0:Option V) (rs:List Addr),σ=[s0]∧Same G11 H2∧LL H2 D rs (List.take i zss)∧∀ r∈rs,G11 r=none) ⟨none,[],rfl,Same.new _ fD,(by rw[List.take_zero];exact .nil upd_same),fun r m=>by cases m⟩ (fun i σ H2 _ ⟨_,_,_,S,_⟩=>SqL.of (S _ _ W11.ls.at_)) ?_ ?_
       · rintro i x σ H2 hx ⟨s0,rs,rfl,S,Lr,fr⟩;obtain⟨q,hqi,rfl⟩:=zE hx;have hiz:i < List.length zss:=by rw[← W11.ls.len];exact(List.getElem?_eq_some_iff.mp hqi).1
         obtain⟨zs,hzi⟩:∃ zs,zss[i]?=some zs:=⟨_,List.getElem?_eq_getElem hiz⟩
         have hq:H2 q=some (.lst zs):=S _ _ (W11.ls.each i q zs hqi hzi);refine⟨_,rfl,q,zs,rfl,.inl (SqL.of hq),fun l2 fl2=>⟨_,Same.new _ fl2 _ _ Lr.at_,qD (by rw[List.length_map,Lr.len,List.length_take];omega),?_⟩⟩;refine⟨_,rs++[l2],rfl,(S.then _ fl2).put fD _,?_,fun r m=>?_⟩
         · rw[ZR hzi];exact(Lr.same (Same.new _ fl2)).snoc upd_same (qd Lr.at_ fl2).symm
         · rcases List.mem_append.mp m with m|m
           · exact fr r m
           · have e:r=l2:=by simpa using m
             rw[e];exact S.none fl2
       · rintro σ H2 ⟨s0,rs,rfl,S,Lr,fr⟩;rw[List.take_of_length_le (by rw[List.length_map,W11.ls.len];exact Nat.le_refl _)]at Lr;refine⟨_,rfl,b,bs,rfl,.inl (SqL.of (S _ _ W11.hb)),fun bd fbd=>?_⟩;intro x dx fx fdx ndx;have S10:=S.then (.lst bs) fbd
         have hbd:(upd H2 bd (.lst bs)) bd=some (.lst bs):=upd_same;have Lr':=Lr.same (Same.new (.lst bs) fbd);generalize upd H2 bd (.lst bs)=G12 at S10 hbd Lr' fx fdx ⊢;have Sx:Same G12 (upd (upd G12 dx (.own x)) x (.ins a.c_Frame dx [])):=(Same.new _ fdx).put fx _;refine⟨x,dx,D,bd,rs,zss,bs,rfl,upd_same,Lr'.same Sx,(by rw[Lr.len,W11.zl];omega),Sx _ _ hbd,fun k kb rk G13 fk frk fkb B13 F13 Lk13 hkb13=>⟨rfl,?_⟩⟩;have S13:Same G11 G13:=S10.trans (Sx.but B13 fx);have fr13:Fr a G13 x zss bs:=⟨k,kb,rk,F13,Lk13,hkb13⟩
         have W13:=W11.same S13;have tb13:=q9 tb11 S13;have hlq13:=S13 _ _ hlw0
         have hE3:∃ E3:Hp,Same E3 G13∧E3 a.t_furthest=none∧Lw a E3 s b qs zss pss bs bds hs∧Fr a E3 x zss bs∧E3 lq=some (.lst (l0.map V.int)):=by
           obtain⟨tt,ht,_⟩:=id tb13;exact⟨cut G13 [a.t_furthest],zN _ _,QP (by simp),qc2 W13 ht,qc4 fr13 ht,qco hlq13 (qO hlq13 ht (by intro z;cases z))⟩
         obtain⟨E3,SE3,E3t,W3,F3,lq3⟩:=hE3
         have RZ:∀ (G:Hp) (l:Addr) (l1:List Int) (QQ:VK),Same E3 G->TbF a G->G l=some (.lst (l1.map V.int))->LI pss l1->(∀ (tp lw sq:Addr) (lows:List Int) (st:List Nat) (past:Option Nat) (H':Hp),Same E3 H'->But a.t_furthest G H'->TbF a H'->G lw=none->G sq=none->lw≠sq->H' lw=some (.lst (lows.map V.int))->H' sq=some (.lst (nL st))->H' tp=some (.tup [.ref lw,.ref sq,oN past])->LI pss lows->Gd pss bds l1 st->rst pss bds l1 st=(lows,past)->(past=none->∀ b∈bds,lows.getD b.2.1 0+b.2.2≤lows.getD b.1 0)->st.length < sizeLine->QQ (.ref tp) H')->Q0 a [.ref x,.ref l] G QQ E0:=fun G l l1 QQ S tb hl li k =>
           ⟨x,l,zss,pss,bs,bds,(fun i=>hs.getD i 0),l1,rfl,F3.same S,W3.tb.same S,W3.fx,W3.zl,by omega,(Nat.le_trans W3.bl (by decide)),W3.kp,(fun i zs ps e1 e2=>(W3.ps i zs ps e1 e2).same S),(fun ps m=>(W3.srt ps m).1),hl,li,tb,W3.big l1,fun tp lw sq lows st past H' B tb' f1 f2 nls _ h1 h2 h3 li' gd rs kp sl=>k tp lw sq lows st past H' (S.but B E3t) B tb' f1 f2 nls h1 h2 h3 li' gd rs kp sl⟩
         have JD:∀ (G:Hp) (tp lw sq:Addr) (lows:List Int) (st:List Nat) (past:Option Nat) (QQ:VK),Same E3 G->G lw=some (.lst (lows.map V.int))->G sq=some (.lst (nL st))->G tp=some (.tup [.ref lw,.ref sq,oN past])->LI pss lows->Gd pss bds l0 st->rst pss bds l0 st=(lows,past)->(past=none->∀ b∈bds,lows.getD b.2.1 0+b.2.2≤lows.getD b.1 0)->(∀ H',Same G H'->QQ (.bl true) H')->Qv [.ref tp,.ref s,.ref b,.ref lq] G QQ E0:=fun G tp lw sq lows st past QQ S h1 h2 h3 li' gd rs kp k =>
           ⟨tp,s,b,lq,lw,sq,qs,zss,pss,bs,bds,l0,lows,st,past,rfl,h3,h1,h2,W3.ls.same S,W3.zl,(fun i zs ps e1 e2=>(W3.ps i zs ps e1 e2).same S),(fun ps m=>(W3.srt ps m).1),S _ _ W3.hb,W3.tb.same S,W3.fx,S _ _ lq3,li,by omega,li',gd,rs,kp,k⟩
         clear S13 S10 Sx B13 F13 Lk13 hkb13 fr13 W13 Lr Lr' W11 S11 tb11
         -- handed
         refine⟨_,rfl,lq,_,rfl,.inl (SqL.of (SE3 _ _ lq3)),fun hd fhd=>?_⟩;have Sh:=SE3.then (.lst (l0.map V.int)) fhd
         have hhd:(upd G13 hd (.lst (l0.map V.int))) hd=some (.lst (l0.map V.int)):=upd_same;have tb14:=q9 tb13 (Same.new (.lst (l0.map V.int)) fhd);have E3hd:=SE3.none fhd;generalize upd G13 hd (.lst (l0.map V.int))=G14 at Sh hhd tb14 ⊢;refine⟨_,rfl,_,rfl,RZ G14 hd l0 _ Sh tb14 hhd li fun tp lw sq lows st past G15 S15 B15 tb15 flw fsq nls hlw hsq htp li15 gd rs15 kp15 stl=>?_⟩;have hd15:=B15 _ _ hhd (jE tb14 hhd fun _ z=>nomatch z);have nhl:hd≠lw:=qd hhd flw;have nhs:hd≠sq:=qd hhd fsq;have E3lw:=Sh.none flw;have E3sq:=Sh.none fsq;refine⟨_,rfl,_,rfl,qcK hd15 (S15 _ _ lq3) ⟨_,rfl,Qq rfl ?_⟩⟩;refine⟨_,rfl,_,rfl,_,rfl,_,rfl,JD G15 tp lw sq lows st past _ S15 hlw hsq htp li15 gd rs15 kp15 fun G16 S16=>⟨_,rfl,Qq rfl ?_⟩⟩;have SE16:=S15.trans S16;have tb16:=q9 tb15 S16;have l1000:lows.length≤1000:=by rw[li15.1];omega
         unfold qa7;dsimp only;refine zC (t:=qex _ _ _) (fun σ' G=>∃ s12:Option V,σ'=[some (.ref sa),some (.ref p),some (.int far),some (.int y),some (.ref hq),some (.ref s),some (.ref b),s7,some (.ref lq),some (.ref x),some (.ref hd),some (.ref tp),s12]∧Same E3 G∧TbF a G∧G tp=some (.tup [.ref lw,.ref sq,oN past])∧G lw=some (.lst (lows.map V.int))∧G sq=some (.lst (nL st))∧G hd=some (.lst (l0.map V.int))) (fun N hN=>?_) ?_
         · refine⟨_,rfl,.inr (.inl ⟨tp,_,_,_,rfl,rfl,SqT.of (S16 _ _ htp),rfl,rfl,_,rfl,zM (fun g=>?_) (fun _=>hN _ _ ⟨none,rfl,SE16,tb16,S16 _ _ htp,S16 _ _ hlw,S16 _ _ hsq,S16 _ _ hd15⟩)⟩)⟩
           have pn:past=none:=by
             cases past with
             | none=>rfl
             | some k=>nomatch g
           have lw16:=S16 _ _ hlw;have tp16:=S16 _ _ htp;refine⟨_,rfl,_,rfl,.inr (.inl ⟨tp,_,_,_,rfl,rfl,SqT.of tp16,rfl,lw,_,rfl,.inl (SqL.of lw16),fun l3 fl3=>?_⟩)⟩;have S17:=Same.new (.lst (lows.map V.int)) fl3;refine RZ _ l3 lows _ (SE16.trans S17) (q9 tb16 S17) upd_same li15 fun tp2 lw2 sq2 lows2 st2 past2 G18 S18 B18 tb18 flw2 fsq2 nls2 hlw2 hsq2 htp2 li18 gd2 rs2 kp2 _=>?_;have est:=gd2.none (kp15 pn);subst est;have e2:(lows,none)=(lows2,past2):=rs2;have e3:lows2=lows:=(congrArg Prod.fst e2).symm;have e4:past2=none:=(congrArg Prod.snd e2).symm;rw[e3]at hlw2;rw[e4]at htp2;have keep:∀ c o,G16 c=some o->(∀ ps,o≠.tbl ps)->G18 c=some o:=fun c o e n=>B18 c o (S17 _ _ e) (jE tb16 e n);have tp18:=keep _ _ tp16 (fun _ z=>nomatch z);have lw18:=keep _ _ lw16 (fun _ z=>nomatch z);have sq18:=keep _ _ (S16 _ _ hsq) (fun _ z=>nomatch z);have hd18:=keep _ _ (S16 _ _ hd15) (fun _ z=>nomatch z);refine⟨_,rfl,_,rfl,.inr (.inl ⟨tp,_,_,_,rfl,rfl,SqT.of tp18,rfl,qx (Nat.le_of_ble_eq_true rfl),fun e fe=>?_⟩)⟩;have Se:=Same.new (.lst []) fe;refine⟨qx (Nat.le_of_ble_eq_true rfl),fun t2 ft2=>?_⟩;have St:=Same.new (.tup [.ref lw,.ref e,.non]) ft2;have SS:=Se.trans St;refine .inr (.inl ⟨_,_,rfl,qcZ (SS _ _ htp2) upd_same (SS _ _ hlw2) (SS _ _ lw18) (SS _ _ hsq2) (St _ _ upd_same) l1000,fun G19 S19=>⟨_,rfl,Qq rfl ?_⟩⟩);have SA:=SS.trans S19;exact hN _ _ ⟨_,rfl,S18.trans SA,q9 tb18 SA,SA _ _ tp18,SA _ _ lw18,SA _ _ sq18,SA _ _ hd18⟩
         rintro _ G20 ⟨s12,rfl,S20,tb20,tp20,lw20,sq20,hd20⟩
         have lst20:(nL st).length < sizeLine:=by
           rw[show (nL st).length=st.length from List.length_map _];exact stl
         refine⟨_,rfl,.inr (.inl ⟨tp,_,_,_,rfl,rfl,SqT.of tp20,rfl,(show tyV K "list" (.ref lw) _ from .inl ⟨rfl,_,SqL.of lw20⟩),lw,_,_,rfl,rfl,lw20,qD (by rw[List.length_map];omega),?_⟩)⟩;have S21:=S20.put E3lw (.lst (lows.map V.int++[.int 7]));have tb21:=QC (o:=.lst (lows.map V.int++[.int 7])) tb20 lw20 (fun _ z=>nomatch z) (fun _ z=>nomatch z);have tp21:(upd G20 lw (.lst (lows.map V.int++[.int 7]))) tp=_:=(qf (qO tp20 lw20 (by intro z;cases z))).trans tp20;have sq21:(upd G20 lw (.lst (lows.map V.int++[.int 7]))) sq=_:=(qf nls.symm).trans sq20;have hd21:(upd G20 lw (.lst (lows.map V.int++[.int 7]))) hd=_:=(qf nhl).trans hd20;generalize upd G20 lw (.lst (lows.map V.int++[.int 7]))=G21 at S21 tb21 tp21 sq21 hd21 ⊢;refine⟨_,rfl,.inr (.inl ⟨tp,_,_,_,rfl,rfl,SqT.of tp21,rfl,(show tyV K "list" (.ref sq) _ from .inl ⟨rfl,_,SqL.of sq21⟩),sq,_,_,rfl,rfl,sq21,lst20,?_⟩)⟩;have S22:=S21.put E3sq (.lst (nL st++[.int 0]));have tb22:=QC (o:=.lst (nL st++[.int 0])) tb21 sq21 (fun _ z=>nomatch z) (fun _ z=>nomatch z);have hd22:(upd G21 sq (.lst (nL st++[.int 0]))) hd=_:=(qf nhs).trans hd21;generalize upd G21 sq (.lst (nL st++[.int 0]))=G22 at S22 tb22 hd22 ⊢;refine⟨_,rfl,(show tyV K "list" (.ref hd) _ from .inl ⟨rfl,_,SqL.of hd22⟩),hd,_,rfl,rfl,hd22,?_⟩;have S23:=S22.put E3hd (.lst []);have tb23:=QC (o:=.lst []) tb22 hd22 (fun _ z=>nomatch z) (fun _ z=>nomatch z);generalize upd G22 hd (.lst [])=G23 at S23 tb23 ⊢;refine⟨_,rfl,_,rfl,RZ G23 lq l0 _ S23 tb23 (S23 _ _ lq3) li fun tp2 lw2 sq2 lows2 st2 past2 G24 S24 B24 tb24 flw2 fsq2 nls2 hlw2 hsq2 htp2 li24 gd2 rs2 kp2 _=>?_⟩;refine⟨_,rfl,_,rfl,_,rfl,_,rfl,JD G24 tp2 lw2 sq2 lows2 st2 past2 _ S24 hlw2 hsq2 htp2 li24 gd2 rs2 kp2 fun G25 S25=>⟨_,rfl,Qq rfl ?_⟩⟩;have S325:=S24.trans S25;have F25:=F3.same S325;have W25:=W3.same S325;obtain⟨k,kb,rk,⟨dx,hx⟩,Lk,hkb⟩:=F25;have n1000:zss.length≤1000:=by rw[W25.zl];omega
         refine⟨_,rfl,x,dx,_,rfl,hx,Qy _ _ (by decide +kernel) (by decide +kernel),x,k,kb,rk,zss,rfl,⟨dx,hx⟩,Lk,(by rw[Lk.len,W25.zl];omega),fun d ts G1 fd ft S1 L1=>?_⟩;refine⟨_,rfl,.inl ⟨_,_,rfl,SV.w (qes L1 (W25.ls.same S1) (fun zs m=>⟨(W25.tups zs m).1.same S1,Nat.le_trans (W25.tups zs m).2 (by decide)⟩) n1000),fun G2 S2=>⟨true,rfl,qch ?_⟩⟩⟩;have S12:=S1.trans S2;refine⟨_,rfl,x,dx,_,rfl,S12 _ _ hx,Qy _ _ (by decide +kernel) (by decide +kernel),x,k,kb,bs,rfl,⟨dx,S12 _ _ hx⟩,S12 _ _ hkb,fun d2 fd2=>?_⟩;have S3:=Same.new (.lst bs) fd2;exact⟨_,rfl,.inr (.inl ⟨_,_,rfl,SV.w (qaY upd_same (S3 _ _ (S12 _ _ W25.hb)) (((JI W25.tb).same S12).same S3) (by rw[W25.tb.1];exact Nat.le_trans W25.bl (by decide))),fun G4 S4=>kk G4⟩)⟩
end
theorem len_0 {p:List Value->Prop} (h:p []):∀ us:List Value,us.length=0->p us:=fun us hl=>by
 cases us with
 | nil=>exact h
 | cons a t=>cases hl
theorem len_1 {p:List Value->Prop} (h:∀ a,p [a]):∀ us:List Value,us.length=1->p us:=fun us hl=>by
 cases us with
 | nil=>cases hl
 | cons a t=>exact len_0 (p:=fun t=>p (a::t)) (h a) t (Nat.succ.inj hl)
theorem len_2 {p:List Value->Prop} (h:∀ a b,p [a,b]):∀ us:List Value,us.length=2->p us:=fun us hl=>by
 cases us with
 | nil=>cases hl
 | cons a t=>exact len_1 (p:=fun t=>p (a::t)) (h a) t (Nat.succ.inj hl)
theorem len_3 {p:List Value->Prop} (h:∀ a b c,p [a,b,c]):∀ us:List Value,us.length=3->p us:=fun us hl=>by
 cases us with
 | nil=>cases hl
 | cons a t=>exact len_2 (p:=fun t=>p (a::t)) (h a) t (Nat.succ.inj hl)
theorem len_4 {p:List Value->Prop} (h:∀ a b c d,p [a,b,c,d]):∀ us:List Value,us.length=4->p us:=fun us hl=>by
 cases us with
 | nil=>cases hl
 | cons a t=>exact len_3 (p:=fun t=>p (a::t)) (h a) t (Nat.succ.inj hl)
theorem mkDf {K:Frag}{h:Heap}{mg:Str->Option Value} (X:K.In h) (G:h.Ns mainGlobals mg) {x:Str}{st:Stmt}{ps:List Str}{f:Addr}{oc:Value}{od an:Option Addr}{osl:Array (Option Value)}{kV doc pm cdv ct:Value} (a:nsIn K mainGlobals x=some (some (.ref f))) (l:K.lookup f=some ⟨oc,od,.func (fnOf x x (zh st) (qX st) (qh st) .none kV doc pm an cdv ct),osl⟩) (c:codeIn K cdv x=true) (k:keepIn K (.ref f)=true) (hb:∀ (kV doc pm:Value) (an:Option Addr) (cdv ct:Value) (us:List Value),us.length=ps.length->bindArgs (fnOf x x (zh st) (qX st) (qh st) .none kV doc pm an cdv ct) ⟨us,[]⟩=pure (ps.zip us)):Df K mg x st ps f (fnOf x x (zh st) (qX st) (qh st) .none kV doc pm an cdv ct):=⟨Jh l c k,(Jh l c k).binds hb,PySem.W.mg_of X G a,k⟩
theorem mkDm {K:Frag}{C:Addr}{x q:Str}{st:Stmt}{ps:List Str}{f:Addr}{oc:Value}{od an:Option Addr}{osl:Array (Option Value)}{kV doc pm cdv ct:Value} (m:qdQ K C x f) (l:K.lookup f=some ⟨oc,od,.func (fnOf x q (zh st) (qX st) (qh st) .none kV doc pm an cdv ct),osl⟩) (c:codeIn K cdv q=true) (k:keepIn K (.ref f)=true) (hb:∀ (kV doc pm:Value) (an:Option Addr) (cdv ct:Value) (us:List Value),us.length=ps.length->bindArgs (fnOf x q (zh st) (qX st) (qh st) .none kV doc pm an cdv ct) ⟨us,[]⟩=pure (ps.zip us)):DfM K C x q st ps f (fnOf x q (zh st) (qX st) (qh st) .none kV doc pm an cdv ct):=⟨Jh l c k,(Jh l c k).binds hb,m⟩
theorem all2 {l:PySem.W.OpenLaw}{w:World}{K:Frag}{h:Heap}{mg:Str->Option Value}{fa:Addr} (X:K.In h) (G:h.Ns mainGlobals mg) (hfa:mg "law"=some (.ref fa)) {a:Ad} (T:Txt K mg a)
   : ∃ fd:FuncData,(∀ (s:Shared) (v:Value),BindsTo s fd ⟨[v],[]⟩ [("_law_script",v)])∧∀ base:Heap,K.In base->base.Ns mainGlobals mg->JK mg base->FnOk l.prog w K mg base CX0 8 fa fd ["_law_script"] (qa8 K a.t_furthest):=by
 have e:=hfa.symm.trans T.d_z.m;obtain⟨oc,od,kV,doc,pm,an,cdv,ct,osl,e2,lk,hcd⟩:=T.d_z.F.ex;cases e;exact⟨a.fd_z,fun s v=>by rw[e2];exact .of_eq rfl,fun base _ _ hB=>qdu T hB⟩
theorem walk {l:PySem.W.OpenLaw}{q:Program}{loose:List Str}{XP:(Str->Option Value)->Heap->Prop}{YP:World->Heap->Prop}{d:DefRec}{K:Params->Frag}{t:Addr} (hn:l.most=some 63) (hdf:d.params.defaults=[])
   (hY:∀ (w:World) (h:Heap),YP w h->(K w.params).In h∧(∀ u∈[t],h.get? u=some (PySem.W.tabObj #[]))∧(∀ u∈[t],isCodeTable h u)∧∀ u∈[t],(K w.params).lookup u=none)
   (F:∀ (w:World) (mg:Str->Option Value) (fa:Addr) (h:Heap),(K w.params).In h->h.Ns mainGlobals mg->mg d.name=some (.ref fa) ->
     ∃ fd:FuncData,(∀ (s:Shared) (u:Value),BindsTo s fd ⟨[u],[]⟩ [("_law_script",u)])∧∀ base:Heap,(K w.params).In base->base.Ns mainGlobals mg->JK mg base->FnOk l.prog w (K w.params) mg base CX0 8 fa fd ["_law_script"] (qa8 (K w.params) t)) :
   PySem.W.WalkO q loose XP YP l.row.toRowW d [] (fun f vs=>PySem.call f vs) :=
 L2.walk_ofT (ts:=[t]) (n:=63) (k:=8) (x:="_law_script") (CX:=fun _=>CX0) (sp:=fun w=>qa8 (K w.params) t) hn (by decide) hdf ⟨rfl,by decide,by decide,rfl⟩ hY F (fun _ _ a ns hl _ hT hS=>⟨a,ns,rfl,hS,hl,⟨#[],hT t List.mem_cons_self,True.intro,.inl rfl⟩,fun _=>rfl⟩) fun _ _ _ _ _ z=>z
end K45
open PySem PySem.W PyProof.Rows
set_option maxHeartbeats 0 in
theorem PySem.Challenge.cw_foldlog_k45_lows_raised_holds : PySem.Challenge.rw_foldlog_k45_lows_raised.Holds := by
 w_on;o_law;km_head;(case hw=>w_witness2)
 k_fill
 refine K45.walk (t:=70) (l:=PySem.Challenge.rw_foldlog_k45_lows_raised) rfl rfl (fun w h Y=>⟨PySem.W.km_in_of Y,PySem.W.km_tabs_of Y,fun u m=>by cases List.mem_singleton.mp m;exact((PySem.W.codeHd_of_K (c:=74) (PySem.W.km_in_of Y) (by kernel_rfl)).tab (PySem.W.km_tabs_of Y 70 (List.mem_singleton.mpr rfl))).isCodeTable,fun u m=>by cases List.mem_singleton.mp m;kernel_rfl⟩) ?F
 case F =>
   intro w mg fa h KX G hmg;refine' K45.all2 KX G hmg (a:=⟨_,_,74,70,_,_,_,_,_,_,_,_,_,_,_,_,_,_,_,_,_,_,_,_,_,_,_,_,_,_,_,_,_,_,_,_,_,_,_,_,_,_,_,_,_,_,_,_,_,_,_,_,_,_,_,_⟩) ?T
   case T =>
     constructor
     all_goals try dsimp only
     all_goals try refine' PySem.W.mg_of KX G ?_
     all_goals try refine' PySem.W.mg_none_of KX G ?_
     all_goals try refine' ⟨_,PySem.W.mg_of KX G ?_⟩
     all_goals try k_is
     all_goals try refine' K45.mkDf KX G ?_ ?_ ?_ ?_ (fun _ _ _ _ _ _=>by first|exact K45.len_0 rfl|exact K45.len_1 fun _=>rfl|exact K45.len_2 fun _ _=>rfl|exact K45.len_3 fun _ _ _=>rfl|exact K45.len_4 fun _ _ _ _=>rfl)
     all_goals try refine' K45.mkDm ⟨?_,?_,?_⟩ ?_ ?_ ?_ (fun _ _ _ _ _ _=>by first|exact K45.len_0 rfl|exact K45.len_1 fun _=>rfl|exact K45.len_2 fun _ _=>rfl|exact K45.len_3 fun _ _ _=>rfl|exact K45.len_4 fun _ _ _ _=>rfl)
     all_goals try refine' L2.xIsa_of ?_ ?_ ?_
     all_goals try refine' L2.XMro.of ?_ ?_
     all_goals try refine' L2.xIn_of ?_ ?_
     all_goals try refine' ⟨⟨L2.xIn_of ?_ ?_,?_,?_,?_,?_,?_,?_⟩,?_,?_,?_⟩
     all_goals try refine' ⟨⟨?_,?_,?_,?_⟩,?_,?_,?_,?_⟩
     all_goals try refine' ⟨?_,?_,?_,?_⟩
     all_goals try refine' ⟨?_,?_,?_⟩
     all_goals try refine' ⟨?_,?_⟩
     all_goals try (first|k_is|rfl)
     all_goals try (first|k_is|rfl)
     all_goals try (first|k_is|rfl)
     all_goals decide
