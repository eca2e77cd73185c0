import PyProof.Rows.All
import OpenK.KLine
import Wide.FinOn
import KE.KSortTup
import KE.KDictOf
import KE.LcSums
import KE.KIntText
import KE.KRevSl
import KE.KFromBytes
import KE.KItemsList
import KE.KIsAll
import KE.KEqDict
import KE.KRevIter
import PySem.Challenge.RW_foldlog_k76_picked
set_option maxHeartbeats 4000000
set_option Elab.async false
set_option linter.all false
set_option maxRecDepth 100000
namespace L2
open PySem PySem.Spec PyProof.Rows
open PySem.W (instObj methodObj Frag lookIn plainGet hasDictIn findIn handedIn plainGet_of isFn plainOver takerIn makesIn emptyDict keepIn kia_one kitx_list kitx_dict callWith_K callWith_K0 fnOf)
abbrev Key:=Sum Int Str
def qe8:Key->Value->Bool
 | .inl k,v=>Value.isInt k v
 | .inr x,v=>Value.isStrOf x v
def qnX (w:World):Key->Int
 | .inl k=>hashInt k
 | .inr x=>hashStr w x
theorem zn:∀ {k:Key}{v:Value},qe8 k v=true->(∃ i t,k=Sum.inl i∧v=Value.int i t)∨(∃ x t,k=Sum.inr x∧v=Value.str x t)
 | .inl i,v,h=>by
   obtain⟨t,e⟩:=Value.isInt_shape (k:=i) (v:=v) h;exact .inl ⟨i,t,rfl,e⟩
 | .inr x,v,h=>by
   obtain⟨t,e⟩:=Value.isStrOf_shape (x:=x) (v:=v) h;exact .inr ⟨x,t,rfl,e⟩
theorem qh1 (i:Int) (t:Tok):qe8 (.inl i) (.int i t)=true:=by simp[qe8,Value.isInt]
theorem qh0 (x:Str) (t:Tok):qe8 (.inr x) (.str x t)=true:=by simp[qe8,Value.isStrOf]
theorem qmj (a b:Int):decide ((Sum.inl a:Key)=Sum.inl b)=(a == b):=by
 by_cases e:a=b
 · subst e;simp
 · have h:¬ (Sum.inl a:Key)=Sum.inl b:=fun q=>e (Sum.inl.inj q);rw[decide_eq_false h];exact(beq_eq_false_iff_ne.mpr e).symm
theorem qmg (a b:Str):decide ((Sum.inr a:Key)=Sum.inr b)=decide (a=b):=by
 by_cases e:a=b
 · subst e;simp
 · have h:¬ (Sum.inr a:Key)=Sum.inr b:=fun q=>e (Sum.inr.inj q);rw[decide_eq_false h,decide_eq_false e]
theorem qmi (a:Int) (b:Str):decide ((Sum.inl a:Key)=Sum.inr b)=false:=decide_eq_false (fun q=>nomatch q)
theorem qmh (a:Str) (b:Int):decide ((Sum.inr a:Key)=Sum.inl b)=false:=decide_eq_false (fun q=>nomatch q)
def zy (prog:Program) (w:World):PySem.KeyKind prog w Key where
 is:=qe8
 hash:=qnX w
 inj:=fun v a b ha hb=>by
   rcases zn ha with ⟨i,t,rfl,rfl⟩|⟨x,t,rfl,rfl⟩
   · rcases zn hb with ⟨j,u,rfl,e⟩|⟨y,u,rfl,e⟩
     · injection e with e1 _;rw[e1]
     · exact nomatch e
   · rcases zn hb with ⟨j,u,rfl,e⟩|⟨y,u,rfl,e⟩
     · exact nomatch e
     · injection e with e1 _;rw[e1]
 byValue:=fun k v h=>by
   rcases zn h with ⟨i,t,rfl,rfl⟩|⟨x,t,rfl,rfl⟩<;>rfl
 pyHash:=fun hv h=>by
   rcases zn hv with ⟨i,t,rfl,rfl⟩|⟨x,t,rfl,rfl⟩
   · exact wpAny_pyHash_int h
   · exact wpAny_pyHash_str h
 eqBool:=fun hu hv h=>by
   rcases zn hu with ⟨i,t,rfl,rfl⟩|⟨x,t,rfl,rfl⟩
   · rcases zn hv with ⟨j,u,rfl,rfl⟩|⟨y,u,rfl,rfl⟩
     · rw[qmj]at h;exact wpAny_eqBool_int h
     · rw[qmi]at h;exact SeqAt.EqAt.int_str i t y u _ _ _ _ h
   · rcases zn hv with ⟨j,u,rfl,rfl⟩|⟨y,u,rfl,rfl⟩
     · rw[qmh]at h;exact SeqAt.EqAt.str_int x t j u _ _ _ _ h
     · rw[qmg]at h;exact wpAny_eqBool_str h
 «strs»:=fun k x t v h=>by
   rcases zn h with ⟨i,u,rfl,e⟩|⟨y,u,rfl,e⟩
   · exact nomatch e
   · injection e with e1 _;subst e1;cases v<;>rfl
theorem qe4 (prog:Program) (w:World) (i:Int) (t:Tok):(zy prog w).is (.inl i) (.int i t)=true:=qh1 i t
theorem qe3 (prog:Program) (w:World) (x:Str) (t:Tok):(zy prog w).is (.inr x) (.str x t)=true:=qh0 x t
inductive V where
 | non|bl (b:Bool)|int (i:Int)|str (x:Str)|byt (b:Array UInt8)|flt (b:UInt64)|ref (a:Addr)|ty (n:String)
 deriving DecidableEq
def RelV:V->Value->Prop
 | .non,u=>u=Value.none
 | .bl b,u=>u=Value.bool b
 | .int i,u=>∃ t,u=Value.int i t
 | .str x,u=>∃ t,u=Value.str x t
 | .byt b,u=>∃ t,u=Value.bytes b t
 | .flt b,u=>∃ t,u=Value.float b t
 | .ref a,u=>u=Value.ref a
 | .ty n,u=>u=Value.type n
abbrev Vals:List V->List Value->Prop:=Paired RelV
theorem Vals.length {xs:List V}{us:List Value} (r:Vals xs us):xs.length=us.length:=Paired.length r
theorem Vals.get:∀ {xs:List V}{us:List Value}{i:Nat}{x:V},Vals xs us->xs[i]?=some x->∃ u,us[i]?=some u∧RelV x u
 | _,_,_,_,.nil,e=>by simp at e
 | _,_,0,_,.cons r _,e=>by simp at e;subst e;exact⟨_,rfl,r⟩
 | _,_,i+1,x,.cons _ t,e=>by
   obtain⟨u,h1,h2⟩:=Vals.get (i:=i) (x:=x) t (by simpa using e);exact⟨u,by simpa using h1,h2⟩
theorem Vals.set {x:V}{u:Value} (r:RelV x u):∀ {xs:List V}{us:List Value} (i:Nat),Vals xs us->Vals (xs.set i x) (us.set i u)
 | _,_,_,.nil=>.nil
 | _,_,0,.cons _ t=>.cons r t
 | _,_,i+1,.cons q t=>.cons q (Vals.set r i t)
theorem Vals.append:∀ {xs ys:List V}{us ws:List Value},Vals xs us->Vals ys ws->Vals (xs++ys) (us++ws)
 | _,_,_,_,.nil,s=>s
 | _,_,_,_,.cons r t,s=>.cons r (Vals.append t s)
theorem Vals.take:∀ {xs:List V}{us:List Value} (n:Nat),Vals xs us->Vals (xs.take n) (us.take n)
 | _,_,0,_=>.nil
 | _,_,_+1,.nil=>.nil
 | _,_,n+1,.cons r t=>.cons r (Vals.take n t)
theorem Vals.drop:∀ {xs:List V}{us:List Value} (n:Nat),Vals xs us->Vals (xs.drop n) (us.drop n)
 | _,_,0,r=>r
 | _,_,_+1,.nil=>.nil
 | _,_,n+1,.cons _ t=>Vals.drop n t
def RelO:Option V->Option Value->Prop
 | some v,some u=>RelV v u
 | none,none=>True
 | _,_=>False
def KV {κ:Type}:List (κ×V)->List (κ×Value)->Prop:=Paired fun (p:κ×V) (q:κ×Value)=>p.1=q.1∧RelV p.2 q.2
def kV:Key->V
 | .inl i=>.int i
 | .inr x=>.str x
inductive HO where
   | lst (xs:List V)
   | tup (xs:List V)
   | dK (kvs:List (Key×V))|dT (kvs:List (List Key×V))
   | set (S:Int->Bool) (n:Nat)
   | ins (C dx:Addr) (fs:List (Str×V))
   | own (x:Addr)
   | xd (fs:List (Str×V))
   | met (f x:Addr)
   | rng (lo hi:Int)
   | frz (o:Obj) (u:HO)
   | tbl (ps:Array Value)
   | ext (φ:Heap->Prop)
abbrev Hp:=Addr->Option HO
def upd (H:Hp) (a:Addr) (o:HO):Hp:=fun b=>if b=a then some o else H b
theorem qd {H:Hp}{a:Addr}{o:HO}:upd H a o a=some o:=by unfold upd;rw[if_pos rfl]
theorem qh {H:Hp}{a b:Addr}{o:HO} (h:b≠a):upd H a o b=H b:=by unfold upd;rw[if_neg h]
theorem zI {H:Hp}{a b:Addr}{o u:HO} (h:H a=some o) (h':H b=some u) (d:o≠u):a≠b:=by
 intro e;subst e;rw[h]at h';exact d (Option.some.inj h')
theorem qm {H:Hp}{a b:Addr}{o:HO} (h:H a=some o) (h':H b=none):a≠b:=by
 intro e;subst e;rw[h]at h';cases h'
section
variable (P:Program) (w:World)
def ObjOk (H:Hp) (h:Heap) (a:Addr):HO->Prop
 | .lst xs=>xs.length≤sizeLine∧∃ (its:List Value) (n:Nat),Vals xs its∧h.get? a=some { cls:=.type "list",data:=.seq its.toArray n }
 | .tup xs=>xs.length≤sizeLine∧∃ its:List Value,Vals xs its∧IsTup h a its.toArray
 | .dK kvs=>kvs.length≤sizeLine∧(a == sysModules)=false∧∃ vs,KV kvs vs∧h.DictOf (zy P w) a vs
 | .dT kvs=>kvs.length≤sizeLine∧(a == sysModules)=false∧∃ xs:List (List Key×Addr×Value),
     Paired (fun (p:List Key×V) (q:List Key×Addr×Value)=>p.1=q.1∧H q.2.1=some (.tup (p.1.map kV))∧RelV p.2 q.2.2) kvs xs ∧
     ∃ o es ep,h.get? a=some o∧o.ExactDict∧o.data=.dict es ep∧es.toList=xs.map (entryOfKey (tupleKind (zy P w)))∧(xs.map (·.1)).Nodup
 | .set S n=>h.SetOf (intKind P w) a S n
 | .ins C dx fs=>H dx=some (.own a)∧fs.length≤1000∧dx≠a∧h.get? a=some (instObj C dx) ∧
     ∃ mA,h.Ns1 dx mA∧(∀ f,RelO (fs.lookup f) (mA f))∧PySem.Within mA (fs.map (·.1))
 | .own _=>∃ o,h.get? a=some o
 | .xd fs=>∃ mA,h.Ns1 a mA∧∀ f,RelO (fs.lookup f) (mA f)
 | .rng lo hi=>∃ t u v,h.get? a=some { cls:=.type "range",data:=.fields #[.int lo t,.int hi u,.int 1 v] }
 | .frz o u=>h.get? a=some o∧ObjOk H h a u
 | .tbl ps=>h.get? a=some { cls:=.none,data:=.fields ps }
 | .met f x=>h.get? a=some (methodObj (.ref f) (.ref x))
 | .ext φ=>φ h∧(∃ o,h.get? a=some o)∧∀ h1 h2:Heap,φ h1->(∀ o,h1.get? a=some o->h2.get? a=some o)->φ h2
def HOk (H:Hp) (h:Heap):Prop:=∀ a o,H a=some o->ObjOk P w H h a o
end
section
variable {P:Program}{w:World}{H H':Hp}{h h':Heap}{a:Addr}{o:HO}
theorem ObjOk.lt (x:ObjOk P w H h a o):a < h.objs.size:=by
 cases o with
 | lst xs=>obtain⟨_,_,_,_,e⟩:=x;exact Heap.lt_size e
 | tup xs=>obtain⟨_,_,_,p⟩:=x;exact p.lt
 | dK kvs=>obtain⟨_,_,_,_,o,_,_,e,_⟩:=x;exact Heap.lt_size e
 | dT kvs=>obtain⟨_,_,_,_,o,_,_,e,_⟩:=x;exact Heap.lt_size e
 | set S n=>obtain⟨o,_,_,_,e,_⟩:=x;exact Heap.lt_size e
 | ins C dx fs=>obtain⟨_,_,_,e,_⟩:=x;exact Heap.lt_size e
 | own y=>obtain⟨_,e⟩:=x;exact Heap.lt_size e
 | xd fs=>obtain⟨_,⟨_,_,_,e,_⟩,_⟩:=x;exact Heap.lt_size e
 | rng lo hi=>obtain⟨_,_,_,e⟩:=x;exact Heap.lt_size e
 | frz ob u=>obtain⟨e,_⟩:=x;exact Heap.lt_size e
 | tbl ps=>exact Heap.lt_size (show h.get? a=some _ from x)
 | met f y=>exact Heap.lt_size (show h.get? a=some _ from x)
 | ext φ=>obtain⟨_,⟨_,e⟩,_⟩:=x;exact Heap.lt_size e
theorem Paired.mapP {α β:Type}{F G:α->β->Prop}:∀ {l₁:List α}{l₂:List β},Paired F l₁ l₂->(∀ a b,F a b->G a b)->Paired G l₁ l₂
 | _,_,.nil,_=>.nil
 | _,_,.cons r t,f=>.cons (f _ _ r) (Paired.mapP t f)
theorem ObjOk.stay (x:ObjOk P w H h a o) (k:∀ b u,(b=a∨H b=some (.own a))->h.get? b=some u->h'.get? b=some u)
   (ho:∀ b,H b=some (.own a)->H' b=some (.own a)) (ht:∀ b xs,H b=some (.tup xs)->H' b=some (.tup xs)):ObjOk P w H' h' a o:=by
 induction o with
 | lst xs=>obtain⟨z,its,n,r,e⟩:=x;exact⟨z,its,n,r,k _ _ (.inl rfl) e⟩
 | tup xs=>obtain⟨z,its,r,ob,e,c⟩:=x;exact⟨z,its,r,ob,k _ _ (.inl rfl) e,c⟩
 | dK kvs=>obtain⟨z,y,vs,r,ob,es,ep,e,c⟩:=x;exact⟨z,y,vs,r,ob,es,ep,k _ _ (.inl rfl) e,c⟩
 | dT kvs =>
   obtain⟨z,y,xs,r,ob,es,ep,e,c⟩:=x;exact⟨z,y,xs,Paired.mapP r fun p q z=>⟨z.1,ht _ _ z.2.1,z.2.2⟩,ob,es,ep,k _ _ (.inl rfl) e,c⟩
 | set S n=>obtain⟨ob,es,ep,t,e,c⟩:=x;exact⟨ob,es,ep,t,k _ _ (.inl rfl) e,c⟩
 | ins C dx fs =>
   obtain⟨d,z,ne,e,mA,⟨od,es,ep,e2,c⟩,r⟩:=x;exact⟨ho _ d,z,ne,k _ _ (.inl rfl) e,mA,⟨od,es,ep,k _ _ (.inr d) e2,c⟩,r⟩
 | own y=>obtain⟨ob,e⟩:=x;exact⟨ob,k _ _ (.inl rfl) e⟩
 | xd fs=>obtain⟨mA,⟨od,es,ep,e,c⟩,r⟩:=x;exact⟨mA,⟨od,es,ep,k _ _ (.inl rfl) e,c⟩,r⟩
 | rng lo hi=>obtain⟨t,u,v,e⟩:=x;exact⟨t,u,v,k _ _ (.inl rfl) e⟩
 | frz ob u ih=>obtain⟨e,q⟩:=x;exact⟨k _ _ (.inl rfl) e,ih q⟩
 | tbl ps =>
   have e:h.get? a=some { cls:=.none,data:=.fields ps }:=x;show h'.get? a=some { cls:=.none,data:=.fields ps };exact k a _ (.inl rfl) e
 | met f y =>
   have e:h.get? a=some (methodObj (.ref f) (.ref y)):=x;show h'.get? a=some (methodObj (.ref f) (.ref y));exact k a _ (.inl rfl) e
 | ext φ=>obtain⟨p,⟨o,e⟩,st⟩:=x;exact⟨st _ _ p fun o q=>k _ _ (.inl rfl) q,⟨o,k _ _ (.inl rfl) e⟩,st⟩
theorem HOk.lt (x:HOk P w H h) (e:H a=some o):a < h.objs.size:=(x a o e).lt
theorem HOk.fresh (x:HOk P w H h) (e:h.objs.size≤a):H a=none:=by
 cases q:H a with
 | none=>rfl
 | some u=>exact absurd (Nat.lt_of_lt_of_le (x.lt q) e) (Nat.lt_irrefl _)
theorem HOk.kept (x:HOk P w H h) (k:∀ b u,h.get? b=some u->h'.get? b=some u):HOk P w H h':=fun a o e =>
 (x a o e).stay (fun b u _ q=>k b u q) (fun _ q=>q) fun _ _ q=>q
theorem HOk.laid (x:HOk P w H h) (k:∀ b u,h.get? b=some u->h'.get? b=some u) (hp:h.objs.size≤a) (new:ObjOk P w (upd H a o) h' a o):HOk P w (upd H a o) h':=fun b u e=>by
 have hn:=x.fresh hp;by_cases hb:b=a
 · subst hb;rw[qd]at e;cases e;exact new
 · rw[qh hb]at e;exact(x b u e).stay (fun c v _ q=>k c v q) (fun c q=>by rw[qh (qm q hn)];exact q) fun c xs q=>by rw[qh (qm q hn)];exact q
end
def Rd (H:Hp) (a:Addr) (u:HO):Prop:=H a=some u∨∃ o,H a=some (.frz o u)
theorem Rd.ok {P:Program}{w:World}{H:Hp}{h:Heap}{a:Addr}{u:HO} (r:Rd H a u) (x:HOk P w H h):ObjOk P w H h a u:=by
 rcases r with r|⟨o,r⟩
 · exact x a u r
 · obtain⟨_,q⟩:=x a _ r;exact q
def Mut:Option HO->Prop
 | some (.lst _)=>True
 | some (.dK _)=>True
 | some (.dT _)=>True
 | some (.set _ _)=>True
 | some (.ins _ _ _)=>True
 | some (.ext _)=>True
 | _=>False
section
variable {P:Program}{w:World}{H:Hp}{h h':Heap}{x e:Addr}{o':HO}
theorem HOk.write (ok:HOk P w H h) (mu:Mut (H x)) (he:e=x∨H e=some (.own x)) (k:∀ b u,b≠e->h.get? b=some u->h'.get? b=some u) (heo:∃ u,h'.get? e=some u)
   (new:ObjOk P w (upd H x o') h' x o'):HOk P w (upd H x o') h':=fun b u q=>by
 have nown:∀ c y,H c=some (.own y)->c≠x:=fun c y r z=>by subst z;rw[r]at mu;exact mu
 have ntup:∀ c xs,H c=some (.tup xs)->c≠x:=fun c xs r z=>by subst z;rw[r]at mu;exact mu
 by_cases hb:b=x
 · subst hb;rw[qd]at q;cases q;exact new
 · rw[qh hb]at q;by_cases hbe:b=e
   · have q':H b=some (.own x):=by
       rcases he with z|z
       · exact absurd (hbe.trans z) hb
       · rw[hbe];exact z
     rw[q]at q';cases q';obtain⟨v,hv⟩:=heo;exact⟨v,by rw[hbe];exact hv⟩
   · refine(ok b u q).stay (fun c v hc r=>k c v ?_ r) (fun c r=>by rw[qh (nown c b r)];exact r) fun c xs r=>by rw[qh (ntup c xs r)];exact r
     rcases hc with rfl|hc
     · exact hbe
     · rintro rfl;rcases he with z|z
       · exact nown c b hc z
       · rw[hc]at z;cases z;exact hb rfl
end
structure Un (fs ex:List Addr) (H H':Hp) (h h':Heap):Prop where
 keep:∀ b o,h.get? b=some o->H b=none->b∉fs->b∉ex->h'.get? b=some o
 slot:∀ b o,h.get? b=some o->H b=none->b∈fs->b∉ex->∃ sl,h'.get? b=some { o with slots:=sl }
 free:∀ b o,h.get? b=some o->H b=none->b∉ex->H' b=none
 there:∀ b o,h.get? b=some o->b∉ex->∃ o',h'.get? b=some o'
 tups:∀ b xs,H b=some (.tup xs)->H' b=some (.tup xs)
 frzs:∀ b o u,H b=some (.frz o u)->H' b=some (.frz o u)
 tbls:∀ b ps,H b=some (.tbl ps)->∃ more,H' b=some (.tbl (ps++more))
section
variable {fs fs' ex ex':List Addr}{H H1 H2:Hp}{h h1 h2 h':Heap}{a x e:Addr}{o:HO}
theorem Un.any (u:Un fs ex H H1 h h1) {b:Addr}{ob:Obj} (q:h.get? b=some ob) (n:H b=none) (hx:b∉ex):∃ sl,h1.get? b=some { ob with slots:=sl }:=by
 by_cases hb:b∈fs
 · exact u.slot b ob q n hb hx
 · exact⟨ob.slots,u.keep b ob q n hb hx⟩
theorem Un.kept (k:∀ b u,h.get? b=some u->h'.get? b=some u):Un fs ex H H h h' :=
 ⟨fun b ob q _ _ _=>k b ob q,fun b ob q _ _ _=>⟨ob.slots,k b ob q⟩,fun _ _ _ n _=>n,fun b ob q _=>⟨ob,k b ob q⟩,fun _ _ q=>q,fun _ _ _ q=>q,fun _ ps q=>⟨#[],by rw[q];simp⟩⟩
theorem Un.refl:Un fs ex H H h h:=Un.kept fun _ _ q=>q
theorem Un.laid (k:∀ b u,h.get? b=some u->h'.get? b=some u) (hp:h.objs.size≤a) (hn:H a=none):Un fs ex H (upd H a o) h h' where
 keep:=fun b u q _ _ _=>k b u q
 slot:=fun b u q _ _ _=>⟨u.slots,k b u q⟩
 free:=fun b u q n _=>by rw[qh (Nat.ne_of_lt (Nat.lt_of_lt_of_le (Heap.lt_size q) hp))];exact n
 there:=fun b u q _=>⟨u,k b u q⟩
 tups:=fun b xs q=>by rw[qh (qm q hn)];exact q
 frzs:=fun b u xs q=>by rw[qh (qm q hn)];exact q
 tbls:=fun b ps q=>⟨#[],by rw[qh (qm q hn),q];simp⟩
theorem Un.write (mu:Mut (H x)) (he:e=x∨H e=some (.own x)) (k:∀ b u,b≠e->h.get? b=some u->h'.get? b=some u) (heo:∃ u,h'.get? e=some u):Un fs ex H (upd H x o) h h':=by
 have hx:∀ b,H b=none->b≠x:=fun b n z=>by subst z;rw[n]at mu;exact mu
 have hb:∀ b,H b=none->b≠e:=fun b n z=>by
   subst z;rcases he with r|r
   · exact hx b n r
   · rw[n]at r;cases r
 have hm:∀ b u,H b=some u->¬ Mut (some u)->b≠x:=fun b u q nm z=>by subst z;rw[q]at mu;exact nm mu
 refine⟨fun b u q n _ _=>k b u (hb b n) q,fun b u q n _ _=>⟨u.slots,k b u (hb b n) q⟩,fun b u q n _=>by rw[qh (hx b n)];exact n,fun b u q _=>?_,
   fun b xs q=>by rw[qh (hm b _ q fun z=>z)];exact q,fun b u xs q=>by rw[qh (hm b _ q fun z=>z)];exact q,fun b ps q=>⟨#[],by rw[qh (hm b _ q fun z=>z),q];simp⟩⟩
 by_cases hbe:b=e
 · subst hbe;exact heo
 · exact⟨u,k b u hbe q⟩
end
def trk (h:Heap) (H:Hp):List Addr:=(List.range h.objs.size).filter fun a=>(H a).isSome
def qjo (h:Heap) (H:Hp):Heap:=PySem.W.hideAll h (trk h H)
theorem qh7 (h:Heap) (H:Hp):(qjo h H).objs.size=h.objs.size:=PySem.W.hideAll_size _ _
theorem qjn {h:Heap}{H:Hp}{b:Addr}{o:Obj} (e:h.get? b=some o) (n:H b=none):(qjo h H).get? b=some o :=
 PySem.W.hideAll_get _ e fun hm=>by
   have q:(H b).isSome=true:=(List.mem_filter.mp hm).2;rw[n]at q;simp at q
theorem qkR {h:Heap}{H:Hp}{b:Addr}{o:Obj} (e:(qjo h H).get? b=some o):h.get? b=some o∧H b=none:=by
 have e':h.get? b=some o:=PySem.W.of_hideAll (trk h H) e;refine⟨e',?_⟩
 cases q:H b with
 | none=>rfl
 | some x =>
   have hm:b∈trk h H:=List.mem_filter.mpr ⟨List.mem_range.mpr (Heap.lt_size e'),by simp[q]⟩;have z:(qjo h H).get? b=none:=PySem.W.hideAll_none (trk h H) hm;rw[z]at e;cases e
structure Mod (K:Frag) (mg:Str->Option Value) (base:Heap):Prop where
 kin:K.In base
 glob:base.Ns mainGlobals mg
 blt:∃ mb,base.Ns builtinsNs mb∧∀ x:Str,x≠"__name__"->mb x=bootBuiltins x
 nolimit:base.NoLimit
structure Cx where
 prog:Program
 w:World
 K:Frag
 mg:Str->Option Value
 base:Heap
 A:Around
 N:List Str
 s₀:Shared
 H₀:Hp
 env:Env
 outer:List Env
 stack:List Env
 ex:List Addr
 fn:Str->Bool
 calm:Bool
 pn:List (Addr×Obj)
 xe:Value->Shared->Prop
def frs (l:List Env):List Addr:=l.filterMap (·.frame)
abbrev Cx.fs (X:Cx):List Addr:=frs X.outer
def Vis (sc:Scope) (x:Str):Prop:=sc.names.lookup x=some .local∨sc.names.lookup x=some .cell∨sc.names.lookup x=some .free
def Loc (sc:Scope) (x:Str):Prop:=sc.names.lookup x=some .local∨sc.names.lookup x=some .cell
def qn7 (env:Env) (h:Heap) (m:Str->Option Value) (x:Str) (u:Value):Prop :=
 (env.kindOf x=some .local∧m x=some u)∨((env.kindOf x=some .cell∨env.kindOf x=some .free)∧∃ c,env.cells.lookup x=some c∧h.IsCell c (some u))
structure Cx.Ok (X:Cx):Prop where
 mod:Mod X.K X.mg X.base
 kind:X.env.scope.kind=.function
 glob:X.env.globals=mainGlobals
 blt:X.env.builtins=builtinsNs
 above:X.s₀.heap.objs.size≤X.env.locals
 inj:∀ x y c,X.env.cells.lookup x=some c->X.env.cells.lookup y=some c->x=y
 has:∀ x,(X.env.kindOf x=some .cell∨X.env.kindOf x=some .free)->∃ c,X.env.cells.lookup x=some c
 cab:∀ x c,X.fn x=true->X.env.cells.lookup x=some c->X.s₀.heap.objs.size≤c
 hd:X.calm=true->X.A.handled=none
 frames:X.A.frames=some X.stack
 stk:X.stack=X.outer∨(X.stack=X.env::X.outer∧X.env.frame=some X.env.locals)
 exf:∀ b∈X.ex,b≠X.env.locals∧∀ x c,X.env.cells.lookup x=some c->c≠b
 bs:∀ b o,X.base.get? b=some o->X.s₀.heap.get? b=some o∧X.H₀ b=none
 bsz:X.base.objs.size≤X.s₀.heap.objs.size
 noex:∀ b o,X.base.get? b=some o->b∉X.ex
 exfs:∀ b∈X.ex,b∉X.fs
 funs:X.s₀.heap.FunFrames X.base X.outer
 frf:∀ b∈X.fs,X.H₀ b=none
structure Inv (X:Cx) (pins:List (Addr×Obj)) (σ:List (Option V)) (H:Hp) (s:Shared):Prop where
 ok:X.Ok
 os:s.os=X.s₀.os
 bare:AllBare s.gens
 base:Un X.fs X.ex X.H₀ H X.s₀.heap s.heap
 loc:∃ m,s.heap.Ns X.env.locals m∧∀ (i:Nat) (x:Str) (v:V),X.N[i]?=some x->σ[i]?=some (some v)->Vis X.env.scope x->∃ u,RelV v u∧qn7 X.env s.heap m x u
 cell:∀ x c,X.env.cells.lookup x=some c->∃ v,s.heap.IsCell c v
 free:H X.env.locals=none
 freeC:∀ x c,X.env.cells.lookup x=some c->H c=none
 pin:∀ p∈X.pn++pins,s.heap.get? p.1=some p.2∧H p.1=none∧p.1≠X.env.locals∧p.1∉X.fs∧∀ v,p.2.data≠.cell v
 hok:HOk X.prog X.w H s.heap
 len:σ.length=X.N.length
section
variable {X:Cx}{pins:List (Addr×Obj)}{σ:List (Option V)}{H H':Hp}{s:Shared}{h':Heap}
theorem Cx.Ok.nofr (ok:X.Ok) {b:Addr}{o:Obj} (e:X.base.get? b=some o):b∉X.fs:=fun hb=>by
 have:=(ok.funs.mem hb).1
 rw[e]at this;cases this
theorem Inv.bs (I:Inv X pins σ H s):∀ b o,X.base.get? b=some o->s.heap.get? b=some o∧H b=none:=fun b o e =>
 ⟨I.base.keep b o (I.ok.bs b o e).1 (I.ok.bs b o e).2 (I.ok.nofr e) (I.ok.noex b o e),I.base.free b o (I.ok.bs b o e).1 (I.ok.bs b o e).2 (I.ok.noex b o e)⟩
theorem Inv.bk (I:Inv X pins σ H s):∀ b o,X.base.get? b=some o->s.heap.get? b=some o:=fun b o e=>(I.bs b o e).1
theorem Inv.mod (I:Inv X pins σ H s):Mod X.K X.mg X.base:=I.ok.mod
theorem Inv.kIn (I:Inv X pins σ H s):X.K.In s.heap:=I.ok.mod.kin.keeps I.bk
theorem Inv.fr (I:Inv X pins σ H s):∃ m,Fr X.base X.env.locals s.heap m :=
 let ⟨m,hn,_⟩:=I.loc
 ⟨m,hn,I.bk,Nat.le_trans I.ok.bsz I.ok.above⟩
theorem Inv.lt (I:Inv X pins σ H s):X.env.locals < s.heap.objs.size:=let ⟨_,hn,_⟩:=I.loc;hn.lt
theorem Inv.sz (I:Inv X pins σ H s):X.s₀.heap.objs.size≤s.heap.objs.size:=Nat.le_trans I.ok.above (Nat.le_of_lt I.lt)
theorem Inv.nofs (I:Inv X pins σ H s) {a:Addr} (h:s.heap.objs.size≤a):a∉X.fs:=fun hb=>by
 obtain⟨_,o,ho,_⟩:=I.ok.funs.mem hb;exact absurd (Nat.lt_of_lt_of_le (Heap.lt_size ho) (Nat.le_trans I.sz h)) (Nat.lt_irrefl _)
theorem Inv.cne (I:Inv X pins σ H s):∀ x c,X.env.cells.lookup x=some c->c≠X.env.locals:=fun x c e z=>by
 obtain⟨v,o,ho,hd⟩:=I.cell x c e;obtain⟨m,⟨o',es,ep,ho',hd',_⟩,_⟩:=I.loc;rw[z,ho']at ho;cases ho;rw[hd']at hd;cases hd
theorem Inv.funs (I:Inv X pins σ H s):s.heap.FunFrames X.base X.outer:=by
 have all:∀ (l:List Env),(∀ b∈frs l,b∈X.fs)->X.s₀.heap.FunFrames X.base l->s.heap.FunFrames X.base l:=by
   intro l
   induction l with
   | nil=>intro _ _;trivial
   | cons env r ih =>
     intro hs hl;obtain⟨hk,⟨L,o,hf,hn,ho,hd⟩,hr⟩:=hl;have hL:L∈X.fs:=hs L (by unfold frs;rw[List.filterMap_cons,hf];exact List.mem_cons_self);obtain⟨sl,e⟩:=I.base.slot L o ho (I.ok.frf L hL) hL fun z=>I.ok.exfs L z hL;exact⟨hk,⟨L,_,hf,hn,e,hd⟩,ih (fun b hb=>hs b (by unfold frs;rw[List.filterMap_cons,hf];exact List.mem_cons_of_mem _ hb)) hr⟩
 exact all X.outer (fun _ hb=>hb) I.ok.funs
theorem Inv.stack (I:Inv X pins σ H s):s.heap.FunFrames X.base X.stack:=by
 rcases I.ok.stk with e|⟨e,hf⟩
 · rw[e];exact I.funs
 · rw[e];obtain⟨m,hn,_⟩:=I.loc;refine .cons (by rw[I.ok.kind];decide) hf hn ?_ I.funs;exact Heap.get?_none_of_le (Nat.le_trans I.ok.bsz I.ok.above)
theorem Inv.stkSub (I:Inv X pins σ H s):∀ b∈frs X.stack,b∈X.env.locals::X.fs:=fun b hb=>by
 rcases I.ok.stk with e|⟨e,hf⟩
 · rw[e]at hb;exact List.mem_cons_of_mem _ hb
 · rw[e]at hb;unfold frs at hb;rw[List.filterMap_cons,hf]at hb;exact hb
theorem Inv.stkFree (I:Inv X pins σ H s):∀ b∈frs X.stack,H b=none:=fun b hb=>by
 rcases List.mem_cons.mp (I.stkSub b hb) with e|hb
 · rw[e];exact I.free
 · obtain⟨_,o,ho,_⟩:=I.ok.funs.mem hb;exact I.base.free b o ho (I.ok.frf b hb) fun z=>I.ok.exfs b z hb
theorem Inv.step {g':Array GenState}{t':Nat}{d':Drawn}{ch:List Addr} (I:Inv X pins σ H s)
   (hch:∀ b∈ch,(b∈X.ex∨X.s₀.heap.objs.size≤b)∧b≠X.env.locals∧(∀ x c,X.env.cells.lookup x=some c->c≠b)∧∀ p∈X.pn++pins,p.1≠b)
   (keep:∀ b o,b≠X.env.locals->b∉X.fs->b∉ch->s.heap.get? b=some o->H b=none->h'.get? b=some o)
   (slot:∀ b o,b≠X.env.locals->b∈X.fs->b∉ch->s.heap.get? b=some o->H b=none->∃ sl,h'.get? b=some { o with slots:=sl }) (free:∀ b o,b∉ch->s.heap.get? b=some o->H b=none->H' b=none)
   (there:∀ b o,b∉ch->s.heap.get? b=some o->∃ o',h'.get? b=some o')
   (tups:∀ b xs,H b=some (.tup xs)->H' b=some (.tup xs)) (frzs:∀ b o u,H b=some (.frz o u)->H' b=some (.frz o u)) (tbls:∀ b ps,H b=some (.tbl ps)->∃ more,H' b=some (.tbl (ps++more)))
   (ns:∀ m,s.heap.Ns X.env.locals m->h'.Ns X.env.locals m) (hok:HOk X.prog X.w H' h') (hg:AllBare g') :
   Inv X pins σ H' { s with heap:=h',gens:=g',drawn:=d',toks:=t' }:=by
 have neL:∀ b o,X.s₀.heap.get? b=some o->b≠X.env.locals:=fun b o e=>Nat.ne_of_lt (Nat.lt_of_lt_of_le (Heap.lt_size e) I.ok.above)
 have neC:∀ b o,X.s₀.heap.get? b=some o->b∉X.ex->b∉ch:=fun b o e hx hb=>by
   rcases (hch b hb).1 with z|z
   · exact hx z
   · exact absurd (Nat.lt_of_lt_of_le (Heap.lt_size e) z) (Nat.lt_irrefl _)
 have cellK:∀ x c,X.env.cells.lookup x=some c->∀ v,s.heap.IsCell c v->h'.IsCell c v:=fun x c e v ⟨o,ho,hd⟩=>by
   have nch:c∉ch:=fun z=>(hch c z).2.2.1 x c e rfl;by_cases hc:c∈X.fs
   · obtain⟨sl,q⟩:=slot c o (I.cne x c e) hc nch ho (I.freeC x c e);exact⟨_,q,hd⟩
   · exact⟨o,keep c o (I.cne x c e) hc nch ho (I.freeC x c e),hd⟩
 refine⟨I.ok,I.os,hg,⟨fun b o e n hb hx=>?_,fun b o e n hb hx=>?_,fun b o e n hx=>?_,fun b o e hx=>?_,fun b xs e=>tups b xs (I.base.tups b xs e),fun b o xs e=>frzs b o xs (I.base.frzs b o xs e),fun b ps e=>?_⟩,?_,fun x c e=>?_,?_,fun x c e=>?_,fun p hp=>?_,hok,I.len⟩
 · exact keep b o (neL b o e) hb (neC b o e hx) (I.base.keep b o e n hb hx) (I.base.free b o e n hx)
 · obtain⟨sl,e1⟩:=I.base.slot b o e n hb hx;obtain⟨sl',e2⟩:=slot b _ (neL b o e) hb (neC b o e hx) e1 (I.base.free b o e n hx);exact⟨sl',e2⟩
 · obtain⟨o',e1⟩:=I.base.there b o e hx;exact free b o' (neC b o e hx) e1 (I.base.free b o e n hx)
 · obtain⟨o',e1⟩:=I.base.there b o e hx;exact there b o' (neC b o e hx) e1
 · obtain⟨m1,e1⟩:=I.base.tbls b ps e;obtain⟨m2,e2⟩:=tbls b _ e1;exact⟨m1++m2,by rw[e2,Array.append_assoc]⟩
 · obtain⟨m,hn,hl⟩:=I.loc;refine⟨m,ns m hn,fun i x v e1 e2 e3=>?_⟩;obtain⟨u,r,l⟩:=hl i x v e1 e2 e3;refine⟨u,r,?_⟩;rcases l with l|⟨k,c,e,z⟩
   · exact .inl l
   · exact .inr ⟨k,c,e,cellK x c e _ z⟩
 · obtain⟨v,z⟩:=I.cell x c e;exact⟨v,cellK x c e v z⟩
 · obtain⟨m,⟨o,_,_,ho,_⟩,_⟩:=I.loc;exact free _ o (fun z=>(hch _ z).2.1 rfl) ho I.free
 · obtain⟨v,o,ho,hd⟩:=I.cell x c e;exact free c o (fun z=>(hch c z).2.2.1 x c e rfl) ho (I.freeC x c e)
 · obtain⟨e,n,ne,nf,d⟩:=I.pin p hp;have nch:p.1∉ch:=fun z=>(hch p.1 z).2.2.2 p hp rfl;exact⟨keep p.1 p.2 ne nf nch e n,free p.1 p.2 nch e n,ne,nf,d⟩
theorem Inv.un {t':Nat} (I:Inv X pins σ H s) (u:Un X.fs [] H H' s.heap h') (hok:HOk X.prog X.w H' h'):Inv X pins σ H' { s with heap:=h',toks:=t' }:=by
 obtain⟨m,⟨o,es,ep,ho,r⟩,_⟩:=id I.loc;obtain⟨sl,hL⟩:=u.any ho I.free (by simp)
 exact I.step (g':=s.gens) (d':=s.drawn) (ch:=[]) (fun _ z=>nomatch z) (fun b o _ hb _ e n=>u.keep b o e n hb (by simp)) (fun b o _ hb _ e n=>u.slot b o e n hb (by simp)) (fun b o _ e n=>u.free b o e n (by simp)) (fun b o _ e=>u.there b o e (by simp)) u.tups u.frzs u.tbls (fun m' hm=>by
   obtain⟨o',es',ep',ho',r'⟩:=hm;rw[ho]at ho';cases ho'
   exact⟨_,es',ep',hL,r'⟩) hok I.bare
theorem Inv.call {g':Array GenState}{t':Nat}{d':Drawn}{ch:List Addr} (I:Inv X pins σ H s) (u:Un (frs X.stack) ch H H' s.heap h') (hok:HOk X.prog X.w H' h') (hg:AllBare g')
   (hch:∀ b∈ch,(b∈X.ex∨X.s₀.heap.objs.size≤b)∧b≠X.env.locals∧(∀ x c,X.env.cells.lookup x=some c->c≠b)∧∀ p∈X.pn++pins,p.1≠b) :
   Inv X pins σ H' { s with heap:=h',gens:=g',drawn:=d',toks:=t' }:=by
 obtain⟨m,⟨o,es,ep,ho,r⟩,_⟩:=id I.loc;obtain⟨sl,hL⟩:=u.any ho I.free fun z=>(hch _ z).2.1 rfl
 exact I.step (ch:=ch) hch (fun b o hL hb hc e n=>u.keep b o e n (fun z=>(List.mem_cons.mp (I.stkSub b z)).elim hL hb) hc) (fun b o _ _ hc e n=>u.any e n hc) (fun b o hc e n=>u.free b o e n hc) (fun b o hc e=>u.there b o e hc) u.tups u.frzs u.tbls (fun m' hm=>by
   obtain⟨o',es',ep',ho',r'⟩:=hm;rw[ho]at ho';cases ho'
   exact⟨_,es',ep',hL,r'⟩) hok hg
theorem Inv.turned {t':Nat}{it:Addr} (I:Inv X pins σ H s) (k:∀ b o,b≠it->s.heap.get? b=some o->h'.get? b=some o) (hn:H it=none) (hL:it≠X.env.locals)
   (h1:it∈X.ex∨X.s₀.heap.objs.size≤it) (h2:∀ x c,X.env.cells.lookup x=some c->c≠it) (h3:∀ p∈X.pn++pins,p.1≠it):Inv X pins σ H { s with heap:=h',toks:=t' }:=by
 have nit:∀ b u,H b=some u->b≠it:=fun b u e z=>by rw[z,hn]at e;cases e
 refine I.step (g':=s.gens) (d':=s.drawn) (ch:=[it]) (fun b hb=>?_) (fun b o _ _ hc e _=>k b o (fun z=>hc (by simp[z])) e) (fun b o _ _ hc e _=>⟨o.slots,k b o (fun z=>hc (by simp[z])) e⟩) (fun _ _ _ _ n=>n)
   (fun b o hc e=>⟨o,k b o (fun z=>hc (by simp[z])) e⟩) (fun _ _ e=>e) (fun _ _ _ e=>e) (fun b ps e=>⟨#[],by rw[e];simp⟩) (fun m hm=>?_) (fun b u e=>?_) I.bare
 · have e:b=it:=by simpa using hb
   subst e;exact⟨h1,hL,h2,h3⟩
 · obtain⟨o,es,ep,ho,r⟩:=hm;exact⟨o,es,ep,k _ o (Ne.symm hL) ho,r⟩
 · refine(I.hok b u e).stay (fun c v hc q=>k c v ?_ q) (fun _ q=>q) fun _ _ q=>q;rcases hc with z|z
   · rw[z];exact nit b u e
   · exact nit c _ z
theorem Inv.tok (I:Inv X pins σ H s) (t:Nat):Inv X pins σ H { s with toks:=t }:=I.un (h':=s.heap) (t':=t) Un.refl I.hok
theorem Inv.kept {t':Nat} (I:Inv X pins σ H s) (k:∀ b u,s.heap.get? b=some u->h'.get? b=some u):Inv X pins σ H { s with heap:=h',toks:=t' }:=I.un (Un.kept k) (I.hok.kept k)
theorem Inv.laid {a:Addr}{o:HO}{t':Nat} (I:Inv X pins σ H s) (k:∀ b u,s.heap.get? b=some u->h'.get? b=some u) (hp:s.heap.objs.size≤a) (new:ObjOk X.prog X.w (upd H a o) h' a o) :
   Inv X pins σ (upd H a o) { s with heap:=h',toks:=t' }:=I.un (Un.laid k hp (I.hok.fresh hp)) (I.hok.laid k hp new)
theorem Inv.write {x e:Addr}{o:HO}{t':Nat} (I:Inv X pins σ H s) (mu:Mut (H x)) (he:e=x∨H e=some (.own x)) (k:∀ b u,b≠e->s.heap.get? b=some u->h'.get? b=some u) (heo:∃ u,h'.get? e=some u)
   (new:ObjOk X.prog X.w (upd H x o) h' x o):Inv X pins σ (upd H x o) { s with heap:=h',toks:=t' }:=I.un (Un.write mu he k heo) (I.hok.write mu he k heo new)
theorem Inv.pins_of {pins':List (Addr×Obj)} (I:Inv X pins σ H s) (h:∀ p∈pins',s.heap.get? p.1=some p.2∧H p.1=none∧p.1≠X.env.locals∧p.1∉X.fs∧∀ v,p.2.data≠.cell v):Inv X pins' σ H s :=
 ⟨I.ok,I.os,I.bare,I.base,I.loc,I.cell,I.free,I.freeC,fun p hp=>(List.mem_append.mp hp).elim (fun z=>I.pin p (List.mem_append_left _ z)) (h p),I.hok,I.len⟩
theorem qfV {N:List Str} (hN:N.Nodup) {i j:Nat}{x:Str} (a:N[i]?=some x) (b:N[j]?=some x):i=j:=by
 obtain⟨h1,e1⟩:=List.getElem?_eq_some_iff.mp a;obtain⟨h2,e2⟩:=List.getElem?_eq_some_iff.mp b;exact(List.getElem_inj hN).mp (e1.trans e2.symm)
theorem qg8 {M:Model}{A:Around}{E:Value->Shared->Prop}{i:Nat}{x:Str}{v:V}{u:Value}{Q:Unit->Shared->Prop} (I:Inv X pins σ H s) (hN:X.N.Nodup) (hi:X.N[i]?=some x) (hx:Loc X.env.scope x) (r:RelV v u)
   (h:∀ s',Inv X pins (σ.set i (some v)) H s'->(∃ a,Heap.SameBut a s.heap s'.heap∧(a=X.env.locals∨X.env.cells.lookup x=some a))->Q () s') (hf:X.fn x=true∨X.env.scope.names.lookup x=some .local:=by first|exact .inl rfl|exact .inr rfl|assumption):wpAny M A (storeName X.env x u) Q E s:=by
 obtain⟨m,hn,hl⟩:=id I.loc;have hcls:(X.env.scope.kind == .class || (X.env.scope.kind == .module && X.env.locals != X.env.globals))=false:=by rw[I.ok.kind];rfl
 have hiσ:i < σ.length:=by rw[I.len];exact(List.getElem?_eq_some_iff.mp hi).1
 have cne:=I.cne
 have tracked:∀ {a:Addr}{h':Heap},(∃ o,s.heap.get? a=some o∧H a=none)->Heap.SameBut a s.heap h'->HOk X.prog X.w H h':=fun {a h'} ha hs b ob e=>by
   obtain⟨_,_,hfree⟩:=ha;refine(I.hok b ob e).stay (fun c w' hc q=>(hs.2 c ?_).trans q) (fun _ q=>q) fun _ _ q=>q;rintro rfl;rcases hc with rfl|hc
   · rw[hfree]at e;cases e
   · rw[hfree]at hc;cases hc
 rcases hx with hk|hk
 · refine wpAny_storeName_local hk hn (fun h' hn' hs=>?_) hcls;obtain⟨oL,_,_,hoL,_⟩:=id hn;refine h _ ⟨I.ok,I.os,I.bare,⟨fun b o e n hb hx=>?_,fun b o e n hb hx=>?_,I.base.free,fun b o e hx=>?_,I.base.tups,I.base.frzs,I.base.tbls⟩,⟨_,hn',fun j y v' e1 e2 e3=>?_⟩,fun y c e=>?_,I.free,I.freeC,fun p hp=>?_,tracked ⟨oL,hoL,I.free⟩ hs,by simpa using I.len⟩ ⟨_,hs,.inl rfl⟩
   · exact(hs.2 b (Nat.ne_of_lt (Nat.lt_of_lt_of_le (Heap.lt_size e) I.ok.above))).trans (I.base.keep b o e n hb hx)
   · obtain⟨sl,e1⟩:=I.base.slot b o e n hb hx;exact⟨sl,(hs.2 b (Nat.ne_of_lt (Nat.lt_of_lt_of_le (Heap.lt_size e) I.ok.above))).trans e1⟩
   · obtain⟨o',e1⟩:=I.base.there b o e hx;exact⟨o',(hs.2 b (Nat.ne_of_lt (Nat.lt_of_lt_of_le (Heap.lt_size e) I.ok.above))).trans e1⟩
   · by_cases hj:j=i
     · subst hj;rw[hi]at e1;cases e1;rw[List.getElem?_set_self hiσ]at e2;cases e2;exact⟨u,r,.inl ⟨hk,by simp⟩⟩
     · rw[List.getElem?_set_ne (Ne.symm hj)]at e2;obtain⟨u',r',q⟩:=hl j y v' e1 e2 e3;refine⟨u',r',?_⟩;rcases q with ⟨k,e⟩|⟨k,c,e,z⟩
       · refine .inl ⟨k,?_⟩
         have:y≠x:=fun e=>hj (qfV hN e1 (e▸hi))
         simp[this,e]
       · exact .inr ⟨k,c,e,z.sameBut hs (cne y c e)⟩
   · obtain⟨w',z⟩:=I.cell y c e;exact⟨w',z.sameBut hs (cne y c e)⟩
   · obtain⟨e,n,ne,nf,d⟩:=I.pin p hp;exact⟨(hs.2 p.1 ne).trans e,n,ne,nf,d⟩
 · have hfn:X.fn x=true:=by
     rcases hf with z|z
     · exact z
     · rw[z]at hk;cases hk
   obtain⟨c,hc⟩:=I.ok.has x (.inl hk);obtain⟨w',z⟩:=I.cell x c hc;refine wpAny_storeName_cell I.ok.kind hk hc z (fun h' hc' hs=>?_);obtain⟨oc,hoc,hocd⟩:=id z;refine h { s with heap:=h' } ⟨I.ok,I.os,I.bare,⟨fun b o e n hb hx=>?_,fun b o e n hb hx=>?_,I.base.free,fun b o e hx=>?_,I.base.tups,I.base.frzs,I.base.tbls⟩,⟨m,hn.sameBut hs (Ne.symm (cne x c hc)),fun j y v' e1 e2 e3=>?_⟩,fun y c' e=>?_,I.free,I.freeC,fun p hp=>?_,tracked ⟨oc,hoc,I.freeC x c hc⟩ hs,by simpa using I.len⟩ ⟨c,hs,.inr hc⟩
   · exact(hs.2 b (Nat.ne_of_lt (Nat.lt_of_lt_of_le (Heap.lt_size e) (I.ok.cab x c hfn hc)))).trans (I.base.keep b o e n hb hx)
   · obtain⟨sl,e1⟩:=I.base.slot b o e n hb hx;exact⟨sl,(hs.2 b (Nat.ne_of_lt (Nat.lt_of_lt_of_le (Heap.lt_size e) (I.ok.cab x c hfn hc)))).trans e1⟩
   · obtain⟨o',e1⟩:=I.base.there b o e hx;exact⟨o',(hs.2 b (Nat.ne_of_lt (Nat.lt_of_lt_of_le (Heap.lt_size e) (I.ok.cab x c hfn hc)))).trans e1⟩
   · by_cases hj:j=i
     · subst hj;rw[hi]at e1;cases e1;rw[List.getElem?_set_self hiσ]at e2;cases e2;exact⟨u,r,.inr ⟨.inl hk,c,hc,hc'⟩⟩
     · rw[List.getElem?_set_ne (Ne.symm hj)]at e2;obtain⟨u',r',q⟩:=hl j y v' e1 e2 e3;refine⟨u',r',?_⟩;rcases q with q|⟨k,c',e,z'⟩
       · exact .inl q
       · refine .inr ⟨k,c',e,z'.sameBut hs ?_⟩;rintro rfl;exact hj (qfV hN e1 (I.ok.inj _ _ _ e hc▸hi))
   · by_cases hcc:c'=c
     · subst hcc;exact⟨_,hc'⟩
     · obtain⟨w2,z2⟩:=I.cell y c' e;exact⟨w2,z2.sameBut hs hcc⟩
   · obtain⟨e,n,ne,nf,d⟩:=I.pin p hp;refine⟨(hs.2 p.1 ?_).trans e,n,ne,nf,d⟩;intro q;rw[q,hoc]at e;have q':oc=p.2:=Option.some.inj e;exact d w' (by rw[← q'];exact hocd)
theorem jG {M:Model}{A:Around}{E:Value->Shared->Prop}{i:Nat}{x:Str}{v:V}{u:Value}{Q:Unit->Shared->Prop} (I:Inv X pins σ H s) (hN:X.N.Nodup) (hi:X.N[i]?=some x) (hx:Loc X.env.scope x) (r:RelV v u)
   (h:∀ s',Inv X pins (σ.set i (some v)) H s'->Q () s') (hf:X.fn x=true∨X.env.scope.names.lookup x=some .local:=by first|exact .inl rfl|exact .inr rfl|assumption):wpAny M A (storeName X.env x u) Q E s :=
 qg8 I hN hi hx r (fun s' I' _=>h s' I') hf
theorem Inv.call' {s':Shared}{ch:List Addr} (I:Inv X pins σ H s) (ho:s'.os=s.os) (u:Un (frs X.stack) ch H H' s.heap s'.heap) (hok:HOk X.prog X.w H' s'.heap) (hg:AllBare s'.gens)
   (hch:∀ b∈ch,(b∈X.ex∨X.s₀.heap.objs.size≤b)∧b≠X.env.locals∧(∀ x c,X.env.cells.lookup x=some c->c≠b)∧∀ p∈X.pn++pins,p.1≠b):Inv X pins σ H' s':=by
 obtain⟨h',g',d',t',o'⟩:=s';have e:o'=s.os:=ho;subst e;exact I.call (g':=g') (t':=t') (d':=d') u hok hg hch
end
abbrev XK:=Value->Option Addr->Hp->Prop
abbrev St:=List (Option V)
abbrev VK:=V->Hp->Prop
abbrev TE:=St->Hp->VK->Prop
abbrev TT:=St->Hp->(Bool->Hp->Prop)->Prop
abbrev TA:=St->Hp->(List V->Hp->Prop)->Prop
structure qgS where
 nx:St->Hp->Prop
 rt:VK
 bk:St->Hp->Prop:=fun _ _=>False
 ct:St->Hp->Prop:=fun _ _=>False
abbrev TS:=qgS->St->Hp->Prop
inductive qnF (X:Cx) (pins:List (Addr×Obj)) (σ:St) (Q:VK) (u:Value) (s':Shared):Prop
 | mk (v H':_) (h1:Inv X pins σ H' s') (h2:RelV v u) (h3:Q v H'):qnF X pins σ Q u s'
def EP (X:Cx) (pins:List (Addr×Obj)) (σ:St) (Q:VK) (u:Value) (s':Shared):Prop:=qnF X pins σ Q u s'
def TP (X:Cx) (pins:List (Addr×Obj)) (σ:St) (Q:Bool->Hp->Prop) (b:Bool) (s':Shared):Prop:=∃ H',Inv X pins σ H' s'∧Q b H'
inductive qnG (X:Cx) (pins:List (Addr×Obj)) (σ:St) (Q:List V->Hp->Prop) (us:List Value) (s':Shared):Prop
 | mk (vs H':_) (h1:Inv X pins σ H' s') (h2:Vals vs us) (h3:Q vs H'):qnG X pins σ Q us s'
def AP (X:Cx) (pins:List (Addr×Obj)) (σ:St) (Q:List V->Hp->Prop) (us:List Value) (s':Shared):Prop:=qnG X pins σ Q us s'
def SP (X:Cx) (pins:List (Addr×Obj)) (D:qgS) (f:Flow) (s':Shared):Prop :=
 match f with
 | .next=>∃ σ' H',Inv X pins σ' H' s'∧D.nx σ' H'
 | .brk=>∃ σ' H',Inv X pins σ' H' s'∧D.bk σ' H'
 | .cont=>∃ σ' H',Inv X pins σ' H' s'∧D.ct σ' H'
 | .ret u=>∃ v σ' H',Inv X pins σ' H' s'∧RelV v u∧D.rt v H'
def PE (X:Cx) (e:Expr) (t:TE):Prop :=
 ∀ (pins:List (Addr×Obj)) (s:Shared) (σ:St) (H:Hp) (Q:VK),Inv X pins σ H s->t σ H Q->wpAny (model X.prog X.w) X.A (eval e X.env) (EP X pins σ Q) X.xe s
def PT (X:Cx) (e:Expr) (t:TT):Prop :=
 ∀ (pins:List (Addr×Obj)) (s:Shared) (σ:St) (H:Hp) (Q:Bool->Hp->Prop),Inv X pins σ H s->t σ H Q->wpAny (model X.prog X.w) X.A (isTrue e X.env (eval e X.env)) (TP X pins σ Q) X.xe s
def PW (X:Cx) (e:Expr) (t:TT):Prop :=
 ∀ (whole:Sem Value) (pins:List (Addr×Obj)) (s:Shared) (σ:St) (H:Hp) (Q:Bool->Hp->Prop),Inv X pins σ H s->t σ H Q->wpAny (model X.prog X.w) X.A (isTrue e X.env whole) (TP X pins σ Q) X.xe s
theorem PW.pt {X:Cx}{e:Expr}{t:TT} (h:PW X e t):PT X e t:=h _
def PA (X:Cx) (es:List Expr) (t:TA):Prop :=
 ∀ (pos:Pos) (pins:List (Addr×Obj)) (s:Shared) (σ:St) (H:Hp) (Q:List V->Hp->Prop),Inv X pins σ H s->t σ H Q->wpAny (model X.prog X.w) X.A (spliced (backTo pos (starEach es X.env))) (AP X pins σ Q) X.xe s
def PS (X:Cx) (st:Stmt) (t:TS):Prop :=
 ∀ (pins:List (Addr×Obj)) (s:Shared) (σ:St) (H:Hp) (D:qgS),Inv X pins σ H s->t D σ H->wpAny (model X.prog X.w) X.A (exec st X.env) (SP X pins D) X.xe s
def PSs (X:Cx) (st:List Stmt) (t:TS):Prop :=
 ∀ (pins:List (Addr×Obj)) (s:Shared) (σ:St) (H:Hp) (D:qgS),Inv X pins σ H s->t D σ H->wpAny (model X.prog X.w) X.A (execs st X.env) (SP X pins D) X.xe s
theorem thn {α:Type}{t:Sem α}{Q Q':α->Shared->Prop}{M:Model}{A:Around}{E:Value->Shared->Prop}{s:Shared} (h:wpAny M A t Q E s) (hQ:∀ a s,Q a s->Q' a s):wpAny M A t Q' E s:=wpAny_mono h hQ fun _ _ x=>x
section
variable {X:Cx}
inductive qjG (i:Nat) (σ:St) (H:Hp) (Q:VK):Prop
 | mk (v:_) (h1:σ[i]?=some (some v)) (h2:Q v H):qjG i σ H Q
def qmA (i:Nat):TE:=fun σ H Q=>qjG i σ H Q
def tC (v:V):TE:=fun _ H Q=>Q v H
theorem ql1 {i:Nat}{x:Str}{pos:Pos} (hN:X.N[i]?=some x) (hv:Vis X.env.scope x) (hd:(x == ("__debug__":Str))=false:=by decide) (hcd:(x == ("__classdict__":Str))=false:=by decide):PE X (.Name x pos) (qmA i):=by
 intro pins s σ H Q I h;obtain⟨v,e,h⟩:=h;obtain⟨m,hn,hl⟩:=I.loc;obtain⟨u,r,l⟩:=hl i x v hN e hv;have fin:EP X pins σ Q u s:=⟨v,H,I,r,h⟩
 rcases l with ⟨hk,hm⟩|⟨hk,c,hc,hcell⟩
 · exact wpAny_Name (wpAny_loadName_local I.ok.kind hk hn hm fin) hd
 · rcases hk with hk|hk
   · exact wpAny_Name (wpAny_loadName_cell I.ok.kind hk hc hcell fin) hd
   · exact wpAny_Name (wpAny_loadName_free I.ok.kind hk hc hcell fin hcd) hd
theorem qe {i j pos}:PE X (.Constant (.int i) j pos) (tC (.int i)):=fun _ _ _ H _ I h=>wpAny_Constant_int ⟨.int i,H,I.tok _,⟨_,rfl⟩,h⟩
theorem Z2 {b j pos}:PE X (.Constant (.bool b) j pos) (tC (.bl b)):=fun _ _ _ H _ I h=>Constant_bool ⟨.bl b,H,I,rfl,h⟩
theorem ql4 {j pos}:PE X (.Constant .none j pos) (tC .non):=fun _ _ _ H _ I h=>Constant_none ⟨.non,H,I,rfl,h⟩
theorem q9 {x j pos}:PE X (.Constant (.str x) j pos) (tC (.str x)):=fun _ _ _ H _ I h=>Calls.Constant_str ⟨.str x,H,I.tok _,⟨_,rfl⟩,h⟩
def Gl (X:Cx) (x:Str):Prop:=X.env.kindOf x=some .globalImplicit
theorem ZO {E:Value->Shared->Prop}{pins:List (Addr×Obj)}{s:Shared}{σ:St}{H:Hp}{x:Str}{u:Value}{pos:Pos}{Q:Value->Shared->Prop} (I:Inv X pins σ H s) (hg:Gl X x) (hm:X.mg x=some u) (h:Q u s)
   (hd:(x == ("__debug__":Str))=false:=by decide):wpAny (model X.prog X.w) X.A (eval (.Name x pos) X.env) Q E s :=
 Calls.Name_function_global I.ok.kind hg (Calls.loadGlobal_global (by rw[I.ok.glob];exact I.mod.glob.keeps I.bk) hm h) hd
theorem qab {E:Value->Shared->Prop}{pins:List (Addr×Obj)}{s:Shared}{σ:St}{H:Hp}{x:Str}{u:Value}{pos:Pos}{Q:Value->Shared->Prop} (I:Inv X pins σ H s) (hg:Gl X x) (hm:X.mg x=none) (hv:bootBuiltins x=some u) (h:Q u s)
   (hn:x≠"__name__":=by decide) (hd:(x == ("__debug__":Str))=false:=by decide):wpAny (model X.prog X.w) X.A (eval (.Name x pos) X.env) Q E s:=by
 obtain⟨mb,h1,h2⟩:=I.mod.blt;exact Calls.Name_function_global I.ok.kind hg (Calls.loadGlobal_builtin (by rw[I.ok.glob];exact I.mod.glob.keeps I.bk) hm (by rw[I.ok.blt];exact h1.keeps I.bk) ((h2 x hn).trans hv) h) hd
theorem za {x:Str}{v:V}{u:Value}{pos:Pos} (hg:Gl X x) (hm:X.mg x=some u) (r:RelV v u) (hd:(x == ("__debug__":Str))=false:=by decide):PE X (.Name x pos) (tC v) :=
 fun _ _ _ H _ I h=>ZO I hg hm ⟨v,H,I,r,h⟩ hd
theorem Qc {x:Str}{v:V}{u:Value}{pos:Pos} (hg:Gl X x) (hm:X.mg x=none) (hv:bootBuiltins x=some u) (r:RelV v u) (hn:x≠"__name__":=by decide) (hd:(x == ("__debug__":Str))=false:=by decide):PE X (.Name x pos) (tC v) :=
 fun _ _ _ H _ I h=>qab I hg hm hv ⟨v,H,I,r,h⟩ hn hd
variable {a b:Expr}{ta tb:TE}{pos:Pos}
inductive qni (Q:(Bool->Hp->Prop)) (x:V) (H1:Hp):Prop
 | mk (c:_) (h1:x=.bl c) (h2:Q c H1):qni Q x H1
def tB (t:TE):TT:=fun σ H Q=>t σ H fun x H1=>qni Q x H1
theorem q8 {e:Expr}{t:TE} (h:PE X e t) (he:∀ whole,isTrue e X.env whole=(do let v ← whole;standAt e.pos;holding [v] (truthy v)):=by intro _;rfl):PT X e (tB t):=by
 intro pins s σ H Q I hw;refine isTrue_plain (thn (h pins s σ H _ I hw) fun v s1 zz_=>?_) (he _);obtain⟨x,H1,I1,r1,q1⟩:=zz_;obtain⟨d,rfl,q⟩:=q1;cases r1;exact wpAny_truthy_bool ⟨H1,I1,q⟩
variable {tA tB':TT}{rest:List Expr}
def qnP (t u:TT):TT:=fun σ H Q=>t σ H fun c H1=>if c=true then u σ H1 Q else Q false H1
def tOr (t u:TT):TT:=fun σ H Q=>t σ H fun c H1=>if c=true then Q true H1 else u σ H1 Q
def qnL (t:TT):TT:=fun σ H Q=>t σ H fun c H1=>Q (!c) H1
theorem ZI (ha:PT X a tA):PW X (.BoolOp .And [a] pos) tA:=by
 intro wh pins s σ H Q I h;refine isTrue_and (thn (ha pins s σ H Q I h) fun c s1 e=>?_)
 cases c with
 | true=>exact isTrue_and_nil e
 | false=>exact e
theorem Zf (ha:PT X a tA):PW X (.BoolOp .Or [a] pos) tA:=by
 intro wh pins s σ H Q I h;refine isTrue_or (thn (ha pins s σ H Q I h) fun c s1 e=>?_)
 cases c with
 | false=>exact isTrue_or_nil e
 | true=>exact e
theorem J1 (ha:PT X a tA) (hb:PW X (.BoolOp .And (b::rest) pos) tB'):PW X (.BoolOp .And (a::b::rest) pos) (qnP tA tB'):=by
 intro wh pins s σ H Q I h;refine isTrue_and (thn (ha pins s σ H _ I h) fun c s1 zz_=>?_);obtain⟨H1,I1,q1⟩:=zz_
 cases c with
 | true=>exact hb wh pins s1 σ H1 Q I1 q1
 | false=>exact⟨H1,I1,q1⟩
theorem Zh (ha:PT X a tA) (hb:PW X (.BoolOp .Or (b::rest) pos) tB'):PW X (.BoolOp .Or (a::b::rest) pos) (tOr tA tB'):=by
 intro wh pins s σ H Q I h;refine isTrue_or (thn (ha pins s σ H _ I h) fun c s1 zz_=>?_);obtain⟨H1,I1,q1⟩:=zz_
 cases c with
 | true=>exact⟨H1,I1,q1⟩
 | false=>exact hb wh pins s1 σ H1 Q I1 q1
theorem zc (ha:PT X a tA):PT X (.UnaryOp .Not a pos) (qnL tA):=by
 intro pins s σ H Q I h;exact isTrue_not (ha pins s σ H (fun c H1=>Q (!c) H1) I h)
def qmS (ta tb:TE):TE:=fun σ H Q=>ta σ H fun x H1=>∃ c,x=.bl c∧if c=true then tb σ H1 Q else Q (.bl false) H1
inductive qg6 (Q:VK) (x:V) (H1:Hp):Prop
 | mk (c:_) (h1:x=.bl c) (h2:Q (.bl (!c)) H1):qg6 Q x H1
def qmO (ta:TE):TE:=fun σ H Q=>ta σ H fun x H1=>qg6 Q x H1
theorem qch {op}{t:TE} (h:PE X a t):PE X (.BoolOp op [a] pos) t:=fun pins s σ H Q I hw=>BoolOp_one (h pins s σ H Q I hw)
theorem J6 (ha:PE X a ta) (hb:PE X (.BoolOp .And (b::rest) pos) tb):PE X (.BoolOp .And (a::b::rest) pos) (qmS ta tb):=by
 intro pins s σ H Q I h;refine BoolOp_and (thn (ha pins s σ H _ I h) fun v s1 zz_=>?_);obtain⟨x,H1,I1,r1,q1⟩:=zz_;obtain⟨c,rfl,q1⟩:=q1;cases r1;refine wpAny_truthy_bool ?_
 cases c with
 | true=>exact hb pins s1 σ H1 Q I1 q1
 | false=>exact⟨.bl false,H1,I1,rfl,q1⟩
theorem ql3 (ha:PE X a ta):PE X (.UnaryOp .Not a pos) (qmO ta):=by
 intro pins s σ H Q I h;refine UnaryOp_ (thn (ha pins s σ H _ I h) fun v s1 zz_=>?_);obtain⟨x,H1,I1,r1,q1⟩:=zz_;obtain⟨c,rfl,q1⟩:=q1;cases r1;exact not_of (wpAny_truthy_bool ⟨.bl (!c),H1,I1,rfl,q1⟩)
end
def SqL (K:Frag) (H:Hp) (a:Addr) (xs:List V):Prop :=
 Rd H a (.lst xs) ∨
   ∃ (o:Obj) (its:Array Value) (n:Nat),K.lookup a=some o∧o.cls=.type "list"∧o.dict=none∧o.data=.seq its n∧its.size≤sizeLine∧Vals xs its.toList
def SqT (K:Frag) (H:Hp) (a:Addr) (xs:List V):Prop :=
 Rd H a (.tup xs) ∨
   ∃ (o:Obj) (its:Array Value) (n:Nat),K.lookup a=some o∧o.cls=.type "tuple"∧o.data=.seq its n∧its.size≤sizeLine∧Vals xs its.toList
def qn5:Value->Option V
 | .none=>some .non
 | .bool b=>some (.bl b)
 | .int i _=>some (.int i)
 | .str x _=>some (.str x)
 | .bytes b _=>some (.byt b)
 | .float b _=>some (.flt b)
 | .ref a=>some (.ref a)
 | .type n=>some (.ty n)
 | _=>none
theorem RelV.abs {x:V}{u:Value} (r:RelV x u):qn5 u=some x:=by
 cases x with
 | non=>cases r;rfl
 | bl _=>cases r;rfl
 | int _=>obtain⟨t,rfl⟩:=r;rfl
 | str _=>obtain⟨t,rfl⟩:=r;rfl
 | byt _=>obtain⟨t,rfl⟩:=r;rfl
 | flt _=>obtain⟨t,rfl⟩:=r;rfl
 | ref _=>cases r;rfl
 | ty _=>cases r;rfl
theorem RelV.inj {x y:V}{u:Value} (r:RelV x u) (q:RelV y u):x=y:=Option.some.inj (r.abs.symm.trans q.abs)
theorem Vals.inj:∀ {xs ys:List V}{us:List Value},Vals xs us->Vals ys us->xs=ys
 | _,_,_,.nil,.nil=>rfl
 | _,_,_,.cons r t,.cons r' t'=>by rw[r.inj r',Vals.inj t t']
section
variable {X:Cx}{pins:List (Addr×Obj)}{σ:St}{H:Hp}{s:Shared}{a:Addr}{xs ys:List V}
theorem SqL.of {K:Frag} (h:H a=some (.lst xs)):SqL K H a xs:=.inl (.inl h)
theorem SqT.of {K:Frag} (h:H a=some (.tup xs)):SqT K H a xs:=.inl (.inl h)
theorem Inv.list (I:Inv X pins σ H s) (h:SqL X.K H a xs):∃ its:List Value,Vals xs its∧PlainL s.heap a its.toArray∧xs.length≤sizeLine:=by
 rcases h with h|⟨o,its,n,hk,hc,hd,hs,hz,r⟩
 · obtain⟨z,its,n,r,e⟩:=h.ok I.hok;exact⟨its,r,⟨_,n,e,rfl,rfl,rfl⟩,z⟩
 · refine⟨its.toList,r,⟨o,n,I.kIn a o hk,hc,hd,by simpa using hs⟩,?_⟩;have e:=r.length;simp only[Array.length_toList]at e;omega
theorem Inv.tuple (I:Inv X pins σ H s) (h:SqT X.K H a xs):∃ its:List Value,Vals xs its∧IsTup s.heap a its.toArray∧xs.length≤sizeLine:=by
 rcases h with h|⟨o,its,n,hk,hc,hs,hz,r⟩
 · obtain⟨z,its,r,p⟩:=h.ok I.hok;exact⟨its,r,p,z⟩
 · refine⟨its.toList,r,⟨o,I.kIn a o hk,hc,n,by simpa using hs⟩,?_⟩;have e:=r.length;simp only[Array.length_toList]at e;omega
theorem Inv.list_inj (I:Inv X pins σ H s) (h:SqL X.K H a xs) (h':SqL X.K H a ys):xs=ys:=by
 obtain⟨its,r,⟨o,n,e,_,_,d⟩,_⟩:=I.list h;obtain⟨its',r',⟨o',n',e',_,_,d'⟩,_⟩:=I.list h';rw[e]at e';cases e';rw[d]at d';injection d' with d1 _
 have:its=its':=by simpa using congrArg Array.toList d1
 subst this;exact r.inj r'
theorem Inv.tuple_inj (I:Inv X pins σ H s) (h:SqT X.K H a xs) (h':SqT X.K H a ys):xs=ys:=by
 obtain⟨its,r,⟨o,e,_,n,d⟩,_⟩:=I.tuple h;obtain⟨its',r',⟨o',e',_,n',d'⟩,_⟩:=I.tuple h';rw[e]at e';cases e';rw[d]at d';injection d' with d1 _
 have:its=its':=by simpa using congrArg Array.toList d1
 subst this;exact r.inj r'
end
abbrev Cx.wish (X:Cx) (E:Value->Shared->Prop):Cx:={ X with xe:=E }
abbrev Cx.nox (X:Cx):Cx:=X.wish fun _ _=>False
theorem Cx.Ok.wish {X:Cx} (ok:X.Ok) (E:Value->Shared->Prop):(X.wish E).Ok :=
 ⟨ok.mod,ok.kind,ok.glob,ok.blt,ok.above,ok.inj,ok.has,ok.cab,ok.hd,ok.frames,ok.stk,ok.exf,ok.bs,ok.bsz,ok.noex,ok.exfs,ok.funs,ok.frf⟩
theorem Cx.Ok.unwish {X:Cx}{E:Value->Shared->Prop} (ok:(X.wish E).Ok):X.Ok :=
 ⟨ok.mod,ok.kind,ok.glob,ok.blt,ok.above,ok.inj,ok.has,ok.cab,ok.hd,ok.frames,ok.stk,ok.exf,ok.bs,ok.bsz,ok.noex,ok.exfs,ok.funs,ok.frf⟩
section
variable {X:Cx}{pins:List (Addr×Obj)}{σ:St}{H:Hp}{s:Shared}{E:Value->Shared->Prop}
theorem Inv.wish (I:Inv X pins σ H s) (E:Value->Shared->Prop):Inv (X.wish E) pins σ H s:=⟨I.ok.wish E,I.os,I.bare,I.base,I.loc,I.cell,I.free,I.freeC,I.pin,I.hok,I.len⟩
theorem Inv.unwish (I:Inv (X.wish E) pins σ H s):Inv X pins σ H s:=⟨I.ok.unwish,I.os,I.bare,I.base,I.loc,I.cell,I.free,I.freeC,I.pin,I.hok,I.len⟩
theorem SP.unwish {D:qgS}{f:Flow}{s':Shared} (h:SP (X.wish E) pins D f s'):SP X pins D f s':=by
 cases f with
 | next=>obtain⟨σ',H',I,q⟩:=h;exact⟨σ',H',I.unwish,q⟩
 | brk=>obtain⟨σ',H',I,q⟩:=h;exact⟨σ',H',I.unwish,q⟩
 | cont=>obtain⟨σ',H',I,q⟩:=h;exact⟨σ',H',I.unwish,q⟩
 | ret u=>obtain⟨v,σ',H',I,r,q⟩:=h;exact⟨v,σ',H',I.unwish,r,q⟩
theorem PSs.nox {st:List Stmt}{t:TS} (h:PSs X.nox st t):PSs X st t:=fun pins s σ H D I hw =>
 wpAny_mono (h pins s σ H D (I.wish _) hw) (fun _ _ q=>q.unwish) fun _ _ z=>False.elim z
end
section
variable {X:Cx}{st:Stmt}{rest:List Stmt}{t u:TS}{e:Expr}{te:TE}{pos:Pos}
def qP:TS:=fun D σ H=>D.nx σ H
def qmK (t u:TS):TS:=fun D σ H=>t { D with nx:=u D } σ H
theorem qx:PSs X [] qP:=fun _ _ σ H _ I h=>wpAny_execs_nil ⟨σ,H,I,h⟩
theorem qc (h1:PS X st t) (h2:PSs X rest u):PSs X (st::rest) (qmK t u):=by
 intro pins s σ H D I h;refine wpAny_execs_cons (thn (h1 pins s σ H { D with nx:=u D } I h) fun f s1 q=>?_)
 cases f with
 | next =>
   obtain⟨σ',H',I',q⟩:=q;exact h2 pins s1 σ' H' D I' q
 | ret v=>exact q
 | brk=>exact q
 | cont=>exact q
theorem qf (h1:PS X st t):PSs X [st] t:=by
 intro pins s σ H D I h;refine wpAny_execs_cons (thn (h1 pins s σ H D I h) fun f s1 q=>?_)
 cases f with
 | next=>exact wpAny_execs_nil q
 | ret v=>exact q
 | brk=>exact q
 | cont=>exact q
theorem Inv.quiet {pins:List (Addr×Obj)}{σ:St}{H:Hp}{s:Shared} (I:Inv X pins σ H s):interactive X.env=false:=by simp[interactive,I.ok.kind]
def qmP (te:TE):TS:=fun D σ H=>te σ H fun _ H1=>D.nx σ H1
theorem qA (he:PE X e te) (hs:swapsWith e none pos.line X.env=pure false:=by rfl):PS X (.Expr e pos) (qmP te):=by
 intro pins s σ H D I h;exact wpAny_Expr_any (thn (he pins s σ H _ I h) fun v s1 ⟨x,H1,I1,r1,q1⟩=>⟨σ,H1,I1,q1⟩) I.quiet hs
def qmM (te:TE):TS:=fun D σ H=>te σ H D.rt
theorem qu (he:PE X e te):PS X (.Return (some e) pos) (qmM te):=by
 intro pins s σ H D I h;exact wpAny_Return_some (thn (he pins s σ H _ I h) fun v s1 ⟨x,H1,I1,r1,q1⟩=>⟨x,σ,H1,I1,r1,q1⟩)
def qmL:TS:=fun D _ H=>D.rt .non H
theorem qkH:PS X (.Return none pos) qmL:=fun _ _ σ H _ I h=>wpAny_Return_none ⟨.non,σ,H,I,rfl,h⟩
def qmB (c:TT) (t u:TS):TS:=fun D σ H=>c σ H fun b H1=>if b=true then t D σ H1 else u D σ H1
theorem qU {c:Expr}{a b:List Stmt}{tc:TT} (hc:PT X c tc) (ha:PSs X a t) (hb:PSs X b u):PS X (.If c a b pos) (qmB tc t u):=by
 intro pins s σ H D I h;refine wpAny_If (thn (hc pins s σ H _ I h) fun d s1 zz_=>?_);obtain⟨H1,I1,q1⟩:=zz_
 cases d with
 | true=>exact ha pins s1 σ H1 D I1 q1
 | false=>exact hb pins s1 σ H1 D I1 q1
def qlD:TS:=fun _ _ _=>False
theorem qV:PS X st qlD:=fun _ _ _ _ _ _ h=>h.elim
end
abbrev TG:=V->St->Hp->(St->Hp->Prop)->Prop
abbrev TGs:=List V->St->Hp->(St->Hp->Prop)->Prop
def PG (X:Cx) (target:Expr) (t:TG):Prop :=
 ∀ (pins:List (Addr×Obj)) (s:Shared) (σ:St) (H:Hp) (v:V) (u:Value) (Q:St->Hp->Prop),Inv X pins σ H s->RelV v u->t v σ H Q ->
   wpAny (model X.prog X.w) X.A (assign target X.env u) (fun _ s'=>∃ σ' H',Inv X pins σ' H' s'∧Q σ' H') X.xe s
def PGs (X:Cx) (ts:List Expr) (t:TGs):Prop :=
 ∀ (pins:List (Addr×Obj)) (s:Shared) (σ:St) (H:Hp) (vs:List V) (us:List Value) (Q:St->Hp->Prop),Inv X pins σ H s->Vals vs us->t vs σ H Q ->
   wpAny (model X.prog X.w) X.A (assignInOrder ((assignEach ts X.env).map (·.2)) us) (fun _ s'=>∃ σ' H',Inv X pins σ' H' s'∧Q σ' H') X.xe s
abbrev qng:=V->V->V->Hp->(Hp->Prop)->Prop
def qnC (X:Cx) (t:qng):Prop :=
 ∀ (pins:List (Addr×Obj)) (s:Shared) (σ:St) (H:Hp) (o i v:V) (ov iv u:Value) (Q:Hp->Prop),Inv X pins σ H s->RelV o ov->RelV i iv->RelV v u->t o i v H Q ->
   wpAny (model X.prog X.w) X.A (setItem ov iv u) (fun _ s'=>∃ H',Inv X pins σ H' s'∧Q H') X.xe s
abbrev TIp:=V->V->Hp->VK->Prop
def PIp (X:Cx) (op:Operator) (t:TIp):Prop :=
 ∀ (pins:List (Addr×Obj)) (s:Shared) (σ:St) (H:Hp) (x y:V) (v u:Value) (Q:VK),Inv X pins σ H s->RelV x v->RelV y u->t x y H Q ->
   wpAny (model X.prog X.w) X.A (inplaceOp op v u) (EP X pins σ Q) X.xe s
section
variable {X:Cx}{pos:Pos}
def qjt (i:Nat):TG:=fun v σ H Q=>Q (σ.set i (some v)) H
theorem qt {i:Nat}{x:Str} (hN:X.N.Nodup) (hi:X.N[i]?=some x) (hx:Loc X.env.scope x) (hf:X.fn x=true∨X.env.scope.names.lookup x=some .local:=by first|exact .inl rfl|exact .inr rfl|assumption):PG X (.Name x pos) (qjt i):=by
 intro pins s σ H v u Q I r h;exact wpAny_assign_Name (jG I hN hi hx r (fun s' I'=>⟨_,H,I',h⟩) hf)
def qn1:TGs:=fun vs σ H Q=>vs=[]∧Q σ H
inductive qh9 (t:TG) (u:TGs) (vs:List V) (σ:St) (H:Hp) (Q:(St->Hp->Prop)):Prop
 | mk (v r:_) (h1:vs=v::r) (h2:t v σ H fun σ' H'=>u r σ' H' Q):qh9 t u vs σ H Q
def qm8 (t:TG) (u:TGs):TGs:=fun vs σ H Q=>qh9 t u vs σ H Q
theorem zx:PGs X [] qn1:=by
 intro pins s σ H vs us Q I r h;obtain⟨e,h⟩:=h;subst e;cases r;exact assignInOrder_nil ⟨σ,H,I,h⟩
theorem qC {e:Expr}{es:List Expr}{t:TG}{u:TGs} (h1:PG X e t) (h2:PGs X es u)
   (hs:(assignEach (e::es) X.env).map (·.2)=assign e X.env::(assignEach es X.env).map (·.2):=by rfl):PGs X (e::es) (qm8 t u):=by
 intro pins s σ H vs us Q I r h;obtain⟨v,vr,e1,h⟩:=h;subst e1
 cases r with
 | cons r rr =>
   rw[hs];refine assignInOrder_cons (thn (h1 pins s σ H _ _ _ I r h) fun _ s1 zz_=>?_);obtain⟨σ1,H1,I1,q1⟩:=zz_;exact h2 pins s1 σ1 H1 _ _ Q I1 rr q1
inductive qkb (K:Frag) (n:Nat) (t:TGs) (v:V) (σ:St) (H:Hp) (Q:(St->Hp->Prop)):Prop
 | mk (a xs:_) (h1:v=.ref a) (h2:SqT K H a xs) (h3:xs.length=n) (h4:t xs σ H Q):qkb K n t v σ H Q
def qjs (K:Frag) (n:Nat) (t:TGs):TG:=fun v σ H Q=>qkb K n t v σ H Q
theorem zS {es:List Expr}{k:Nat}{t:TGs}{n:Nat} (hc:X.calm=true) (h:PGs X es t)
   (hn:(assignEach es X.env).length=n:=by rfl) (hst:(assignEach es X.env).findIdx? (·.1)=none:=by rfl):PG X (.Tuple es k pos) (qjs X.K n t):=by
 intro pins s σ H v u Q I r hw;obtain⟨a,xs,e1,hq,hl,hw⟩:=hw;subst e1;cases r;obtain⟨its,rv,ht,hz⟩:=I.tuple hq;refine assign_Tuple_tuple (I.ok.hd hc) ht (by simp[hn,← hl,rv.length]) hst fun h' hx=>?_;have I1:Inv X pins σ H { s with heap:=h' }:=I.kept (t':=s.toks) fun b o e=>hx b o (Nat.ne_of_lt (Heap.lt_size e)) e;exact h pins _ σ H xs _ Q I1 (by simpa using rv) hw
def qn0 (to ti:TE) (t:qng):TG:=fun v σ H Q=>to σ H fun o H1=>ti σ H1 fun i H2=>t o i v H2 fun H3=>Q σ H3
theorem qhw {o i:Expr}{to ti:TE}{t:qng} (ho:PE X o to) (hi:PE X i ti) (hs:qnC X t)
   (ha:∀ v,assign (.Subscript o i pos) X.env v=(do
     let ov ← holding [v] (eval o X.env);let iv ← holding [v,ov] (eval i X.env)
     standAt pos
     holding [v,ov,iv] (setItem ov iv v)
     release [v,ov,iv] []):=by intro _;rfl):PG X (.Subscript o i pos) (qn0 to ti t):=by
 intro pins s σ H v u Q I r h;rw[ha];refine wpAny_bind (wpAny_holding (thn (ho pins s σ H _ I h) fun ov s1 zz_=>?_));obtain⟨x,H1,I1,r1,q1⟩:=zz_;refine wpAny_bind (wpAny_holding (thn (hi pins s1 σ H1 _ I1 q1) fun iv s2 zz_=>?_));obtain⟨y,H2,I2,r2,q2⟩:=zz_;refine wpAny_bind (wpAny_standAt (wpAny_bind (wpAny_holding (thn (hs pins s2 σ H2 x y v ov iv u _ I2 r1 r2 r q2) fun _ s3 zz_=>?_))));obtain⟨H3,I3,q3⟩:=zz_;exact wpAny_release ⟨σ,H3,I3,q3⟩
def qmC (te:TE) (g:TG):TS:=fun D σ H=>te σ H fun x H1=>g x σ H1 D.nx
theorem qce {tg e:Expr}{te:TE}{g:TG} (he:PE X e te) (hg:PG X tg g) (hs:swapsWithSole [tg] e pos.line X.env=pure false:=by rfl) (hw:swappedStores [tg] e X.env=pure none:=by rfl)
   (h1:(assignEach [tg] X.env).map (·.2)=[assign tg X.env]:=by rfl):PS X (.Assign [tg] e pos) (qmC te g):=by
 intro pins s σ H D I h;refine wpAny_Assign_stores (thn (he pins s σ H _ I h) fun v s1 zz_=>?_) hs hw;obtain⟨x,H1,I1,r1,q1⟩:=zz_;rw[h1];exact thn (hg pins s1 σ H1 x v _ I1 r1 q1) fun _ s2 q=>q
theorem qH {i:Nat}{x:Str}{e:Expr}{te:TE}{pos':Pos} (hN:X.N.Nodup) (hi:X.N[i]?=some x) (hx:Loc X.env.scope x) (he:PE X e te) (hs:swapsWith e (some (.Name x pos')) pos.line X.env=pure false:=by rfl) (hf:X.fn x=true∨X.env.scope.names.lookup x=some .local:=by first|exact .inl rfl|exact .inr rfl|assumption) :
   PS X (.Assign [.Name x pos'] e pos) (qmC te (qjt i)):=by
 intro pins s σ H D I h;refine wpAny_Assign_Name (thn (he pins s σ H _ I h) fun v s1 zz_=>?_) hs;obtain⟨y,H1,I1,r1,q1⟩:=zz_;exact jG I1 hN hi hx r1 (fun s2 I2=>⟨_,H1,I2,q1⟩) hf
def qnO (i:Nat) (te:TE) (ti:TIp):TS:=fun D σ H=>∃ x,σ[i]?=some (some x)∧te σ H fun y H1=>ti x y H1 fun z H2=>D.nx (σ.set i (some z)) H2
theorem qjY {i:Nat}{x:Str}{e:Expr}{te:TE}{op:Operator}{ti:TIp}{pos':Pos} (hN:X.N.Nodup) (hi:X.N[i]?=some x) (hx:Loc X.env.scope x) (he:PE X e te) (ho:PIp X op ti) (hf:X.fn x=true∨X.env.scope.names.lookup x=some .local:=by first|exact .inl rfl|exact .inr rfl|assumption) :
   PS X (.AugAssign (.Name x pos') op e pos) (qnO i te ti):=by
 intro pins s σ H D I h;obtain⟨v,e1,h⟩:=h;obtain⟨m,hn,hl⟩:=I.loc;have vis:Vis X.env.scope x:=by rcases hx with k|k;exact .inl k;exact .inr (.inl k)
 obtain⟨u,r,l⟩:=hl i x v hi e1 vis;refine wpAny_AugAssign_Name ?_
 have go:wpAny (model X.prog X.w) X.A (eval e X.env) (fun w s₂=>wpAny (model X.prog X.w) X.A (inplaceOp op u w) (fun r s₃=>wpAny (model X.prog X.w) X.A (storeName X.env x r) (fun _=>SP X pins D .next) X.xe s₃) X.xe s₂) X.xe s:=by
   refine thn (he pins s σ H _ I h) fun w s1 zz_=>?_;obtain⟨y,H1,I1,r1,q1⟩:=zz_;refine thn (ho pins s1 σ H1 v y u w _ I1 r r1 q1) fun z s2 zz_=>?_;obtain⟨zv,H2,I2,r2,q2⟩:=zz_;exact jG I2 hN hi hx r2 (fun s3 I3=>⟨_,H2,I3,q2⟩) hf
 rcases l with ⟨hk,hm⟩|⟨hk,c,hc,hcell⟩
 · exact wpAny_loadName_local I.ok.kind hk hn hm go
 · rcases hk with hk|hk
   · exact wpAny_loadName_cell I.ok.kind hk hc hcell go
   · rcases hx with k|k
     · have:X.env.scope.names.lookup x=some .free:=hk
       rw[k]at this;cases this
     · have:X.env.scope.names.lookup x=some .free:=hk
       rw[k]at this;cases this
def ipI (f:Int->Int->Int):TIp:=fun x y H Q=>∃ i j,x=.int i∧y=.int j∧Q (.int (f i j)) H
theorem qj7:PIp X .Add (ipI fun i j=>i+j):=by
 intro pins s σ H x y v u Q I r1 r2 h;obtain⟨i,j,e1,e2,q⟩:=h;subst e1;subst e2;obtain⟨t,rfl⟩:=r1;obtain⟨t',rfl⟩:=r2;exact iadd_int ⟨.int _,H,I.tok _,⟨_,rfl⟩,q⟩
def qjF (c:TT) (tb:TS):TS:=fun D σ H=>∃ W:Nat->St->Hp->Prop,(∃ m,W m σ H)∧∀ m σ H,W m σ H ->
 c σ H fun b H1=>if b=true then ∃ N:St->Hp->Prop,(∀ σ' H',N σ' H'->∃ m',m' < m∧W m' σ' H')∧tb { D with nx:=N,ct:=N,bk:=D.nx } σ H1 else D.nx σ H1
theorem qi0 {c:Expr}{body:List Stmt}{tc:TT}{tb:TS} (hp:PassesOwn (model X.prog X.w) X.A X.env X.xe) (hc:PT X c tc) (hb:PSs X body tb):PS X (.While c body [] pos) (qjF tc tb):=by
 intro pins s σ H D I h;obtain⟨W,⟨m0,w0⟩,turn⟩:=h;refine wpAny_While (codeAny_whileLoop (fun n s'=>∃ σ' H',Inv X pins σ' H' s'∧W n σ' H') ?_ m0 ⟨σ,H,I,w0⟩);rintro n s1 ⟨σ1,H1,I1,w1⟩;refine wpAny_passesOwn hp (thn (hc pins s1 σ1 H1 _ I1 (turn n σ1 H1 w1)) fun b s2 zz_=>?_);obtain⟨H2,I2,q2⟩:=zz_
 cases b with
 | true =>
   obtain⟨N,hN,q2⟩:=q2;rw[if_pos rfl];refine wpAny_passesOwn hp (thn (hb pins s2 σ1 H2 _ I2 q2) fun f s3 q3=>?_)
   cases f with
   | next =>
     obtain⟨σ3,H3,I3,n3⟩:=q3;obtain⟨m',hm,w3⟩:=hN σ3 H3 n3;exact⟨m',hm,σ3,H3,I3,w3⟩
   | cont =>
     obtain⟨σ3,H3,I3,n3⟩:=q3;obtain⟨m',hm,w3⟩:=hN σ3 H3 n3;exact⟨m',hm,σ3,H3,I3,w3⟩
   | brk=>exact q3
   | ret v=>exact q3
 | false =>
   rw[if_neg Bool.false_ne_true];exact wpAny_execs_nil ⟨σ1,H2,I2,q2⟩
end
structure It where
 go:Nat->Hp->Prop
 yld:Nat->Hp->V->Hp->Prop
 stop:Nat->Hp->Prop
def qgQ (X:Cx) (pins:List (Addr×Obj)) (H:Hp) (b:Addr):Prop :=
 H b=none∧b≠X.env.locals∧b∉X.fs∧(b∈X.ex∨X.s₀.heap.objs.size≤b)∧(∀ x c,X.env.cells.lookup x=some c->c≠b)∧∀ p∈X.pn++pins,p.1≠b
theorem Inv.fpOk {X:Cx}{pins:List (Addr×Obj)}{σ:St}{H H':Hp}{s:Shared}{b:Addr} (I:Inv X pins σ H s) (hb:s.heap.objs.size≤b) (hn:H' b=none):qgQ X pins H' b:=by
 refine⟨hn,Nat.ne_of_gt (Nat.lt_of_lt_of_le I.lt hb),I.nofs hb,.inr (Nat.le_trans I.sz hb),fun x c e z=>?_,fun p hp z=>?_⟩
 · obtain⟨v,q⟩:=I.cell x c e;exact absurd (Nat.lt_of_lt_of_le q.lt (by rw[z];exact hb)) (Nat.lt_irrefl _)
 · exact absurd (Nat.lt_of_lt_of_le (Heap.lt_size (I.pin p hp).1) (by rw[z];exact hb)) (Nat.lt_irrefl _)
structure qlo (P:Program) (w:World) (K:Frag) (tg:Expr) (J:It) (fp:List Addr) (it:Addr) (tn:Nat->Heap->Prop):Prop where
 mem:it∈fp
 obj:∀ i h,tn i h->∀ b∈fp,∃ o,h.get? b=some o∧∀ v,o.data≠.cell v
 keep:∀ i h h',tn i h->(∀ b∈fp,∀ o,h.get? b=some o->h'.get? b=some o)->tn i h'
 item:∀ (X:Cx),X.prog=P->X.w=w->X.K=K->X.calm=true->∀ (i:Nat) (pins:List (Addr×Obj)) (s:Shared) (σ:St) (H:Hp) (E:Value->Shared->Prop),Inv X pins σ H s->(∀ b∈fp,qgQ X pins H b)->tn i s.heap->J.go i H ->
   wpAny (model P w) X.A (pyNext (.ref it)) (fun r s1=>∃ u,r=some u ∧
     wpAny (model P w) X.A (letOwnedTupleGo tg (.ref it) u) (fun _ s2=>∃ x H',Inv X pins σ H' s2∧RelV x u∧J.yld i H x H'∧tn (i+1) s2.heap∧∀ b∈fp,H' b=none) E s1) E s
 done:∀ (X:Cx),X.prog=P->X.w=w->X.K=K->X.calm=true->∀ (i:Nat) (pins:List (Addr×Obj)) (s:Shared) (σ:St) (H:Hp) (E:Value->Shared->Prop),Inv X pins σ H s->(∀ b∈fp,qgQ X pins H b)->tn i s.heap->J.stop i H ->
   wpAny (model P w) X.A (pyNext (.ref it)) (fun r s1=>r=none∧Inv X pins σ H s1) E s
 self:∀ (A:Around) (i:Nat) (s:Shared) (Q:Value->Shared->Prop) (E:Value->Shared->Prop),tn i s.heap->Q (.ref it) s->wpAny (model P w) A (pyIter (.ref it)) Q E s
abbrev TI:=St->Hp->(It->Hp->Prop)->Prop
def PIE (X:Cx) (pins:List (Addr×Obj)) (σ:St) (tg:Expr) (R:It->Hp->Prop) (itv:Value) (s2:Shared):Prop :=
 ∃ (it:Addr) (fp:List Addr) (tn:Nat->Heap->Prop) (J:It) (H':Hp),itv=.ref it∧Inv X pins σ H' s2∧qlo X.prog X.w X.K tg J fp it tn∧tn 0 s2.heap∧(∀ b∈fp,qgQ X pins H' b)∧R J H'
def PI (X:Cx) (tg iter:Expr) (wi:TI):Prop :=
 ∀ (pins:List (Addr×Obj)) (s:Shared) (σ:St) (H:Hp) (R:It->Hp->Prop),Inv X pins σ H s->wi σ H R ->
   wpAny (model X.prog X.w) X.A (eval iter X.env) (fun v s1=>wpAny (model X.prog X.w) X.A (pyIter v) (PIE X pins σ tg R) X.xe s1) X.xe s
theorem qmp {M:Model}{A:Around}{E:Value->Shared->Prop}{s:Shared}{tg:Expr}{it:Addr}{u:Value}{o:Obj}{n:String}{vs:Array Value}{Q:Unit->Shared->Prop} (ho:s.heap.get? it=some o) (hc:o.cls=.type n) (hd:o.data=.fields vs)
   (hn:["enumerate","zip","dict_itemiterator","dict_reverseitemiterator","odict_iterator","itertools.zip_longest","itertools.pairwise"].contains n=false) (hQ:Q () s):wpAny M A (letOwnedTupleGo tg (.ref it) u) Q E s:=by
 unfold letOwnedTupleGo;cases tg<;>first
   | exact wpAny_pure hQ
   | (cases u<;>first
       | exact wpAny_pure hQ
       | (refine wpAny_bind (wpAny_load ho ?_)
          rw[hc,hd];show wpAny M A (if (["enumerate","zip","dict_itemiterator","dict_reverseitemiterator","odict_iterator","itertools.zip_longest","itertools.pairwise"].contains n && vs[0]? == some (rawInt _))=true then _ else _) Q E s;rw[if_neg (by intro h;rw[hn,Bool.false_and]at h;cases h)]
          exact wpAny_pure hQ))
def Itl (K:Frag) (a:Addr):It :=
 ⟨fun i H=>∃ xs x,SqL K H a xs∧xs[i]?=some x,fun i H x H'=>H'=H∧∀ xs,SqL K H a xs->xs[i]?=some x,fun i H=>∃ xs,SqL K H a xs∧xs.length≤i⟩
def Itr (lo:Int) (n:Nat):It:=⟨fun i _=>i < n,fun i H x H'=>H'=H∧x=.int (lo+i),fun i _=>n≤i⟩
theorem qgW {P:Program}{w:World}{K:Frag}{tg:Expr} (a it:Addr):qlo P w K tg (Itl K a) [it] it (fun i h=>h.IsListIter it a i) where
 mem:=by simp
 obj:=fun i h st b hb=>by
   have e:b=it:=by simpa using hb
   subst e;obtain⟨o,e,c,d⟩:=st;exact⟨o,e,fun v z=>by rw[d]at z;cases z⟩
 keep:=fun i h h' st k=>st.at fun o e=>k it (by simp) o e
 item:=by
   intro X hP hw hK hc i pins s σ H E I hf st hg;subst hP hw hK;obtain⟨xs,x,hq,hx⟩:=hg;obtain⟨its,rv,p,hz⟩:=I.list hq;obtain⟨u,hu,ru⟩:=rv.get hx;obtain⟨f0,f1,f2,f3,f4,f5⟩:=hf it (by simp);refine wpAny_pyNext_list_item st p.isList (x:=u) (by simpa using hu) fun h' st' sb=>?_;have I1:Inv X pins σ H { s with heap:=h' }:=I.turned (t':=s.toks) (fun b o hb e=>(sb.2 b hb).trans e) f0 f1 f3 f4 f5;obtain⟨o,e,c,d⟩:=id st';exact⟨u,rfl,qmp (s:={ s with heap:=h' }) e c d (by decide) ⟨x,H,I1,ru,⟨rfl,fun ys hy=>by rw[I.list_inj hy hq];exact hx⟩,st',fun b hb=>(hf b hb).1⟩⟩
 done:=by
   intro X hP hw hK hc i pins s σ H E I hf st hg;subst hP hw hK;obtain⟨xs,hq,hx⟩:=hg;obtain⟨its,rv,p,hz⟩:=I.list hq;obtain⟨f0,f1,f2,f3,f4,f5⟩:=hf it (by simp);have hl:=rv.length;exact wpAny_pyNext_list_end (I.ok.hd hc) st p.isList (by simp;omega) fun h' eb=>⟨rfl,I.turned (t':=s.toks) (fun b o hb e=>eb b o hb e) f0 f1 f3 f4 f5⟩
 self:=fun _ _ _ _ _ st h=>wpAny_pyIter_listiter st h
theorem qgh {P:Program}{w:World}{K:Frag}{tg:Expr} (it:Addr) (lo:Int) (n:Nat):qlo P w K tg (Itr lo n) [it] it (fun i h=>IsRangeIter h it (lo+(i:Nat) * 1) ((n:Int) - (i:Nat)) 1) where
 mem:=by simp
 obj:=fun i h st b hb=>by
   have e:b=it:=by simpa using hb
   subst e
   exact⟨_,st,fun v z=>by
     have z':Data.fields _=Data.cell v:=z
     cases z'⟩
 keep:=fun i h h' st k=>k it (by simp) _ st
 item:=by
   intro X hP hw hK hc i pins s σ H E I hf st hg;subst hP hw hK;obtain⟨f0,f1,f2,f3,f4,f5⟩:=hf it (by simp);have W:=Walks.range (prog:=X.prog) (w:=X.w) (I.ok.hd hc) it lo 1 n;refine W.item i s _ _ hg st fun v h' tk hv st' kk=>?_;obtain⟨t,rfl⟩:=hv;have I1:Inv X pins σ H { s with heap:=h',toks:=tk }:=I.turned (fun b o hb e=>kk b o (by simpa using hb) e) f0 f1 f3 f4 f5;refine⟨_,rfl,qmp (s:={ s with heap:=h',toks:=tk }) (n:="range_iterator") st' rfl rfl (by decide) ⟨.int (lo+i),H,I1,⟨t,?_⟩,⟨rfl,rfl⟩,st',fun b hb=>(hf b hb).1⟩⟩;rw[Int.mul_one]
 done:=by
   intro X hP hw hK hc i pins s σ H E I hf st hg;subst hP hw hK;obtain⟨f0,f1,f2,f3,f4,f5⟩:=hf it (by simp);exact wpAny_pyNext_range_end (I.ok.hd hc) st (by have:n≤i:=hg;omega) fun h' eb=>⟨rfl,I.turned (t':=s.toks) (fun b o hb e=>eb b o hb e) f0 f1 f3 f4 f5⟩
 self:=fun _ _ _ _ _ st h=>wpAny_pyIter_rangeiter st h
section
variable {X:Cx}{tg:Expr}
inductive qh5 (K:Frag) (R:(It->Hp->Prop)) (x:V) (H1:Hp):Prop
 | mk (a:_) (h1:x=.ref a) (h2:(∃ xs,SqL K H1 a xs)) (h3:R (Itl K a) H1):qh5 K R x H1
def qm6 (K:Frag) (tl:TE):TI:=fun σ H R=>tl σ H fun x H1=>qh5 K R x H1
theorem qX {l:Expr}{tl:TE} (hl:PE X l tl):PI X tg l (qm6 X.K tl):=by
 intro pins s σ H R I h;refine thn (hl pins s σ H _ I h) fun v s1 zz_=>?_;obtain⟨x,H1,I1,r1,q1⟩:=zz_;obtain⟨a,e,⟨xs,hq⟩,q⟩:=q1;subst e;cases r1;obtain⟨its,rv,p,hz⟩:=I1.list hq;refine wpAny_pyIter_list p.isList ?_;refine⟨s1.heap.objs.size,[s1.heap.objs.size],_,_,H1,rfl,I1.kept (t':=s1.toks) fun b o e=>Heap.get?_push_of_some _ e,qgW a _,⟨_,Heap.get?_push_size _ rfl,rfl,rfl⟩,fun b hb=>?_,q⟩;have e:b=s1.heap.objs.size:=by simpa using hb
 subst e;exact I1.fpOk (Nat.le_refl _) (I1.hok.fresh (Nat.le_refl _))
theorem qfM {pins:List (Addr×Obj)}{σ:St}{H:Hp}{s:Shared}{R:It->Hp->Prop}{E:Value->Shared->Prop}{lo hi:Int}{t u v:Tok}{tk:Nat} (I:Inv X pins σ H s) (h1:-(2 ^ 62)≤lo) (h2:lo < 2 ^ 62) (h3:-(2 ^ 62)≤hi) (h4:hi < 2 ^ 62)
   (q:R (Itr lo (hi - lo).toNat) H):wpAny (model X.prog X.w) X.A (pyIter (.ref s.heap.objs.size)) (PIE X pins σ tg R) E { s with heap:=s.heap.push { cls:=.type "range",data:=.fields #[.int lo t,.int hi u,.int 1 v] },toks:=tk }:=by
 refine wpAny_pyIter_range (IsRange.new ..) (small_one h1 h2 h3 h4) ?_;have I1:Inv X pins σ H { s with heap:=s.heap.push { cls:=.type "range",data:=.fields #[.int lo t,.int hi u,.int 1 v] },toks:=tk }:=I.kept fun b o e=>Heap.get?_push_of_some _ e
 refine⟨(s.heap.push { cls:=.type "range",data:=.fields #[.int lo t,.int hi u,.int 1 v] }).objs.size,[(s.heap.push { cls:=.type "range",data:=.fields #[.int lo t,.int hi u,.int 1 v] }).objs.size],_,_,H,rfl,
   I1.kept (t':=tk) fun b o e=>Heap.get?_push_of_some _ e,qgh _ lo (hi - lo).toNat,?_,fun b hb=>?_,q⟩
 · have e1:lo+((0:Nat):Int) * 1=lo:=by simp
   have e2:(((hi - lo).toNat:Nat):Int) - ((0:Nat):Int)=Builtin.Range.rangeSize lo hi 1:=by rw[rangeSize_one];split<;>omega
   show IsRangeIter _ _ (lo+((0:Nat):Int) * 1) ((((hi - lo).toNat:Nat):Int) - ((0:Nat):Int)) 1;rw[e1,e2];exact Heap.get?_push_size _ rfl
 · have e:b=(s.heap.push { cls:=.type "range",data:=.fields #[.int lo t,.int hi u,.int 1 v] }).objs.size:=by simpa using hb
   subst e;exact I1.fpOk (Nat.le_refl _) (I1.hok.fresh (Nat.le_refl _))
inductive qh4 (R:(It->Hp->Prop)) (vs:List V) (H1:Hp):Prop
 | mk (j:Int) (h1:vs=[.int j]) (h2:-(2 ^ 62)≤j) (h3:j < 2 ^ 62) (h4:R (Itr 0 j.toNat) H1):qh4 R vs H1
def qm5 (ta:TA):TI:=fun σ H R=>ta σ H fun vs H1=>qh4 R vs H1
inductive qh3 (R:(It->Hp->Prop)) (vs:List V) (H1:Hp):Prop
 | mk (i j:Int) (h1:vs=[.int i,.int j]) (h2:(-(2 ^ 62)≤i∧i < 2 ^ 62∧-(2 ^ 62)≤j∧j < 2 ^ 62)) (h3:R (Itr i (j - i).toNat) H1):qh3 R vs H1
def qm4 (ta:TA):TI:=fun σ H R=>ta σ H fun vs H1=>qh3 R vs H1
theorem zR {a:Expr}{ta:TA}{p pos:Pos} (hg:Gl X "range") (hm:X.mg "range"=none) (ha:PA X [a] ta) (hs:starEach [a] X.env=[(false,eval a X.env)]:=by rfl):PI X tg (.Call (.Name "range" p) [a] [] pos) (qm5 ta):=by
 intro pins s σ H R I h;refine Call_ (qab I hg hm boot_range (PyProof.Rows.callWith_type1 (thn (ha pos pins s σ H _ I h) fun us s1 zz_=>?_) hs rfl));obtain⟨vs,H1,I1,r1,q1⟩:=zz_;obtain⟨j,e,q1,q2,q⟩:=q1;subst e
 cases r1 with
 | cons r rr =>
   cases rr;obtain⟨t,rfl⟩:=r;exact call_range_1 (qfM I1 (by omega) (by omega) q1 q2 (by simpa using q))
theorem qd2 {a b:Expr}{ta:TA}{p pos:Pos} (hg:Gl X "range") (hm:X.mg "range"=none) (ha:PA X [a,b] ta) (hs:starEach [a,b] X.env=[(false,eval a X.env),(false,eval b X.env)]:=by rfl) (hs2:starEach [b] X.env=[(false,eval b X.env)]:=by rfl) :
   PI X tg (.Call (.Name "range" p) [a,b] [] pos) (qm4 ta):=by
 intro pins s σ H R I h;refine Call_ (qab I hg hm boot_range (PyProof.Rows.callWith_type1 (thn (ha pos pins s σ H _ I h) fun us s1 zz_=>?_) (by rw[hs,hs2]) (by rw[hs2];rfl)));obtain⟨vs,H1,I1,r1,q1⟩:=zz_;obtain⟨i,j,e,⟨q1,q2,q3,q4⟩,q⟩:=q1;subst e
 cases r1 with
 | cons r rr =>
   cases rr with
   | cons r' rr =>
     cases rr;obtain⟨t,rfl⟩:=r;obtain⟨t',rfl⟩:=r';exact call_range_2 (qfM I1 q1 q2 q3 q4 q)
def qbG (wi:TI) (g:TG) (tb:TS):TS:=fun D σ H=>wi σ H fun J H1=>∃ W:Nat->Nat->St->Hp->Prop,(∃ m,W 0 m σ H1)∧∀ i m σ H,W i m σ H ->
 (J.stop i H∧D.nx σ H)∨(J.go i H∧∃ N:St->Hp->Prop,(∀ σ' H',N σ' H'->∃ m',m' < m∧W (i+1) m' σ' H')∧∀ x H',J.yld i H x H'->g x σ H' fun σ2 H2=>tb { D with nx:=N,ct:=N,bk:=D.nx } σ2 H2)
def qcg (fp:List Addr) (h:Heap):List (Addr×Obj):=fp.filterMap fun b=>(h.get? b).map fun o=>(b,o)
theorem zY {fp:List Addr}{h:Heap}{b:Addr}{o:Obj} (hb:b∈fp) (e:h.get? b=some o):(b,o)∈qcg fp h:=List.mem_filterMap.mpr ⟨b,hb,by rw[e];rfl⟩
theorem qhM {fp:List Addr}{h:Heap}{p:Addr×Obj} (hp:p∈qcg fp h):p.1∈fp∧h.get? p.1=some p.2:=by
 obtain⟨b,hb,e⟩:=List.mem_filterMap.mp hp
 cases q:h.get? b with
 | none=>rw[q]at e;cases e
 | some o =>
   rw[q]at e;have e':(b,o)=p:=Option.some.inj e;subst e';exact⟨hb,q⟩
theorem Inv.pinned {pins:List (Addr×Obj)}{σ:St}{H:Hp}{s:Shared}{fp:List Addr} (I:Inv X pins σ H s) (hf:∀ b∈fp,qgQ X pins H b) (ho:∀ b∈fp,∃ o,s.heap.get? b=some o∧∀ v,o.data≠.cell v):Inv X (pins++qcg fp s.heap) σ H s :=
 I.pins_of fun p hp=>(List.mem_append.mp hp).elim (fun z=>I.pin p (List.mem_append_right _ z)) fun z=>by
   obtain⟨hb,e⟩:=qhM z;obtain⟨f0,f1,f2,_⟩:=hf p.1 hb;obtain⟨o,e',d⟩:=ho p.1 hb;rw[e]at e';cases e';exact⟨e,f0,f1,f2,d⟩
theorem Inv.unpinned {pins pl:List (Addr×Obj)}{σ:St}{H:Hp}{s:Shared} (I:Inv X (pins++pl) σ H s):Inv X pins σ H s:=I.pins_of fun p hp=>I.pin p (List.mem_append_right _ (List.mem_append_left _ hp))
theorem zw {iter:Expr}{body:List Stmt}{wi:TI}{g:TG}{tb:TS}{pos:Pos} (hp:PassesOwn (model X.prog X.w) X.A X.env X.xe) (hc:X.calm=true) (hi:PI X tg iter wi) (hg:PG X tg g) (hb:PSs X body tb)
   (hs:∀ x,foldedSetIterable iter X.env x=pure x:=by intro _;rfl):PS X (.For tg iter body [] pos) (qbG wi g tb):=by
 intro pins s σ H D I h;refine wpAny_For (thn (hi pins s σ H _ I h) fun v s1 h1=>thn h1 fun itv s2 h2=>?_) hs;obtain⟨it,fp,tn,J,H2,e,I2,T,st2,f2,W,⟨m0,w0⟩,turn⟩:=h2;subst e
 -- what stays true of the iterator's objects through the loop
 have stat:∀ {H':Hp},(∀ b∈fp,H' b=none)->∀ b∈fp,qgQ X pins H' b:=fun hn b hb=>⟨hn b hb,(f2 b hb).2⟩
 refine codeAny_forLoop_any (fun n s'=>∃ i σ' H',Inv X pins σ' H' s'∧tn i s'.heap∧(∀ b∈fp,H' b=none)∧W i n σ' H') ?_ m0 ⟨0,σ,H2,I2,st2,fun b hb=>(f2 b hb).1,w0⟩;rintro n s3 ⟨i,σ3,H3,I3,st3,fr3,w3⟩;rcases turn i n σ3 H3 w3 with ⟨stop,qn⟩|⟨go,N,hN,step⟩
 · refine wpAny_passesOwn hp (thn (T.done X rfl rfl rfl hc i pins s3 σ3 H3 X.xe I3 (stat fr3) st3 stop) fun r s4 ⟨hr,I4⟩=>?_);subst hr;exact wpAny_execs_nil ⟨σ3,H3,I4,qn⟩
 · refine wpAny_passesOwn hp (thn (T.item X rfl rfl rfl hc i pins s3 σ3 H3 X.xe I3 (stat fr3) st3 go) fun r s4 ⟨u,hr,h4⟩=>?_);subst hr;refine wpAny_passesOwn hp (thn h4 fun _ s5 zz_=>?_);obtain⟨x,H5,I5,r5,y5,st5,fr5⟩:=zz_;have I5':=I5.pinned (stat fr5) (T.obj _ _ st5);refine wpAny_passesOwn hp (thn (hg _ s5 σ3 H5 x u _ I5' r5 (step x H5 y5)) fun _ s6 zz_=>?_);obtain⟨σ6,H6,I6,q6⟩:=zz_;refine wpAny_passesOwn hp (thn (hb _ s6 σ6 H6 _ I6 q6) fun f s7 q7=>?_)
   have again:∀ {σ7:St}{H7:Hp},Inv X (pins++qcg fp s5.heap) σ7 H7 s7->N σ7 H7->∃ m,m < n∧∃ i σ' H',Inv X pins σ' H' s7∧tn i s7.heap∧(∀ b∈fp,H' b=none)∧W i m σ' H':=fun {σ7 H7} I7 n7=>by
     obtain⟨m',hm,w7⟩:=hN σ7 H7 n7;refine⟨m',hm,i+1,σ7,H7,I7.unpinned,T.keep _ _ _ st5 fun b hb o e=>(I7.pin (b,o) (List.mem_append_right _ (List.mem_append_right _ (zY hb e)))).1,fun b hb=>?_,w7⟩;obtain⟨o,e,d⟩:=T.obj _ _ st5 b hb;exact(I7.pin (b,o) (List.mem_append_right _ (List.mem_append_right _ (zY hb e)))).2.1
   cases f with
   | next=>obtain⟨σ7,H7,I7,n7⟩:=q7;exact again I7 n7
   | cont=>obtain⟨σ7,H7,I7,n7⟩:=q7;exact again I7 n7
   | brk=>obtain⟨σ7,H7,I7,q7⟩:=q7;exact⟨σ7,H7,I7.unpinned,q7⟩
   | ret v=>obtain⟨x7,σ7,H7,I7,r7,q7⟩:=q7;exact⟨x7,σ7,H7,I7.unpinned,r7,q7⟩
end
theorem zl {K:Frag}{a:Addr}{xs:List V}{g:TG}{tb:TS}{D:qgS}{σ:St}{H:Hp} (Pv:Nat->St->Hp->Prop) (h0:Pv 0 σ H) (hl:∀ i σ H,i≤xs.length->Pv i σ H->SqL K H a xs)
   (hs:∀ i x σ H,xs[i]?=some x->Pv i σ H->g x σ H fun σ2 H2=>tb { D with nx:=Pv (i+1),ct:=Pv (i+1),bk:=D.nx } σ2 H2) (hd:∀ σ H,Pv xs.length σ H->D.nx σ H) :
   ∃ W:Nat->Nat->St->Hp->Prop,(∃ m,W 0 m σ H)∧∀ i m σ H,W i m σ H ->
     ((Itl K a).stop i H∧D.nx σ H)∨((Itl K a).go i H∧∃ N:St->Hp->Prop,(∀ σ' H',N σ' H'->∃ m',m' < m∧W (i+1) m' σ' H')∧∀ x H',(Itl K a).yld i H x H'->g x σ H' fun σ2 H2=>tb { D with nx:=N,ct:=N,bk:=D.nx } σ2 H2):=by
 refine⟨fun i m σ H=>m=xs.length - i∧i≤xs.length∧Pv i σ H,⟨xs.length,by simp,Nat.zero_le _,h0⟩,?_⟩;rintro i m σ H ⟨rfl,hi,p⟩;have q:=hl i σ H hi p;by_cases hlt:i < xs.length
 · refine .inr ⟨⟨xs,xs[i],q,by simp[hlt]⟩,Pv (i+1),fun σ' H' p'=>⟨xs.length - (i+1),by omega,rfl,hlt,p'⟩,fun x H' y=>?_⟩;obtain⟨e,y⟩:=y;subst e;exact hs i x σ _ (y xs q) p
 · have e:i=xs.length:=by omega
   subst e;exact .inl ⟨⟨xs,q,Nat.le_refl _⟩,hd σ H p⟩
theorem Qa {lo:Int}{n:Nat}{g:TG}{tb:TS}{D:qgS}{σ:St}{H:Hp} (Pv:Nat->St->Hp->Prop) (h0:Pv 0 σ H)
   (hs:∀ i σ H,i < n->Pv i σ H->g (.int (lo+i)) σ H fun σ2 H2=>tb { D with nx:=Pv (i+1),ct:=Pv (i+1),bk:=D.nx } σ2 H2) (hd:∀ σ H,Pv n σ H->D.nx σ H) :
   ∃ W:Nat->Nat->St->Hp->Prop,(∃ m,W 0 m σ H)∧∀ i m σ H,W i m σ H ->
     ((Itr lo n).stop i H∧D.nx σ H)∨((Itr lo n).go i H∧∃ N:St->Hp->Prop,(∀ σ' H',N σ' H'->∃ m',m' < m∧W (i+1) m' σ' H')∧∀ x H',(Itr lo n).yld i H x H'->g x σ H' fun σ2 H2=>tb { D with nx:=N,ct:=N,bk:=D.nx } σ2 H2):=by
 refine⟨fun i m σ H=>m=n - i∧i≤n∧Pv i σ H,⟨n,by simp,Nat.zero_le _,h0⟩,?_⟩;rintro i m σ H ⟨rfl,hi,p⟩;by_cases hlt:i < n
 · refine .inr ⟨hlt,Pv (i+1),fun σ' H' p'=>⟨n - (i+1),by omega,rfl,hlt,p'⟩,fun x H' y=>?_⟩;obtain⟨e,y⟩:=y;subst e y;exact hs i σ _ hlt p
 · have e:i=n:=by omega
   subst e;exact .inl ⟨Nat.le_refl _,hd σ H p⟩
abbrev R2:=V->V->Hp->VK->Prop
def OpR (X:Cx) (f:Value->Value->Sem Value) (r:R2):Prop :=
 ∀ (pins:List (Addr×Obj)) (s:Shared) (σ:St) (H:Hp) (x y:V) (v u:Value) (Q:VK),Inv X pins σ H s->RelV x v->RelV y u->r x y H Q ->
   wpAny (model X.prog X.w) X.A (f v u) (EP X pins σ Q) X.xe s
def UnR (X:Cx) (f:Value->Sem Value) (r:V->Hp->VK->Prop):Prop :=
 ∀ (pins:List (Addr×Obj)) (s:Shared) (σ:St) (H:Hp) (x:V) (v:Value) (Q:VK),Inv X pins σ H s->RelV x v->r x H Q ->
   wpAny (model X.prog X.w) X.A (f v) (EP X pins σ Q) X.xe s
def Zk (X:Cx) (f:Value) (r:List V->Hp->VK->Prop):Prop :=
 ∀ (pins:List (Addr×Obj)) (s:Shared) (σ:St) (H:Hp) (xs:List V) (us:List Value) (Q:VK),Inv X pins σ H s->Vals xs us->r xs H Q ->
   wpAny (model X.prog X.w) X.A (call f us) (EP X pins σ Q) X.xe s
def qn6 (X:Cx) (r:V->Hp->(Bool->Hp->Prop)->Prop):Prop :=
 ∀ (pins:List (Addr×Obj)) (s:Shared) (σ:St) (H:Hp) (x:V) (v:Value) (Q:Bool->Hp->Prop),Inv X pins σ H s->RelV x v->r x H Q ->
   wpAny (model X.prog X.w) X.A (truthy v) (TP X pins σ Q) X.xe s
def tOp (r:R2) (ta tb:TE):TE:=fun σ H Q=>ta σ H fun x H1=>tb σ H1 fun y H2=>r x y H2 Q
def tUn (r:V->Hp->VK->Prop) (ta:TE):TE:=fun σ H Q=>ta σ H fun x H1=>r x H1 Q
inductive qnt (C:Int->Int->Prop) (g:Int->Int->V) (x:V) (y:V) (H:Hp) (Q:VK):Prop
 | mk (i j:_) (h1:x=.int i) (h2:y=.int j) (h3:C i j) (h4:Q (g i j) H):qnt C g x y H Q
def rI (C:Int->Int->Prop) (g:Int->Int->V):R2:=fun x y H Q=>qnt C g x y H Q
inductive qlU (g:Int->Int->V) (x:V) (y:V) (H:Hp) (Q:VK):Prop
 | mk (i j:_) (h1:x=.int i) (h2:y=.int j) (h3:Q (g i j) H):qlU g x y H Q
def rI0 (g:Int->Int->V):R2:=fun x y H Q=>qlU g x y H Q
inductive qnl (g:Int->V) (x:V) (H:Hp) (Q:VK):Prop
 | mk (i:_) (h1:x=.int i) (h2:Q (g i) H):qnl g x H Q
def rU (g:Int->V):V->Hp->VK->Prop:=fun x H Q=>qnl g x H Q
section
variable {X:Cx}{a b c:Expr}{ta tb tc:TE}{pos:Pos}
theorem qnd (ha:PE X a ta) (hb:PE X b tb) {pins:List (Addr×Obj)}{s:Shared}{σ:St}{H:Hp}{R:V->V->Hp->Prop} (I:Inv X pins σ H s)
   (h:ta σ H fun x H1=>tb σ H1 fun y H2=>R x y H2) {Q:Value->Shared->Prop}{f:Value->Value->Sem Value}
   (hf:∀ v u s2 x y H2,Inv X pins σ H2 s2->RelV x v->RelV y u->R x y H2->wpAny (model X.prog X.w) X.A (f v u) Q X.xe s2) :
   wpAny (model X.prog X.w) X.A (eval a X.env) (fun v s₁=>wpAny (model X.prog X.w) X.A (eval b X.env) (fun u s₂=>wpAny (model X.prog X.w) X.A (f v u) Q X.xe s₂) X.xe s₁) X.xe s:=by
 refine thn (ha pins s σ H _ I h) fun v s1 zz_=>?_;obtain⟨x,H1,I1,r1,q1⟩:=zz_;refine thn (hb pins s1 σ H1 _ I1 q1) fun u s2 zz_=>?_;obtain⟨y,H2,I2,r2,q2⟩:=zz_;exact hf v u s2 x y H2 I2 r1 r2 q2
theorem qB {op:Operator}{r:R2} (ho:OpR X (binaryOp op) r) (ha:PE X a ta) (hb:PE X b tb):PE X (.BinOp a op b pos) (tOp r ta tb):=by
 intro pins s σ H Q I h;exact wpAny_BinOp (qnd ha hb I h fun v u s2 x y H2 I2 rx ry q=>ho pins s2 σ H2 x y v u Q I2 rx ry q)
theorem jB {op:UnaryOp}{r:V->Hp->VK->Prop} (ho:UnR X (unaryOp op) r) (ha:PE X a ta):PE X (.UnaryOp op a pos) (tUn r ta):=by
 intro pins s σ H Q I h;exact UnaryOp_ (thn (ha pins s σ H _ I h) fun v s1 ⟨x,H1,I1,r1,q1⟩=>ho pins s1 σ H1 x v Q I1 r1 q1)
theorem opI {f:Value->Value->Sem Value}{C:Int->Int->Prop}{g:Int->Int->Int}
   (rule:∀ (i j:Int) (t u:Tok) (s:Shared) (Q:Value->Shared->Prop) (E:Value->Shared->Prop),C i j->Q (.int (g i j) s.toks) { s with toks:=s.toks+1 }->wpAny (model X.prog X.w) X.A (f (.int i t) (.int j u)) Q E s) :
   OpR X f (rI C fun i j=>.int (g i j)):=by
 intro pins s σ H x y v u Q I rx ry h;obtain⟨i,j,rfl,rfl,hc,q⟩:=h;obtain⟨t,rfl⟩:=rx;obtain⟨t',rfl⟩:=ry;exact rule i j t t' s _ _ hc ⟨.int (g i j),H,I.tok _,⟨_,rfl⟩,q⟩
theorem qnw {f:Value->Value->Sem Value}{g:Int->Int->Int}
   (rule:∀ (i j:Int) (t u:Tok) (s:Shared) (Q:Value->Shared->Prop) (E:Value->Shared->Prop),Q (.int (g i j) s.toks) { s with toks:=s.toks+1 }->wpAny (model X.prog X.w) X.A (f (.int i t) (.int j u)) Q E s) :
   OpR X f (rI0 fun i j=>.int (g i j)):=by
 intro pins s σ H x y v u Q I rx ry h;obtain⟨i,j,rfl,rfl,q⟩:=h;obtain⟨t,rfl⟩:=rx;obtain⟨t',rfl⟩:=ry;exact rule i j t t' s _ _ ⟨.int (g i j),H,I.tok _,⟨_,rfl⟩,q⟩
theorem qmE {f:Value->Value->Sem Value}{g:Int->Int->Bool}
   (rule:∀ (i j:Int) (t u:Tok) (s:Shared) (Q:Value->Shared->Prop) (E:Value->Shared->Prop),Q (.bool (g i j)) s->wpAny (model X.prog X.w) X.A (f (.int i t) (.int j u)) Q E s) :
   OpR X f (rI0 fun i j=>.bl (g i j)):=by
 intro pins s σ H x y v u Q I rx ry h;obtain⟨i,j,rfl,rfl,q⟩:=h;obtain⟨t,rfl⟩:=rx;obtain⟨t',rfl⟩:=ry;exact rule i j t t' s _ _ ⟨.bl (g i j),H,I,rfl,q⟩
def qn9 (i j:Int):Prop:=0 < j∧j < 1073741824
def qn8 (i j:Int):Prop:=0≤j∧j≤1000000∧i.natAbs < 2 ^ 64
def CMul (i j:Int):Prop:=(-(2 ^ 64) < i∧i < 2 ^ 64)∨(-(2 ^ 64) < j∧j < 2 ^ 64)
theorem CMul.ok {i j:Int} (h:CMul i j):IntMulOk i j:=by
 rcases h with ⟨h1,h2⟩|⟨h1,h2⟩
 · exact .of_left (intBits_le_64 h1 h2)
 · exact .of_right (intBits_le_64 h1 h2)
theorem op_add:OpR X (binaryOp .Add) (rI0 fun i j=>.int (i+j)):=qnw fun _ _ _ _ _ _ _ q=>add_int q
theorem zG:OpR X (binaryOp .Sub) (rI0 fun i j=>.int (i - j)):=qnw fun _ _ _ _ _ _ _ q=>sub_int q
theorem QV:OpR X (binaryOp .Mult) (rI CMul fun i j=>.int (i * j)):=opI fun _ _ _ _ _ _ _ hc q=>mul_int q hc.ok
theorem qhC:OpR X (binaryOp .FloorDiv) (rI qn9 fun i j=>.int (i / j)):=opI fun i j _ _ _ _ _ hc q=>by
 have h1:(0:Int) < j:=hc.1;have h2:j < 1073741824:=hc.2;exact floordiv_int (by omega) (by rw[Int.fdiv_eq_ediv_of_nonneg i (by omega)];exact q) (.inl (PyProof.noPylong_small (by omega)))
theorem zN:OpR X (binaryOp .Mod) (rI (fun _ j=>0 < j) fun i j=>.int (i % j)):=opI fun i j _ _ _ _ _ hc q=>by
 have h1:(0:Int) < j:=hc;exact mod_int' (by omega) (by rw[Int.fmod_eq_emod_of_nonneg i (by omega)];exact q)
theorem ql6:OpR X (binaryOp .Pow) (rI qn8 fun i j=>.int (i ^ j.toNat)):=opI fun _ _ _ _ _ _ _ hc q=>pow_int_small hc.1 hc.2.1 hc.2.2 q
theorem unI {f:Value->Sem Value}{g:Int->Int}
   (rule:∀ (i:Int) (t:Tok) (s:Shared) (Q:Value->Shared->Prop) (E:Value->Shared->Prop),Q (.int (g i) s.toks) { s with toks:=s.toks+1 }->wpAny (model X.prog X.w) X.A (f (.int i t)) Q E s) :
   UnR X f (rU fun i=>.int (g i)):=by
 intro pins s σ H x v Q I rx h;obtain⟨i,rfl,q⟩:=h;obtain⟨t,rfl⟩:=rx;exact rule i t s _ _ ⟨.int (g i),H,I.tok _,⟨_,rfl⟩,q⟩
theorem Qm:UnR X (unaryOp .USub) (rU fun i=>.int (-i)):=unI fun _ _ _ _ _ q=>neg_int q
end
def qnk:V->V->Bool
 | .non,.non=>true|.non,.int _=>true|.int _,.non=>true|.non,.bl _=>true|.bl _,.non=>true|.non,.str _=>true|.str _,.non=>true
 | .int _,.int _=>true|.bl _,.bl _=>true|.str _,.str _=>true|.byt _,.byt _=>true
 | .int _,.str _=>true|.str _,.int _=>true|.bl _,.str _=>true|.str _,.bl _=>true
 | _,_=>false
def rEq:R2:=fun x y H Q=>qnk x y=true∧Q (.bl (decide (x=y))) H
def rNe:R2:=fun x y H Q=>qnk x y=true∧Q (.bl (!decide (x=y))) H
theorem qik {i j:Int}:decide (V.int i=V.int j)=(i == j):=by
 rw[Bool.eq_iff_iff];simp
theorem qke {i j:Bool}:decide (V.bl i=V.bl j)=(i == j):=by
 rw[Bool.eq_iff_iff];simp
theorem qij {i j:Str}:decide (V.str i=V.str j)=(i == j):=by
 rw[Bool.eq_iff_iff];simp
theorem qil {i j:Array UInt8}:decide (V.byt i=V.byt j)=(i.toList == j.toList):=by
 rw[Bool.eq_iff_iff];cases i;cases j;simp
section
variable {X:Cx}{a b c:Expr}{ta tb tc:TE}{pos:Pos}
theorem zi {pins:List (Addr×Obj)}{σ:St}{H:Hp}{s:Shared}{Q:VK}{k k':Bool} (I:Inv X pins σ H s) (q:Q (.bl k) H) (e:k=k'):EP X pins σ Q (.bool k') s:=by
 subst e;exact⟨.bl k,H,I,rfl,q⟩
theorem op_eq:OpR X (compareOp .Eq) rEq:=by
 intro pins s σ H x y v u Q I rx ry h;obtain⟨hs,q⟩:=h
 cases x with
 | non =>
   cases rx
   cases y with
   | non=>cases ry;exact PySem.EqNone.eq_none_none (zi I q (by simp))
   | bl j=>cases ry;exact PySem.EqNone.eq_none_bool (zi I q (by simp))
   | int j=>obtain⟨t',rfl⟩:=ry;exact PySem.EqNone.eq_none_int (zi I q (by simp))
   | str j=>obtain⟨t',rfl⟩:=ry;exact PySem.EqNone.eq_none_str (zi I q (by simp))
   | _=>exact absurd (show false=true from hs) Bool.false_ne_true
 | bl i =>
   cases rx
   cases y with
   | non=>cases ry;exact PySem.EqNone.eq_bool_none (zi I q (by simp))
   | bl j=>cases ry;exact eq_bool (zi I q qke)
   | str j=>obtain⟨t',rfl⟩:=ry;exact PySem.EqMixed.eq_bool_str (zi I q (by simp))
   | _=>exact absurd (show false=true from hs) Bool.false_ne_true
 | int i =>
   obtain⟨t,rfl⟩:=rx
   cases y with
   | non=>cases ry;exact PySem.EqNone.eq_int_none (zi I q (by simp))
   | int j=>obtain⟨t',rfl⟩:=ry;exact eq_int (zi I q qik)
   | str j=>obtain⟨t',rfl⟩:=ry;exact PySem.EqMixed.eq_int_str (zi I q (by simp))
   | _=>exact absurd (show false=true from hs) Bool.false_ne_true
 | str i =>
   obtain⟨t,rfl⟩:=rx
   cases y with
   | non=>cases ry;exact PySem.EqNone.eq_str_none (zi I q (by simp))
   | bl j=>cases ry;exact PySem.EqMixed.eq_str_bool (zi I q (by simp))
   | int j=>obtain⟨t',rfl⟩:=ry;exact PySem.EqMixed.eq_str_int (zi I q (by simp))
   | str j=>obtain⟨t',rfl⟩:=ry;exact eq_str (zi I q qij)
   | _=>exact absurd (show false=true from hs) Bool.false_ne_true
 | byt i =>
   obtain⟨t,rfl⟩:=rx
   cases y with
   | byt j=>obtain⟨t',rfl⟩:=ry;exact PySem.W.eq_bytes (zi I q qil)
   | _=>exact absurd (show false=true from hs) Bool.false_ne_true
 | _=>cases y<;>exact absurd (show false=true from hs) Bool.false_ne_true
theorem op_ne:OpR X (compareOp .NotEq) rNe:=by
 intro pins s σ H x y v u Q I rx ry h;obtain⟨hs,q⟩:=h
 cases x with
 | non =>
   cases rx
   cases y with
   | non=>cases ry;exact PySem.EqNone.ne_none_none (zi I q (by simp))
   | bl j=>cases ry;exact PySem.EqNone.ne_none_bool (zi I q (by simp))
   | int j=>obtain⟨t',rfl⟩:=ry;exact PySem.EqNone.ne_none_int (zi I q (by simp))
   | str j=>obtain⟨t',rfl⟩:=ry;exact PySem.EqNone.ne_none_str (zi I q (by simp))
   | _=>exact absurd (show false=true from hs) Bool.false_ne_true
 | bl i =>
   cases rx
   cases y with
   | non=>cases ry;exact PySem.EqNone.ne_bool_none (zi I q (by simp))
   | bl j=>cases ry;exact ne_bool (zi I q (congrArg not qke))
   | str j=>obtain⟨t',rfl⟩:=ry;exact PySem.EqMixed.ne_bool_str (zi I q (by simp))
   | _=>exact absurd (show false=true from hs) Bool.false_ne_true
 | int i =>
   obtain⟨t,rfl⟩:=rx
   cases y with
   | non=>cases ry;exact PySem.EqNone.ne_int_none (zi I q (by simp))
   | int j=>obtain⟨t',rfl⟩:=ry;exact ne_int (zi I q (congrArg not qik))
   | str j=>obtain⟨t',rfl⟩:=ry;exact PySem.EqMixed.ne_int_str (zi I q (by simp))
   | _=>exact absurd (show false=true from hs) Bool.false_ne_true
 | str i =>
   obtain⟨t,rfl⟩:=rx
   cases y with
   | non=>cases ry;exact PySem.EqNone.ne_str_none (zi I q (by simp))
   | bl j=>cases ry;exact PySem.EqMixed.ne_str_bool (zi I q (by simp))
   | int j=>obtain⟨t',rfl⟩:=ry;exact PySem.EqMixed.ne_str_int (zi I q (by simp))
   | str j=>obtain⟨t',rfl⟩:=ry;exact ne_str (zi I q (congrArg not qij))
   | _=>exact absurd (show false=true from hs) Bool.false_ne_true
 | byt i =>
   obtain⟨t,rfl⟩:=rx
   cases y with
   | byt j=>obtain⟨t',rfl⟩:=ry;exact PySem.W.ne_bytes (zi I q (congrArg not qil))
   | _=>exact absurd (show false=true from hs) Bool.false_ne_true
 | _=>cases y<;>exact absurd (show false=true from hs) Bool.false_ne_true
theorem qhA:OpR X (compareOp .Lt) (rI0 fun i j=>.bl (decide (i < j))):=qmE fun _ _ _ _ _ _ _ q=>lt_int q
theorem qcT:OpR X (compareOp .LtE) (rI0 fun i j=>.bl (decide (i≤j))):=qmE fun _ _ _ _ _ _ _ q=>le_int q
theorem qhB:OpR X (compareOp .Gt) (rI0 fun i j=>.bl (decide (j < i))):=qmE fun _ _ _ _ _ _ _ q=>gt_int q
theorem qi9:OpR X (compareOp .GtE) (rI0 fun i j=>.bl (decide (j≤i))):=qmE fun _ _ _ _ _ _ _ q=>ge_int q
theorem OpR.or {f:Value->Value->Sem Value}{r r':R2} (h:OpR X f r) (h':OpR X f r'):OpR X f (fun x y H Q=>r x y H Q∨r' x y H Q):=by
 intro pins s σ H x y v u Q I rx ry q;rcases q with q|q
 · exact h pins s σ H x y v u Q I rx ry q
 · exact h' pins s σ H x y v u Q I rx ry q
theorem qJ (b:Expr) {op:CmpOp} (h:op≠.In:=by decide) (h2:op≠.NotIn:=by decide):behindInMarks op b=false:=by
 have e1:(op == CmpOp.In)=false:=by cases op<;>first|rfl|exact absurd rfl h
 have e2:(op == CmpOp.NotIn)=false:=by cases op<;>first|rfl|exact absurd rfl h2
 cases b<;>simp[behindInMarks,e1,e2]
theorem Q1 {op:CmpOp}{r:R2} (ho:OpR X (compareOp op) r) (ha:PE X a ta) (hb:PE X b tb) (hm:behindInMarks op b=false):PE X (.Compare a [op] [b] pos) (tOp r ta tb):=by
 intro pins s σ H Q I h;exact wpAny_Compare1 (qnd ha hb I h fun v u s2 x y H2 I2 rx ry q=>ho pins s2 σ H2 x y v u Q I2 rx ry q) hm
inductive qg4 (Q:(Bool->Hp->Prop)) (x:V) (H':Hp):Prop
 | mk (k:_) (h1:x=.bl k) (h2:Q k H'):qg4 Q x H'
def qlB (t:TE):TT:=fun σ H Q=>t σ H fun x H'=>qg4 Q x H'
theorem qz {op:CmpOp}{r:R2} (ho:OpR X (compareOp op) r) (ha:PE X a ta) (hb:PE X b tb) (hm:behindInMarks op b=false):PT X (.Compare a [op] [b] pos) (qlB (tOp r ta tb)):=by
 intro pins s σ H Q I h
 refine wpAny_isTrue_Compare1 (thn (ha pins s σ H _ I h) fun v s1 ⟨x,H1,I1,r1,q1⟩=>thn (hb pins s1 σ H1 _ I1 q1) fun u s2 ⟨y,H2,I2,r2,q2⟩ =>
   thn (ho pins s2 σ H2 x y v u _ I2 r1 r2 q2) fun c s3 ⟨z,H3,I3,r3,k,e,q3⟩=>?_) hm
 subst e;cases r3;exact wpAny_truthy_bool ⟨H3,I3,q3⟩
def qjI (r r':R2) (ta tb tc:TE):TE:=fun σ H Q=>ta σ H fun x H1=>tb σ H1 fun y H2=>r x y H2 fun z H3=>∃ k,z=.bl k ∧
 (if k=true then tc σ H3 fun w' H4=>r' y w' H4 Q else Q (.bl false) H3)
theorem qfR {op op':CmpOp}{r r':R2} (ho:OpR X (compareOp op) r) (ho':OpR X (compareOp op') r') (ha:PE X a ta) (hb:PE X b tb) (hc:PE X c tc)
   (hm:lastMarks [op,op'] [b,c]=false:=by with_unfolding_all rfl):PE X (.Compare a [op,op'] [b,c] pos) (qjI r r' ta tb tc):=by
 intro pins s σ H Q I h
 refine Compare_chain (thn (ha pins s σ H _ I h) fun v s1 ⟨x,H1,I1,r1,q1⟩=>chain_link (thn (hb pins s1 σ H1 _ I1 q1) fun u s2 ⟨y,H2,I2,r2,q2⟩ =>
   thn (ho pins s2 σ H2 x y v u _ I2 r1 r2 q2) fun d s3 ⟨z,H3,I3,r3,k,e,q3⟩=>?_)) hm
 subst e;cases r3;refine wpAny_truthy_bool ?_
 cases k with
 | false=>exact ite_ff ⟨.bl false,H3,I3,rfl,q3⟩
 | true=>exact ite_tt (chain_last (thn (hc pins s3 σ H3 _ I3 q3) fun w' s4 ⟨z',H4,I4,r4,q4⟩=>ho' pins s4 σ H4 y z' u w' Q I4 r2 r4 q4))
theorem qiZ {op op':CmpOp}{r r':R2} (ho:OpR X (compareOp op) r) (ho':OpR X (compareOp op') r') (ha:PE X a ta) (hb:PE X b tb) (hc:PE X c tc)
   (hm:lastMarks [op,op'] [b,c]=false:=by with_unfolding_all rfl):PT X (.Compare a [op,op'] [b,c] pos) (qlB (qjI r r' ta tb tc)):=by
 intro pins s σ H Q I h
 refine isTrue_chain (thn (ha pins s σ H _ I h) fun v s1 ⟨x,H1,I1,r1,q1⟩=>test_link (thn (hb pins s1 σ H1 _ I1 q1) fun u s2 ⟨y,H2,I2,r2,q2⟩ =>
   thn (ho pins s2 σ H2 x y v u _ I2 r1 r2 q2) fun d s3 ⟨z,H3,I3,r3,k,e,q3⟩=>?_)) hm
 subst e;cases r3;refine wpAny_truthy_bool ?_
 cases k with
 | false =>
   obtain⟨k',e',q'⟩:=q3;cases e';exact ite_ff ⟨H3,I3,q'⟩
 | true =>
   refine ite_tt (test_last (thn (hc pins s3 σ H3 _ I3 q3) fun w' s4 ⟨z',H4,I4,r4,q4⟩=>thn (ho' pins s4 σ H4 y z' u w' _ I4 r2 r4 q4) fun d' s5 zz_=>?_));obtain⟨z2,H5,I5,r5,k2,e2,q5⟩:=zz_;subst e2;cases r5;exact wpAny_truthy_bool ⟨H5,I5,q5⟩
def qnz (K:Frag) (x:V) (H:Hp) (k:Bool):Prop :=
 match x with
 | .non=>k=false
 | .bl b=>k=b
 | .int i=>k=(i != 0)
 | .str y=>y.length≤sizeLine∧k=((y.length:Int) != 0)
 | .byt y=>y.size≤sizeLine∧k=((y.size:Int) != 0)
 | .ref p=>(∃ xs,SqL K H p xs∧k=!xs.isEmpty)∨(∃ xs,SqT K H p xs∧k=!xs.isEmpty)∨∃ kvs,H p=some (.dK kvs)∧k=!kvs.isEmpty
 | _=>False
theorem qgG {κ:Type}{kvs:List (κ×V)}{vs:List (κ×Value)} (r:KV kvs vs):(!vs.isEmpty)=!kvs.isEmpty:=by
 cases r<;>rfl
theorem qcn {xs:List V}{its:List Value} (r:Vals xs its):(!its.toArray.isEmpty)=!xs.isEmpty:=by
 cases r<;>simp
theorem qcm:(sizeLine:Nat) < 2 ^ 63:=by rw[sizeLine_eq];decide
theorem qlw:qn6 X (fun x H Q=>∃ k,qnz X.K x H k∧Q k H):=by
 intro pins s σ H x v Q I rx h;obtain⟨k,e,q⟩:=h;have hl:=qcm;have hs:sizeLine=16777216:=sizeLine_eq
 cases x with
 | non =>
   cases rx;have e':k=false:=e;subst e';exact truthy_none ⟨H,I,q⟩
 | bl b =>
   cases rx;have e':k=b:=e;subst e';exact wpAny_truthy_bool ⟨H,I,q⟩
 | int i =>
   obtain⟨t,rfl⟩:=rx;have e':k=(i != 0):=e;subst e';exact PySem.P.truthy_int ⟨H,I,q⟩
 | str y =>
   obtain⟨t,rfl⟩:=rx;obtain⟨hy,e'⟩:y.length≤sizeLine∧k=((y.length:Int) != 0):=e;subst e';exact PySem.P.truthy_str (by omega) ⟨H,I.tok _,q⟩
 | byt y =>
   obtain⟨t,rfl⟩:=rx;obtain⟨hy,e'⟩:y.size≤sizeLine∧k=((y.size:Int) != 0):=e;subst e';exact PySem.W.truthy_bytes (by omega) ⟨H,I.tok _,q⟩
 | ref p =>
   cases rx;have e':(∃ xs,SqL X.K H p xs∧k=!xs.isEmpty)∨(∃ xs,SqT X.K H p xs∧k=!xs.isEmpty)∨∃ kvs,H p=some (.dK kvs)∧k=!kvs.isEmpty:=e;rcases e' with ⟨xs,hx,e'⟩|⟨xs,hx,e'⟩|⟨kvs,hx,e'⟩
   · subst e';obtain⟨its,r,pl,hz⟩:=I.list hx;have hlen:=r.length;exact wpAny_truthy_list pl.isList (by simp only[List.size_toArray];omega) ⟨H,I.tok _,by rw[qcn r];exact q⟩
   · subst e';obtain⟨its,r,pl,hz⟩:=I.tuple hx;have hlen:=r.length;exact truthy_tuple pl (by simp only[List.size_toArray];omega) ⟨H,I.tok _,by rw[qcn r];exact q⟩
   · subst e';obtain⟨hz,hS,vs,r,m⟩:kvs.length≤sizeLine∧(p == sysModules)=false∧∃ vs,KV kvs vs∧s.heap.DictOf (zy X.prog X.w) p vs:=I.hok p _ hx;have hlen:kvs.length=vs.length:=Paired.length r;exact wpAny_truthy_dict hS m (by omega) ⟨H,I.tok _,by rw[qgG r];exact q⟩
 | _=>exact(show False from e).elim
theorem qiY (ha:PE X a ta) (he:∀ whole,isTrue a X.env whole=(do let v ← whole;standAt a.pos;holding [v] (truthy v))) :
   PT X a (fun σ H Q=>ta σ H fun x H'=>∃ k,qnz X.K x H' k∧Q k H'):=by
 intro pins s σ H Q I h;exact isTrue_plain (thn (ha pins s σ H _ I h) fun v s1 ⟨x,H1,I1,r1,q1⟩=>qlw pins s1 σ H1 x v Q I1 r1 q1) (he _)
theorem qgt:OpR X (binaryOp .Add) (fun x y H Q=>∃ i j,x=.str i∧y=.str j∧i.length+j.length≤sizeLine∧Q (.str (i++j)) H):=by
 intro pins s σ H x y v u Q I rx ry h;obtain⟨i,j,rfl,rfl,hz,q⟩:=h;obtain⟨t,rfl⟩:=rx;obtain⟨t',rfl⟩:=ry;exact add_str (fun t' tk=>⟨.str (i++j),H,I.tok _,⟨_,rfl⟩,q⟩) hz
theorem Jm {x:V}{us:List Value} (r:Vals [x] us):∃ u,us=[u]∧RelV x u:=by
 cases r with
 | cons r1 r2=>cases r2;exact⟨_,rfl,r1⟩
theorem qgg {x y:V}{us:List Value} (r:Vals [x,y] us):∃ u w',us=[u,w']∧RelV x u∧RelV y w':=by
 cases r with
 | cons r1 r2 =>
   cases r2 with
   | cons r3 r4=>cases r4;exact⟨_,_,rfl,r1,r3⟩
theorem ZQ (hc:X.calm=true):Zk X (.builtin "max") (fun xs H Q=>∃ i j,xs=[.int i,.int j]∧Q (.int (if j > i then j else i)) H):=by
 intro pins s σ H xs us Q I r h;obtain⟨i,j,rfl,q⟩:=h;obtain⟨u,w',rfl,⟨t,rfl⟩,⟨t',rfl⟩⟩:=qgg r;refine max_two_ints (I.ok.hd hc) fun h' tk k=>⟨_,H,I.kept k,?_,q⟩
 by_cases hj:j > i
 · rw[if_pos hj,if_pos hj];exact⟨_,rfl⟩
 · rw[if_neg hj,if_neg hj];exact⟨_,rfl⟩
theorem ZP (hc:X.calm=true):Zk X (.builtin "min") (fun xs H Q=>∃ i j,xs=[.int i,.int j]∧Q (.int (if j < i then j else i)) H):=by
 intro pins s σ H xs us Q I r h;obtain⟨i,j,rfl,q⟩:=h;obtain⟨u,w',rfl,⟨t,rfl⟩,⟨t',rfl⟩⟩:=qgg r;refine min_two_ints (I.ok.hd hc) fun h' tk k=>⟨_,H,I.kept k,?_,q⟩
 by_cases hj:j < i
 · rw[if_pos hj,if_pos hj];exact⟨_,rfl⟩
 · rw[if_neg hj,if_neg hj];exact⟨_,rfl⟩
theorem qis:Zk X (.type "int") (fun xs H Q=>(∃ i,xs=[.int i]∧Q (.int i) H)∨∃ k,xs=[.bl k]∧Q (.int (if k then 1 else 0)) H):=by
 intro pins s σ H xs us Q I r h;rcases h with ⟨i,rfl,q⟩|⟨k,rfl,q⟩
 · obtain⟨u,rfl,t,rfl⟩:=Jm r;exact call_int_int ⟨.int i,H,I,⟨_,rfl⟩,q⟩
 · obtain⟨u,rfl,r1⟩:=Jm r;cases r1;exact call_int_bool ⟨.int (if k then 1 else 0),H,I.tok _,⟨_,rfl⟩,q⟩
def qnE (K:Frag) (x:V) (H:Hp) (n:Nat):Prop :=
 match x with
 | .str y=>y.length≤sizeLine∧n=y.length
 | .byt y=>y.size≤sizeLine∧n=y.size
 | .ref p=>(∃ xs,SqL K H p xs∧n=xs.length)∨∃ xs,SqT K H p xs∧n=xs.length
 | _=>False
theorem qY:Zk X (.builtin "len") (fun xs H Q=>∃ x n,xs=[x]∧qnE X.K x H n∧Q (.int n) H):=by
 intro pins s σ H xs us Q I r h;obtain⟨x,n,rfl,e,q⟩:=h;obtain⟨u,rfl,rx⟩:=Jm r;have hl:=qcm;have hs:sizeLine=16777216:=sizeLine_eq
 cases x with
 | str y =>
   obtain⟨t,rfl⟩:=rx;obtain⟨hy,e'⟩:y.length≤sizeLine∧n=y.length:=e;subst e';exact len_str (by omega) ⟨.int _,H,I.tok _,⟨_,rfl⟩,q⟩
 | byt y =>
   obtain⟨t,rfl⟩:=rx;obtain⟨hy,e'⟩:y.size≤sizeLine∧n=y.size:=e;subst e';exact PySem.W.len_bytes (by omega) ⟨.int _,H,I.tok _,⟨_,rfl⟩,q⟩
 | ref p =>
   cases rx;have e':(∃ xs,SqL X.K H p xs∧n=xs.length)∨∃ xs,SqT X.K H p xs∧n=xs.length:=e;rcases e' with ⟨xs,hx,e'⟩|⟨xs,hx,e'⟩
   · subst e';obtain⟨its,r',pl,hz⟩:=I.list hx;have hlen:=r'.length;exact Calls.call_len_list pl.isList (by simp only[List.size_toArray];omega) ⟨.int xs.length,H,I.tok _,⟨_,by simp only[List.size_toArray];rw[hlen]⟩,q⟩
   · subst e';obtain⟨its,r',pl,hz⟩:=I.tuple hx;have hlen:=r'.length;exact len_tuple pl (by simp only[List.size_toArray];omega) ⟨.int xs.length,H,I.tok _,⟨_,by simp only[List.size_toArray];rw[hlen]⟩,q⟩
 | _=>exact(show False from e).elim
end
structure ObjM (h:Heap) (x dx C:Addr) (mA:Str->Option Value):Prop where
 obj:h.get? x=some (instObj C dx)
 ns:h.Ns1 dx mA
 ne:dx≠x
theorem qej {h:Heap}{dx:Addr}{mA:Str->Option Value} (n:h.Ns1 dx mA):∃ od,h.get? dx=some od∧∀ name,lookIn name od=some (mA name):=by
 obtain⟨o,es,ep,ho,hd,hk,_,hm⟩:=n;refine⟨o,ho,fun name=>?_⟩;have e:=hm name;unfold nsFind findBy at e;rw[← Array.find?_toList]at e;unfold lookIn;rw[hd];dsimp only;split
 · rename_i y q
   rw[q]at e;exact congrArg some e
 · rename_i q
   rw[q]at e
   have a:es.toList.any (·.refKey)=false:=by
     rw[List.any_eq_false];intro y hy;obtain⟨z,t,hkey⟩:=hk y (Array.mem_toList_iff.mp hy);simp[DictEntry.refKey,hkey]
   have a':¬ es.toList.any (·.refKey)=true:=by rw[a];exact Bool.false_ne_true
   rw[if_neg a'];exact congrArg some e
theorem ObjM.look {h:Heap}{x dx C:Addr}{mA:Str->Option Value} (I:ObjM h x dx C mA):∃ od,PySem.W.InstAt h x (instObj C dx) C (some od)∧∀ name,lookIn name od=some (mA name) :=
 let ⟨od,ho,hl⟩:=qej I.ns
 ⟨od,⟨I.obj,rfl,rfl,ho⟩,hl⟩
section
variable {prog:Program}{w:World}{A:Around}{E:Value->Shared->Prop}{s:Shared}{K:Frag}{x dx C f:Addr}{mA:Str->Option Value}{name:Str}{v:Value}
theorem qk6 {expr:Bool}{Q:Value->Shared->Prop} (X:K.In s.heap) (I:ObjM s.heap x dx C mA) (hg:plainGet K C name=true) (hh:hasDictIn K C=true)
   (ha:findIn K (.ref C) name=some none) (hv:mA name=some v) (hv':handedIn v=true) (h:Q v { s with toks:=s.toks+1 }) :
   wpAny (model prog w) A (getAttr (.ref x) name expr) Q E s:=by
 obtain⟨od,J,hl⟩:=I.look;exact PySem.W.get_value X J (plainGet_of hg).1 (PySem.W.findObj_own hh ha rfl (by rw[hl,hv])) hv' h
theorem qjr {pl:Sem Bool}{Q:Value×List Value->Shared->Prop} (X:K.In s.heap) (I:ObjM s.heap x dx C mA) (hg:plainGet K C name=true)
   (hf:findIn K (.ref C) name=some (some (.ref f))) (ht:isFn K (.ref f)=true) (hv:mA name=none) (h:Q (.ref f,[.ref x]) s) :
   wpAny (model prog w) A (getMethod (.ref x) name pl) Q E s:=by
 obtain⟨od,J,hl⟩:=I.look;exact PySem.W.method_fn X J (plainGet_of hg).1 (plainGet_of hg).2 hf (beq_iff_eq.mp ht) (by show (lookIn name od).map (·.isSome)=some false;rw[hl,hv];rfl) h
theorem qkx {ns:List Str}{Q:Unit->Shared->Prop} (X:K.In s.heap) (I:ObjM s.heap x dx C mA)
   (hs:findIn K (.ref C) "__setattr__"=some (some (.builtin "object.__setattr__"))) (hp:plainOver K C=true) (ht:takerIn K C name=some none) (hh:hasDictIn K C=true)
   (hw:PySem.Within mA ns) (hsz:ns.length≤sizeLine)
   (h:∀ h',ObjM h' x dx C (fun y=>if y=name then some v else mA y)->Heap.SameBut dx s.heap h'->Q () { s with heap:=h',toks:=s.toks+2 }) :
   wpAny (model prog w) A (setAttr (.ref x) name v) Q E s:=by
 obtain⟨od,J,hl⟩:=I.look;refine PySem.W.set_plain X J hs (PySem.W.osa_open (s:={ s with toks:=s.toks+1 }) (r:=none) X J hp ht fun b=>?_);obtain⟨cd,hc,hd'⟩:=PySem.W.any_some hh;have hx:s.heap.get? x=some ⟨.ref C,some dx,.plain,#[]⟩:=I.obj;refine wpAny_bind (wpAny_pure (wpAny_bind (wpAny_bind (wpAny_loadPart hx (wpAny_bind (PySem.W.Looks.here (s:={ s with toks:=s.toks+1 }) (PySem.W.looks_clsIn X hc) ?_))))));rw[hd'];refine wpAny_pure (a:=some dx) (wpAny_bind (wpAny_pure (wpAny_bind ?_)));refine wpAny_nsSet1 (s:={ s with toks:=s.toks+1 }) I.ns fun h' hn2 hs2=>?_;obtain⟨oD,esD,epD,hoD,hdD,hcD⟩:=hn2.count (PySem.Within.cons name v hw);refine wpAny_bind (wpAny_lookBehind hoD (by rw[hdD];exact pastItsLine_dict (Nat.le_trans hcD (by rw[List.length_cons];omega))) ?_);exact wpAny_pure (h _ ⟨(hs2.2 _ (Ne.symm I.ne)).trans I.obj,hn2,I.ne⟩ hs2)
theorem qji {R:Result->Shared->Prop}{vs:List Value}{kw:List (Str×Value)} (X:K.In s.heap) (hm:makesIn K C=true)
   (hi:findIn K (.ref C) "__init__"=some (some (.ref f))) (hf:PySem.W.typeIn K (.ref f)=some (.type "function"))
   (h:codeAny (model prog w) (A.under (.builtin "type.__call__" ⟨.ref C::vs,kw⟩)) (.call (.ref f) ⟨.ref (s.heap.objs.size+1)::vs,kw⟩) (PySem.W.InitBack (s.heap.objs.size+1) R)
     { s with heap:=(s.heap.push emptyDict).push (instObj C s.heap.objs.size) }) :
   codeAny (model prog w) A (.call (.ref C) ⟨vs,kw⟩) R s:=by
 obtain⟨hh,g,d,t,os⟩:=s;exact PySem.W.make_core (PySem.W.makes_of X hm) (PySem.W.looks_findIn X hi) (fun self=>PySem.W.bind_fn X self hf) (.inl rfl) h
end
def qdm (f:Str) (v:V):List (Str×V)->List (Str×V)
 | []=>[(f,v)]
 | (g,x)::r=>if g=f then (g,v)::r else (g,x)::qdm f v r
theorem Q4 (f g:Str) (v:V):∀ fs:List (Str×V),(qdm f v fs).lookup g=if g=f then some v else fs.lookup g
 | []=>by
   show List.lookup g [(f,v)]=_;by_cases h:g=f
   · have hb:(g == f)=true:=beq_iff_eq.mpr h;simp only[List.lookup,hb,if_pos h]
   · have hb:(g == f)=false:=beq_eq_false_iff_ne.mpr h;simp only[List.lookup,hb,if_neg h]
 | (k,x)::r=>by
   have ih:=Q4 f g v r;rw[show qdm f v ((k,x)::r)=(if k=f then (k,v)::r else (k,x)::qdm f v r) from rfl];by_cases hk:k=f
   · rw[if_pos hk];by_cases h:g=k
     · have hb:(g == k)=true:=beq_iff_eq.mpr h;simp only[List.lookup,hb,if_pos (h.trans hk)]
     · have hb:(g == k)=false:=beq_eq_false_iff_ne.mpr h;simp only[List.lookup,hb,if_neg (fun e:g=f=>h (e.trans hk.symm))]
   · rw[if_neg hk];by_cases h:g=k
     · have hb:(g == k)=true:=beq_iff_eq.mpr h;simp only[List.lookup,hb,if_neg (fun e:g=f=>hk (h.symm.trans e))]
     · have hb:(g == k)=false:=beq_eq_false_iff_ne.mpr h;simp only[List.lookup,hb];exact ih
theorem qbu (f:Str) (v:V):∀ fs:List (Str×V),f∈(qdm f v fs).map (·.1)∧∀ g,g∈fs.map (·.1)->g∈(qdm f v fs).map (·.1)
 | []=>⟨by simp[qdm],fun g h=>by simp at h⟩
 | (k,x)::r=>by
   obtain⟨i1,i2⟩:=qbu f v r;rw[show qdm f v ((k,x)::r)=(if k=f then (k,v)::r else (k,x)::qdm f v r) from rfl];by_cases hk:k=f
   · rw[if_pos hk];subst hk;exact⟨by simp,fun g h=>by simpa using h⟩
   · rw[if_neg hk];refine⟨?_,fun g h=>?_⟩
     · rw[List.map_cons];exact List.mem_cons_of_mem _ i1
     · rw[List.map_cons]at h ⊢;rcases List.mem_cons.mp h with e|e
       · exact List.mem_cons.mpr (.inl e)
       · exact List.mem_cons_of_mem _ (i2 g e)
theorem qbp (f:Str) (v:V):∀ fs:List (Str×V),(qdm f v fs).length≤fs.length+1
 | []=>by simp[qdm]
 | (k,x)::r=>by
   have ih:=qbp f v r;rw[show qdm f v ((k,x)::r)=(if k=f then (k,v)::r else (k,x)::qdm f v r) from rfl];by_cases hk:k=f
   · rw[if_pos hk,List.length_cons,List.length_cons];omega
   · rw[if_neg hk,List.length_cons,List.length_cons];omega
theorem RelO.some_of {v:V}{o:Option Value} (r:RelO (some v) o):∃ u,o=some u∧RelV v u:=by
 cases o with
 | none=>exact(show False from r).elim
 | some u=>exact⟨u,rfl,r⟩
theorem RelO.none_of {o:Option Value} (r:RelO none o):o=none:=by
 cases o with
 | none=>rfl
 | some u=>exact(show False from r).elim
theorem qes {v:V}{u:Value} (r:RelV v u):handedIn u=true:=by
 cases v with
 | non=>cases (show u=Value.none from r);rfl
 | bl b=>cases (show u=Value.bool b from r);rfl
 | int i=>obtain⟨t,e⟩:=(show ∃ t,u=Value.int i t from r);cases e;rfl
 | str x=>obtain⟨t,e⟩:=(show ∃ t,u=Value.str x t from r);cases e;rfl
 | byt b=>obtain⟨t,e⟩:=(show ∃ t,u=Value.bytes b t from r);cases e;rfl
 | flt b=>obtain⟨t,e⟩:=(show ∃ t,u=Value.float b t from r);cases e;rfl
 | ref a=>cases (show u=Value.ref a from r);rfl
 | ty n=>cases (show u=Value.type n from r);rfl
section
variable {P:Program}{w:World}{H H':Hp}{h h':Heap}{a C dx:Addr}{fs fs':List (Str×V)}
theorem qde (hok:HOk P w H h) (e:H a=some (.ins C dx fs)):∃ mA,ObjM h a dx C mA∧(∀ f,RelO (fs.lookup f) (mA f))∧PySem.Within mA (fs.map (·.1))∧fs.length≤1000∧H dx=some (.own a):=by
 obtain⟨d,z,ne,ob,mA,n,r,q⟩:=(show ObjOk P w H h a (.ins C dx fs) from hok a _ e)
 exact⟨mA,⟨ob,n,ne⟩,r,q,z,d⟩
end
structure Cls (K:Frag) (C:Addr):Prop where
 pg:plainGet K C Str.empty=true
 hd:hasDictIn K C=true
 po:plainOver K C=true
 sa:findIn K (.ref C) "__setattr__"=some (some (.builtin "object.__setattr__"))
theorem Cls.get {K:Frag}{C:Addr} (c:Cls K C) (f:Str):plainGet K C f=true:=c.pg
def NoAttr (K:Frag) (C:Addr) (f:Str):Prop:=findIn K (.ref C) f=some none
theorem NoAttr.taker {K:Frag}{C:Addr}{f:Str} (n:NoAttr K C f):takerIn K C f=some none:=by
 unfold takerIn;rw[show findIn K (.ref C) f=some none from n];rfl
structure qiG (K:Frag) (C:Addr) (m:Str) (f:Addr):Prop where
 at_:findIn K (.ref C) m=some (some (.ref f))
 fn:isFn K (.ref f)=true
 kp:keepIn K (.ref f)=true
section
variable {X:Cx}{pins:List (Addr×Obj)}{σ:St}{H:Hp}{s:Shared}{a C dx:Addr}{fs:List (Str×V)}{f:Str}{v:V}{A:Around}{E:Value->Shared->Prop}
theorem qgH {b:Bool}{Q:Value->Shared->Prop} (I:Inv X pins σ H s) (e:H a=some (.ins C dx fs)) (c:Cls X.K C) (n:NoAttr X.K C f) (l:fs.lookup f=some v)
   (h:∀ u s',Inv X pins σ H s'->RelV v u->Q u s'):wpAny (model X.prog X.w) A (getAttr (.ref a) f b) Q E s:=by
 obtain⟨mA,O,r,_,_,_⟩:=qde I.hok e;obtain⟨u,hu,ru⟩:=RelO.some_of (v:=v) (o:=mA f) (by rw[← l];exact r f);exact qk6 I.kIn O (c.get f) c.hd n hu (qes ru) (h u _ (I.tok _) ru)
theorem qco {m:Str}{g:Addr}{pl:Sem Bool}{Q:Value×List Value->Shared->Prop} (I:Inv X pins σ H s) (e:H a=some (.ins C dx fs)) (c:Cls X.K C) (k:qiG X.K C m g) (l:fs.lookup m=none)
   (h:Q (.ref g,[.ref a]) s):wpAny (model X.prog X.w) A (getMethod (.ref a) m pl) Q E s:=by
 obtain⟨mA,O,r,_,_,_⟩:=qde I.hok e;have hn:mA m=none:=RelO.none_of (by rw[← l];exact r m);exact qjr I.kIn O (c.get m) k.at_ k.fn hn h
theorem qgk {y:V}{u:Value}{Q:Unit->Shared->Prop} (I:Inv X pins σ H s) (e:H a=some (.ins C dx fs)) (c:Cls X.K C) (n:NoAttr X.K C f) (hl:fs.length < 1000) (ry:RelV y u)
   (h:∀ s',Inv X pins σ (upd H a (.ins C dx (qdm f y fs))) s'->Q () s'):wpAny (model X.prog X.w) A (setAttr (.ref a) f u) Q E s:=by
 obtain⟨mA,O,r,wi,_,ho⟩:=qde I.hok e;have hz:(fs.map (·.1)).length≤sizeLine:=by rw[List.length_map,sizeLine_eq];omega
 refine qkx I.kIn O c.sa c.po n.taker c.hd wi hz fun h' O' sb=>h _ ?_;have hd:∃ o,h'.get? dx=some o:=let ⟨o,_,_,e',_⟩:=O'.ns;⟨o,e'⟩;refine I.write (x:=a) (e:=dx) (by rw[e];exact True.intro) (.inr ho) (fun b q hb z=>(sb.2 b hb).trans z) hd ?_;refine⟨by rw[qh O.ne];exact ho,?_,O.ne,O'.obj,_,O'.ns,fun g=>?_,fun g hg=>?_⟩
 · have:=qbp f y fs;omega
 · show RelO ((qdm f y fs).lookup g) (if g=f then some u else mA g);rw[Q4];by_cases q:g=f
   · rw[if_pos q,if_pos q];exact ry
   · rw[if_neg q,if_neg q];exact r g
 · by_cases q:g=f
   · rw[q];exact(qbu f y fs).1
   · refine(qbu f y fs).2 g (wi g fun z=>hg ?_);show (if g=f then some u else mA g)=none;rw[if_neg q];exact z
theorem Inv.made (I:Inv X pins σ H s):Inv X pins σ (upd (upd H s.heap.objs.size (.own (s.heap.objs.size+1))) (s.heap.objs.size+1) (.ins C s.heap.objs.size []))
   { s with heap:=(s.heap.push emptyDict).push (instObj C s.heap.objs.size) }:=by
 have e1:(s.heap.push emptyDict).get? s.heap.objs.size=some emptyDict:=Heap.get?_push_size s.heap rfl
 have e2:((s.heap.push emptyDict).push (instObj C s.heap.objs.size)).get? (s.heap.objs.size+1)=some (instObj C s.heap.objs.size):=by
   have:=Heap.get?_push_size (s.heap.push emptyDict) (o:=instObj C s.heap.objs.size) rfl
   rwa [Heap.size_push]at this
 have e3:(s.heap.push emptyDict).Ns s.heap.objs.size (fun _=>none):=⟨emptyDict,#[],_,e1,rfl,(fun e he=>absurd he (by simp)),fun _=>rfl⟩
 have I1:=I.laid (a:=s.heap.objs.size) (o:=.own (s.heap.objs.size+1)) (h':=s.heap.push emptyDict) (t':=s.toks) (fun b u q=>Heap.get?_push_of_some _ q) (Nat.le_refl _) ⟨_,e1⟩;refine I1.laid (a:=s.heap.objs.size+1) (o:=.ins C s.heap.objs.size []) (t':=s.toks) (fun b u q=>Heap.get?_push_of_some _ q) (Nat.le_of_eq (Heap.size_push _ _)) ?_;have ne:s.heap.objs.size≠s.heap.objs.size+1:=Nat.ne_of_lt (Nat.lt_succ_self _);refine⟨by rw[qh ne,qd],Nat.zero_le _,ne,e2,fun _=>none,(Heap.Ns1.of_empty e3).at fun o q=>Heap.get?_push_of_some _ q,fun _=>True.intro,fun y hy=>absurd rfl hy⟩
theorem qiA {prog:Program}{w:World}{env:Env}{e:Expr}{f:Str}{pos:Pos}{s:Shared}{Q:Value->Shared->Prop} (hb:attributeBase e f env (eval e env)=eval e env)
   (h:wpAny (model prog w) A (eval e env) (fun o s₁=>wpAny (model prog w) A (getAttr o f true) Q E s₁) E s):wpAny (model prog w) A (eval (.Attribute e f pos) env) Q E s :=
 Attribute_any_ h (by rw[arm_eval_Attribute,hb])
end
inductive qjH (K:Frag) (f:Str) (Q:VK) (x:V) (H1:Hp):Prop
 | mk (a C dx fs v:_) (h1:x=.ref a) (h2:H1 a=some (.ins C dx fs)) (h3:Cls K C) (h4:NoAttr K C f) (h5:fs.lookup f=some v) (h6:Q v H1):qjH K f Q x H1
def qnN (K:Frag) (ta:TE) (f:Str):TE:=fun σ H Q=>ta σ H fun x H1=>qjH K f Q x H1
def qnQ (K:Frag) (ta tv:TE) (f:Str):TS:=fun D σ H=>tv σ H fun y H1=>ta σ H1 fun x H2=>∃ a C dx fs,x=.ref a∧H2 a=some (.ins C dx fs)∧Cls K C∧NoAttr K C f∧fs.length < 1000 ∧
 D.nx σ (upd H2 a (.ins C dx (qdm f y fs)))
section
variable {X:Cx}{o e value:Expr}{f:Str}{pos pos' tpos:Pos}{ta tv:TE}
theorem qK (he:PE X e ta) (hb:attributeBase e f X.env (eval e X.env)=eval e X.env):PE X (.Attribute e f pos) (qnN X.K ta f):=by
 intro pins s σ H Q I h;refine qiA hb (thn (he pins s σ H _ I h) fun u s1 zz_=>?_);obtain⟨x,H1,I1,rx,a,C,dx,fs,v,ex,ea,c,n,l,q⟩:=zz_;subst ex;obtain rfl:u=Value.ref a:=rx;exact qgH I1 ea c n l fun u' s2 I2 ru=>⟨v,H1,I2,ru,q⟩
theorem z9 (ha:PE X o ta) (hv:PE X value tv) (hs:swapsWith value (some (.Attribute o f pos')) pos.line X.env=pure false):PS X (.Assign [.Attribute o f pos'] value pos) (qnQ X.K ta tv f):=by
 intro pins s σ H D I h;refine plainObj_wpAny_Assign_Attribute (thn (hv pins s σ H _ I h) fun u s1 ⟨y,H1,I1,ry,q⟩=>thn (ha pins s1 σ H1 _ I1 q) fun ov s2 zz_=>?_) hs;obtain⟨x,H2,I2,rx,a,C,dx,fs,ex,ea,c,n,l,q2⟩:=zz_;subst ex;obtain rfl:ov=Value.ref a:=rx;exact qgk I2 ea c n l ry fun s3 I3=>⟨σ,_,I3,q2⟩
end
section
variable {X:Cx}{pins:List (Addr×Obj)}{σ:St}{H:Hp}{s:Shared}{A:Around}{E:Value->Shared->Prop}{Q:Value->Shared->Prop}{c:Value}{b:Bool}
inductive qdo (K:Frag) (H:Hp):V->Value->Prop where
 | non:qdo K H .non (.type "NoneType")
 | bl (x:Bool):qdo K H (.bl x) (.type "bool")
 | int (i:Int):qdo K H (.int i) (.type "int")
 | str (x:Str):qdo K H (.str x) (.type "str")
 | flt (x:UInt64):qdo K H (.flt x) (.type "float")
 | lst {a:Addr}{xs:List V} (e:H a=some (.lst xs)):qdo K H (.ref a) (.type "list")
 | frz {a:Addr}{o:Obj}{xs:List V} (e:H a=some (.frz o (.lst xs))):qdo K H (.ref a) (.type "list")
 | tup {a:Addr}{xs:List V} (e:H a=some (.tup xs)):qdo K H (.ref a) (.type "tuple")
 | dK {a:Addr}{kvs:List (Key×V)} (e:H a=some (.dK kvs)):qdo K H (.ref a) (.type "dict")
 | dT {a:Addr}{kvs:List (List Key×V)} (e:H a=some (.dT kvs)):qdo K H (.ref a) (.type "dict")
 | ins {a C dx:Addr}{fs:List (Str×V)} (e:H a=some (.ins C dx fs)) (cl:Cls K C) (ha:findIn K (.ref C) "__class__"=some (some (.builtin "object.__class__")))
     (hn:PySem.W.specialIn K (.builtin "object.__class__") "__get__"=some (some (.builtin "getset_descriptor.__get__"))) (htk:PySem.W.takesIn K (.builtin "object.__class__")=some true)
     (hm:PySem.W.mroIn K C (.type "object")=some true):qdo K H (.ref a) (.ref C)
theorem qer {x:V}{u t:Value} (I:Inv X pins σ H s) (rx:RelV x u) (ty:qdo X.K H x t) (e:PySem.W.kitOne X.K t c=some b) (h:∀ tk,Q (.bool b) { s with toks:=tk }) :
   wpAny (model X.prog X.w) A (call (.builtin "isinstance") [u,c]) Q E s:=by
 cases ty with
 | non=>cases (show u=Value.none from rx);exact kia_one PySem.W.kitx_none I.kIn True.intro e (fun z=>nomatch z) h
 | bl y=>cases (show u=Value.bool y from rx);exact kia_one PySem.W.kitx_bool I.kIn True.intro e (fun z=>nomatch z) h
 | int i=>obtain⟨t,q⟩:=(show ∃ t,u=Value.int i t from rx);cases q;exact kia_one PySem.W.kitx_int I.kIn True.intro e (fun z=>nomatch z) h
 | str y=>obtain⟨t,q⟩:=(show ∃ t,u=Value.str y t from rx);cases q;exact kia_one PySem.W.kitx_str I.kIn True.intro e (fun z=>nomatch z) h
 | flt y=>obtain⟨t,q⟩:=(show ∃ t,u=Value.float y t from rx);cases q;exact kia_one PySem.W.kitx_float I.kIn True.intro e (fun z=>nomatch z) h
 | @lst a xs ea =>
   cases (show u=Value.ref a from rx);obtain⟨_,_,n,_,h1⟩:=(show ObjOk X.prog X.w H s.heap a (.lst xs) from I.hok a _ ea)
   exact kia_one kitx_list I.kIn ⟨_,h1,rfl⟩ e (fun z=>nomatch z) h
 | @frz a ob xs ea =>
   cases (show u=Value.ref a from rx);obtain⟨_,_,_,n,_,h1⟩:=(show ObjOk X.prog X.w H s.heap a (.frz ob (.lst xs)) from I.hok a _ ea)
   exact kia_one kitx_list I.kIn ⟨_,h1,rfl⟩ e (fun z=>nomatch z) h
 | @tup a xs ea =>
   cases (show u=Value.ref a from rx);obtain⟨_,_,_,p⟩:=(show ObjOk X.prog X.w H s.heap a (.tup xs) from I.hok a _ ea)
   obtain⟨o,h1,h2,_⟩:=p;exact kia_one PySem.W.kitx_tuple I.kIn ⟨o,h1,h2⟩ e (fun z=>nomatch z) h
 | @dK a kvs ea =>
   cases (show u=Value.ref a from rx);obtain⟨_,_,vs,_,p⟩:=(show ObjOk X.prog X.w H s.heap a (.dK kvs) from I.hok a _ ea)
   obtain⟨o,es,ep,h1,h2,_⟩:=p;exact kia_one kitx_dict I.kIn ⟨o,h1,h2.1⟩ e (fun z=>nomatch z) h
 | @dT a kvs ea =>
   cases (show u=Value.ref a from rx);obtain⟨_,_,xs,_,o,es,ep,h1,h2,_⟩:=(show ObjOk X.prog X.w H s.heap a (.dT kvs) from I.hok a _ ea)
   exact kia_one kitx_dict I.kIn ⟨o,h1,h2.1⟩ e (fun z=>nomatch z) h
 | @ins a C dx fs ea cl ha hn htk hm =>
   cases (show u=Value.ref a from rx);obtain⟨mA,O,_⟩:=qde I.hok ea;obtain⟨od,J,_⟩:=O.look;exact kia_one (PySem.W.kitx_own (cl.get _) cl.hd ha hn htk hm) I.kIn J e (fun z=>nomatch z) h
end
structure Room (k:Nat) (A:Around):Prop where
 hd:A.handled=none
 dp:A.depth+3 * k+5 < recursionLimit
 un:A.units+16 * k+200 < cLine
 gd:A.guards=some []
theorem Room.mono {j k:Nat}{A:Around} (r:Room k A) (h:j≤k):Room j A:=⟨r.hd,by have:=r.dp;omega,by have:=r.un;omega,r.gd⟩
theorem Room.deeper {k:Nat}{A:Around} (r:Room (k+1) A) (env:Env):Room k (A.deeper env) :=
 ⟨r.hd,by have:=r.dp;show A.depth+1+3 * k+5 < _;omega,by have:=r.un;show A.units+3+16 * k+200 < _;omega,r.gd⟩
theorem qgB {A:Around}{C:Addr}{us:List Value}{kw:List (Str×Value)}:(A.under (.builtin "type.__call__" ⟨.ref C::us,kw⟩)).depth=A.depth+1:=by
 first|rfl|simp[Around.under,Code.weight,Code.isCreation,Code.isGuard,Code.isCaller,Code.frames,Code.isFrame,guardIds]
theorem qgA {A:Around}{C:Addr}{us:List Value}{kw:List (Str×Value)}:(A.under (.builtin "type.__call__" ⟨.ref C::us,kw⟩)).units=A.units+1:=by
 first|rfl|simp[Around.under,Code.cUnits,Code.frames,Code.isFrame]
theorem Room.make {k:Nat}{A:Around} (r:Room (k+1) A) (C:Addr) (us:List Value) (kw:List (Str×Value)):Room k (A.under (.builtin "type.__call__" ⟨.ref C::us,kw⟩)) :=
 ⟨r.hd,by have:=r.dp;rw[qgB];omega,by have:=r.un;rw[qgA];omega,r.gd⟩
theorem Room.depth {k:Nat}{A:Around} (r:Room k A):A.depth < recursionLimit:=by have:=r.dp;omega
theorem Room.units {k:Nat}{A:Around} (r:Room k A):A.units+64 < cLine:=by have:=r.un;omega
def jD:TA:=fun _ H Q=>Q [] H
def qmR (ta:TE) (tr:TA):TA:=fun σ H Q=>ta σ H fun x H1=>tr σ H1 fun xs H2=>Q (x::xs) H2
section
variable {X:Cx}{e:Expr}{es:List Expr}{te:TE}{t:TA}{pos:Pos}
theorem qb:PA X [] jD:=fun _ _ _ _ H Q I h=>Calls.spliced_nil ⟨[],H,I,.nil,h⟩
theorem qa (ha:PE X e te) (hr:PA X es t) (hs:starEach (e::es) X.env=(false,eval e X.env)::starEach es X.env:=by rfl):PA X (e::es) (qmR te t):=by
 intro pos pins s σ H Q I h;rw[hs];show wpAny _ _ (spliced ((false,eval e X.env)::backTo pos (starEach es X.env))) _ _ s;refine Calls.spliced_cons (thn (ha pins s σ H _ I h) fun u s1 zz_=>?_);obtain⟨x,H1,I1,r1,q1⟩:=zz_;exact thn (hr pos pins s1 σ H1 _ I1 q1) fun us s2 ⟨xs,H2,I2,r2,q2⟩=>⟨x::xs,H2,I2,.cons r1 r2,q2⟩
def qnI (t:TA):TE:=fun σ H Q=>t σ H fun xs H1=>xs.length≤sizeLine∧∀ p,H1 p=none->Q (.ref p) (upd H1 p (.tup xs))
def qnM (t:TA):TE:=fun σ H Q=>t σ H fun xs H1=>xs.length≤sizeLine∧∀ p,H1 p=none->Q (.ref p) (upd H1 p (.lst xs))
theorem qZ {x1} (h:PA X es t):PE X (.Tuple es x1 pos) (qnI t):=by
 intro pins s σ H Q I hq;refine wpAny_Tuple_spliced (thn (h pos pins s σ H _ I hq) fun us s1 ⟨xs,H1,I1,r,z,q⟩=>⟨by rw[← r.length];exact z,?_⟩);have hf:H1 s1.heap.objs.size=none:=I1.hok.fresh (Nat.le_refl _);refine⟨.ref s1.heap.objs.size,upd H1 s1.heap.objs.size (.tup xs),I1.laid (t':=s1.toks) (fun b u e=>Heap.get?_push_of_some _ e) (Nat.le_refl _) ?_,rfl,q _ hf⟩;exact⟨z,us,r,⟨_,Heap.get?_push_size _ rfl,rfl,_,rfl⟩⟩
theorem qM (h:PA X es t):PE X (.List es pos) (qnM t):=by
 intro pins s σ H Q I hq;refine wpAny_List_spliced (thn (h pos pins s σ H _ I hq) fun us s1 ⟨xs,H1,I1,r,z,q⟩=>⟨by rw[← r.length];exact z,?_⟩);have hf:H1 s1.heap.objs.size=none:=I1.hok.fresh (Nat.le_refl _);refine⟨.ref s1.heap.objs.size,upd H1 s1.heap.objs.size (.lst xs),I1.laid (t':=s1.toks) (fun b u e=>Heap.get?_push_of_some _ e) (Nat.le_refl _) ?_,rfl,q _ hf⟩;exact⟨z,us,0,r,Heap.get?_push_size _ rfl⟩
end
abbrev Sp:=List V->Hp->VK->XK->Prop
abbrev CXT:=List Env->Hp->Shared->XK->Value->Shared->Prop
structure Env0 (P:Program) (w:World) (K:Frag) (mg:Str->Option Value) (base:Heap) (A:Around) (outer:List Env) (s:Shared) (H:Hp):Prop where
 frames:A.frames=some outer
 mod:Mod K mg base
 bs:∀ b o,base.get? b=some o->s.heap.get? b=some o∧H b=none
 bsz:base.objs.size≤s.heap.objs.size
 funs:s.heap.FunFrames base outer
 frf:∀ b∈frs outer,H b=none
 hok:HOk P w H s.heap
 bare:AllBare s.gens
def CE (outer:List Env) (P:Program) (w:World) (H:Hp) (s:Shared) (Q:VK) (u:Value) (s':Shared):Prop :=
 ∃ v H',s'.os=s.os∧AllBare s'.gens∧Un (frs outer) [] H H' s.heap s'.heap∧HOk P w H' s'.heap∧RelV v u∧Q v H'
def CR (CX:CXT) (outer:List Env) (P:Program) (w:World) (H:Hp) (s:Shared) (Q:VK) (E:XK) (r:Result) (s':Shared):Prop :=
 match r with
 | .ok (.ret u)=>CE outer P w H s Q u s'
 | .ok _=>False
 | .error e=>CX outer H s E e s'
structure qy (P:Program) (w:World) (K:Frag) (mg:Str->Option Value) (base:Heap) (CX:CXT) (k:Nat) (f:Addr) (fd:FuncData) (ps:List Str) (sp:Sp):Prop where
 len:∀ vs H Q E,sp vs H Q E->vs.length=ps.length
 run:∀ (A:Around) (outer:List Env) (s:Shared) (H:Hp) (args:Args) (us:List Value) (vs:List V) (Q:VK) (E:XK),Room k A->Env0 P w K mg base A outer s H->BindsTo s fd args (ps.zip us)->Vals vs us->sp vs H Q E ->
   codeAny (model P w) A (.call (.ref f) args) (CR CX outer P w H s Q E) s
theorem Env0.make {P:Program}{w:World}{K:Frag}{mg:Str->Option Value}{base:Heap}{A:Around}{outer:List Env}{s:Shared}{H:Hp} (e:Env0 P w K mg base A outer s H) (C:Addr) (us:List Value) (kw:List (Str×Value)) :
   Env0 P w K mg base (A.under (.builtin "type.__call__" ⟨.ref C::us,kw⟩)) outer s H:=⟨by first|exact e.frames|(simpa[Around.under,Code.envs,Code.isFrame,pushEnvs] using e.frames),e.mod,e.bs,e.bsz,e.funs,e.frf,e.hok,e.bare⟩
section
variable {X:Cx}{pins:List (Addr×Obj)}{σ:St}{H:Hp}{s s':Shared}
theorem Inv.env0 (I:Inv X pins σ H s):Env0 X.prog X.w X.K X.mg X.base X.A X.stack s H :=
 ⟨I.ok.frames,I.ok.mod,I.bs,Nat.le_trans I.ok.bsz I.sz,I.stack,I.stkFree,I.hok,I.bare⟩
theorem Inv.after {Q:VK}{u:Value} (I:Inv X pins σ H s) (h:CE X.stack X.prog X.w H s Q u s'):EP X pins σ Q u s':=by
 obtain⟨v,H',os,bare,un,hok,r,q⟩:=h;obtain⟨hh,g,d,t,os'⟩:=s';obtain rfl:os'=s.os:=os;exact⟨v,H',I.call (h':=hh) (g':=g) (d':=d) (t':=t) (ch:=[]) un hok bare (fun b z=>absurd z (by simp)),r,q⟩
end
def qlJ (sp:Sp) (dvs:List V) (E:XK) (t:TA):TE:=fun σ H Q=>t σ H fun vs H1=>sp (vs++dvs) H1 Q E
inductive qg7 (C:Addr) (m:Str) (sp:Sp) (dvs:List V) (E:XK) (t:TA) (σ:St) (Q:VK) (x:V) (H1:Hp):Prop
 | mk (a dx fs:_) (h1:x=.ref a) (h2:H1 a=some (.ins C dx fs)) (h3:fs.lookup m=none) (h4:t σ H1 fun vs H2=>sp (x::(vs++dvs)) H2 Q E):qg7 C m sp dvs E t σ Q x H1
def zj (C:Addr) (m:Str) (sp:Sp) (dvs:List V) (E:XK) (ta:TE) (t:TA):TE:=fun σ H Q=>ta σ H fun x H1=>qg7 C m sp dvs E t σ Q x H1
def qlE (C:Addr) (sp:Sp) (dvs:List V) (E:XK) (t:TA):TE:=fun σ H Q=>t σ H fun vs H1=>∀ x dx,H1 x=none->H1 dx=none->dx≠x ->
 sp (.ref x::(vs++dvs)) (upd (upd H1 dx (.own x)) x (.ins C dx [])) (fun v H2=>v=.non∧Q (.ref x) H2) E
def Binds (K:Frag) (fd:FuncData) (ps:List Str) (ds:List Value):Prop :=
 ∀ (s:Shared) (us:List Value),K.In s.heap->(us++ds).length=ps.length->BindsTo s fd ⟨us,[]⟩ (ps.zip (us++ds))
theorem Binds.all {K:Frag}{fd:FuncData}{ps:List Str} (h:∀ us:List Value,us.length=ps.length->bindArgs fd ⟨us,[]⟩=pure (ps.zip us)):Binds K fd ps []:=fun s us _ hl=>by
 rw[List.append_nil]at hl ⊢;exact .of_eq (h us hl)
def jw (CX:CXT) (X:Cx) (E:XK):Prop:=∀ (pins:List (Addr×Obj)) (σ:St) (H:Hp) (s:Shared) (e:Value) (s':Shared),Inv X pins σ H s->CX X.stack H s E e s'->X.xe e s'
section
variable {X:Cx}{CX:CXT}{k:Nat}{f C:Addr}{fd:FuncData}{ps:List Str}{sp:Sp}{dvs:List V}{ds:List Value}{E:XK}{x m:Str}{p pos apos:Pos}{e o:Expr}{es:List Expr}{ta:TE}{t:TA}
theorem qdU {pins:List (Addr×Obj)}{σ:St}{H:Hp}{s:Shared}{Q:VK}{us:List Value}{vs:List V} (F:qy X.prog X.w X.K X.mg X.base CX k f fd ps sp) (hr:Room k X.A) (hb:Binds X.K fd ps ds) (hd:Vals dvs ds) (hx:jw CX X E)
   (I:Inv X pins σ H s) (r:Vals vs us) (h:sp (vs++dvs) H Q E):wpAny (model X.prog X.w) X.A (call (.ref f) us) (EP X pins σ Q) X.xe s:=by
 have r2:Vals (vs++dvs) (us++ds):=r.append hd;have hl:(us++ds).length=ps.length:=by rw[← r2.length];exact F.len _ _ _ _ h
 refine wpAny_call (codeAny_mono (F.run X.A X.stack s H ⟨us,[]⟩ (us++ds) (vs++dvs) Q E hr I.env0 (hb s us I.kIn hl) r2 h) fun r s' hq=>?_)
 cases r with
 | error e=>exact hx pins σ H s e s' I hq
 | ok fl =>
   cases fl with
   | ret u=>exact I.after hq
   | next=>exact False.elim hq
   | brk=>exact False.elim hq
   | cont=>exact False.elim hq
theorem qp (F:qy X.prog X.w X.K X.mg X.base CX k f fd ps sp) (hr:Room k X.A) (hg:Gl X x) (hm:X.mg x=some (.ref f)) (hk:keepIn X.K (.ref f)=true) (hb:Binds X.K fd ps ds) (hd:Vals dvs ds) (hx:jw CX X E)
   (ha:PA X (e::es) t) (hdb:(x == ("__debug__":Str))=false:=by decide) (he:starEach (e::es) X.env=(false,eval e X.env)::starEach es X.env:=by rfl) (hpl:(backTo pos (starEach es X.env)).any (·.1)=false:=by rfl) :
   PE X (.Call (.Name x p) (e::es) [] pos) (qlJ sp dvs E t):=by
 intro pins s σ H Q I h;refine wpAny_Call_Name_kw (ZO I hg hm ?_ hdb);refine callWith_K (h₀:=X.base) I.ok.mod.kin hk (thn (ha pos pins s σ H _ I h) fun us s1 ⟨vs,H1,I1,r,q⟩=>⟨I1.kIn,?_⟩) he hpl;exact qdU F hr hb hd hx I1 r q
theorem qF {pl:Sem Bool} (he:PE X o ta) (c:Cls X.K C) (hm:qiG X.K C m f) (F:qy X.prog X.w X.K X.mg X.base CX k f fd ps sp) (hr:Room k X.A) (hb:Binds X.K fd ps ds) (hd:Vals dvs ds) (hx:jw CX X E) (ha:PA X (e::es) t)
   (hst:starEach (e::es) X.env=(false,eval e X.env)::starEach es X.env:=by rfl) (hpl:(backTo pos (starEach es X.env)).any (·.1)=false:=by rfl)
   (ht:eval (.Call (.Attribute o m apos) (e::es) [] pos) X.env=(do
     let ov ← eval o X.env
     standAt apos.atName
     let (f,first) ← holding [ov] (getMethod ov m pl)
     callWith pos f first (backTo pos (starEach (e::es) X.env)) (backToKw pos (keywordEach [] X.env))):=by rfl) :
   PE X (.Call (.Attribute o m apos) (e::es) [] pos) (zj C m sp dvs E ta t):=by
 intro pins s σ H Q I h;refine PySem.W.methodCall_KW (pl:=pl) (thn (he pins s σ H _ I h) fun u s1 zz_=>?_) ht;obtain⟨x,H1,I1,rx,a,dx,fs,ex,ea,l,q⟩:=zz_;subst ex;obtain rfl:u=Value.ref a:=rx;refine qco I1 ea c hm l ?_;refine callWith_K (first:=[.ref a]) (h₀:=X.base) I.ok.mod.kin hm.kp (thn (ha pos pins s1 σ H1 _ I1 q) fun us s2 ⟨vs,H2,I2,r,q2⟩=>⟨I2.kIn,?_⟩) hst hpl;exact qdU (us:=.ref a::us) (vs:=.ref a::vs) F hr hb hd hx I2 (.cons rfl r) q2
theorem qE {pl:Sem Bool} (he:PE X o ta) (c:Cls X.K C) (hm:qiG X.K C m f) (F:qy X.prog X.w X.K X.mg X.base CX k f fd ps sp) (hr:Room k X.A) (hb:Binds X.K fd ps ds) (hd:Vals dvs ds) (hx:jw CX X E)
   (ht:eval (.Call (.Attribute o m apos) [] [] pos) X.env=(do
     let ov ← eval o X.env
     standAt apos.atName
     let (f,first) ← holding [ov] (getMethod ov m pl)
     callWith pos f first (backTo pos (starEach [] X.env)) (backToKw pos (keywordEach [] X.env))):=by rfl) :
   PE X (.Call (.Attribute o m apos) [] [] pos) (zj C m sp dvs E ta jD):=by
 intro pins s σ H Q I h;refine PySem.W.methodCall_KW (pl:=pl) (thn (he pins s σ H _ I h) fun u s1 zz_=>?_) ht;obtain⟨x,H1,I1,rx,a,dx,fs,ex,ea,l,q⟩:=zz_;subst ex;obtain rfl:u=Value.ref a:=rx;refine qco I1 ea c hm l ?_;exact callWith_K0 (first:=[.ref a]) I1.kIn hm.kp (qdU (us:=[.ref a]) (vs:=[.ref a]) F hr hb hd hx I1 (.cons rfl .nil) q)
structure Mk (K:Frag) (C f:Addr):Prop where
 makes:makesIn K C=true
 init:findIn K (.ref C) "__init__"=some (some (.ref f))
 fn:isFn K (.ref f)=true
 kp:keepIn K (.ref C)=true
theorem qfK {pins:List (Addr×Obj)}{σ:St}{H:Hp}{s:Shared}{Q:VK}{us:List Value}{vs:List V} (M:Mk X.K C f) (F:qy X.prog X.w X.K X.mg X.base CX k f fd ps sp) (hr:Room (k+1) X.A) (hb:Binds X.K fd ps ds) (hd:Vals dvs ds)
   (hx:jw CX X E) (I:Inv X pins σ H s) (r:Vals vs us)
   (h:∀ x dx,H x=none->H dx=none->dx≠x->sp (.ref x::(vs++dvs)) (upd (upd H dx (.own x)) x (.ins C dx [])) (fun v H2=>v=.non∧Q (.ref x) H2) E) :
   wpAny (model X.prog X.w) X.A (call (.ref C) us) (EP X pins σ Q) X.xe s:=by
 have hq:=h (s.heap.objs.size+1) s.heap.objs.size (I.hok.fresh (Nat.le_succ _)) (I.hok.fresh (Nat.le_refl _)) (Nat.ne_of_lt (Nat.lt_succ_self _));have I2:=Inv.made (C:=C) I;have r2:Vals (V.ref (s.heap.objs.size+1)::(vs++dvs)) (Value.ref (s.heap.objs.size+1)::(us++ds)):=.cons rfl (r.append hd)
 have hl:(Value.ref (s.heap.objs.size+1)::us++ds).length=ps.length:=by
   have e:=r2.length;rw[F.len _ _ _ _ hq]at e;exact e.symm
 refine wpAny_call (qji (f:=f) I.kIn M.makes M.init (beq_iff_eq.mp M.fn) (codeAny_mono (F.run _ X.stack _ _ ⟨Value.ref (s.heap.objs.size+1)::us,[]⟩ (Value.ref (s.heap.objs.size+1)::(us++ds)) _ _ E (hr.make C us [])
   (I2.env0.make C us []) (hb _ (Value.ref (s.heap.objs.size+1)::us) I2.kIn hl) r2 hq) fun r s' hq'=>?_))
 cases r with
 | error e=>exact hx pins σ _ _ e s' I2 hq'
 | ok fl =>
   cases fl with
   | ret u =>
     obtain⟨v,H',I3,rv,ev,q3⟩:=I2.after hq';subst ev;exact⟨rv,⟨V.ref (s.heap.objs.size+1),H',I3,rfl,q3⟩⟩
   | next=>exact False.elim hq'
   | brk=>exact False.elim hq'
   | cont=>exact False.elim hq'
theorem zL (M:Mk X.K C f) (F:qy X.prog X.w X.K X.mg X.base CX k f fd ps sp) (hr:Room (k+1) X.A) (hg:Gl X x) (hm:X.mg x=some (.ref C)) (hb:Binds X.K fd ps ds) (hd:Vals dvs ds) (hx:jw CX X E)
   (ha:PA X (e::es) t) (hdb:(x == ("__debug__":Str))=false:=by decide) (he:starEach (e::es) X.env=(false,eval e X.env)::starEach es X.env:=by rfl) (hpl:(backTo pos (starEach es X.env)).any (·.1)=false:=by rfl) :
   PE X (.Call (.Name x p) (e::es) [] pos) (qlE C sp dvs E t):=by
 intro pins s σ H Q I h;refine wpAny_Call_Name_kw (ZO I hg hm ?_ hdb);refine callWith_K (h₀:=X.base) I.ok.mod.kin M.kp (thn (ha pos pins s σ H _ I h) fun us s1 ⟨vs,H1,I1,r,q⟩=>⟨I1.kIn,?_⟩) he hpl;exact qfK M F hr hb hd hx I1 r q
theorem qfQ (M:Mk X.K C f) (F:qy X.prog X.w X.K X.mg X.base CX k f fd ps sp) (hr:Room (k+1) X.A) (hg:Gl X x) (hm:X.mg x=some (.ref C)) (hb:Binds X.K fd ps ds) (hd:Vals dvs ds) (hx:jw CX X E)
   (hdb:(x == ("__debug__":Str))=false:=by decide):PE X (.Call (.Name x p) [] [] pos) (qlE C sp dvs E jD):=by
 intro pins s σ H Q I h;refine wpAny_Call_Name_kw (ZO I hg hm ?_ hdb);exact callWith_K0 I.kIn M.kp (qfK (us:=[]) M F hr hb hd hx I .nil h)
end
section
variable {X:Cx}{CX:CXT}{k:Nat}{f C:Addr}{fd:FuncData}{ps ks:List Str}{sp:Sp}{E:XK}{x m:Str}{p pos apos kpos:Pos}{e o:Expr}{es:List Expr}{kws:List Keyword}{te ta:TE}{t tk:TA}{nm:Option Str}
variable {g:List Value->List Value->List Value}{gV:List V->List V->List V}
end
structure ql (N P:List Str) (sc:Scope):Prop where
 kind:sc.kind=.function
 co:sc.isCoroutine=false
 gen:sc.isGenerator=false
 nd:N.Nodup
 pre:N.take P.length=P
 par:∀ x∈P,sc.names.lookup x=some .local∨sc.names.lookup x=some .cell
 nofree:∀ y∈sc.names,y.2≠.free
theorem qeB {kindOf:Str->Option NameKind}{x:Str}:∀ {binds:List (Str×Value)}{m:Str->Option Value},(∀ v,(x,v)∉binds)->bindL kindOf binds m x=m x
 | [],_,_=>rfl
 | (n,v)::r,m,h=>by
   unfold bindL;rw[qeB fun w hw=>h w (List.mem_cons_of_mem _ hw)];split
   · have:x≠n:=by rintro rfl;exact h v List.mem_cons_self
     simp[this]
   · rfl
theorem qeD {kindOf:Str->Option NameKind}{x:Str}:∀ {binds:List (Str×Value)}{m:Str->Option Value},(∀ v,(x,v)∉binds)->bindC kindOf binds m x=m x
 | [],_,_=>rfl
 | (n,v)::r,m,h=>by
   unfold bindC;rw[qeD fun w hw=>h w (List.mem_cons_of_mem _ hw)];split
   · rfl
   · have:x≠n:=by rintro rfl;exact h v List.mem_cons_self
     simp[this]
theorem qeC {kindOf:Str->Option NameKind}{x:Str}{v:Value}:∀ {P:List Str}{vs:List Value}{i:Nat}{m:Str->Option Value},P.Nodup->P[i]?=some x->vs[i]?=some v->kindOf x=some .local ->
   bindL kindOf (P.zip vs) m x=some v
 | [],_,_,_,_,h,_,_=>by simp at h
 | _::_,[],_,_,_,_,h,_=>by simp at h
 | p::P,w::vs,0,m,nd,h1,h2,hk=>by
   simp at h1 h2;subst h1;subst h2;show bindL kindOf ((p,w)::P.zip vs) m p=_;unfold bindL;rw[qeB fun v hv=>(List.nodup_cons.mp nd).1 (List.of_mem_zip hv).1,if_pos hk];simp
 | p::P,w::vs,i+1,m,nd,h1,h2,hk=>by
   show bindL kindOf ((p,w)::P.zip vs) m x=_;unfold bindL;exact qeC (i:=i) (List.nodup_cons.mp nd).2 (by simpa using h1) (by simpa using h2) hk
theorem qeE {kindOf:Str->Option NameKind}{x:Str}{v:Value}:∀ {P:List Str}{vs:List Value}{i:Nat}{m:Str->Option Value},P.Nodup->P[i]?=some x->vs[i]?=some v->kindOf x≠some .local ->
   bindC kindOf (P.zip vs) m x=some v
 | [],_,_,_,_,h,_,_=>by simp at h
 | _::_,[],_,_,_,_,h,_=>by simp at h
 | p::P,w::vs,0,m,nd,h1,h2,hk=>by
   simp at h1 h2;subst h1;subst h2;show bindC kindOf ((p,w)::P.zip vs) m p=_;unfold bindC;rw[qeD fun v hv=>(List.nodup_cons.mp nd).1 (List.of_mem_zip hv).1,if_neg hk];simp
 | p::P,w::vs,i+1,m,nd,h1,h2,hk=>by
   show bindC kindOf ((p,w)::P.zip vs) m x=_;unfold bindC;exact qeE (i:=i) (List.nodup_cons.mp nd).2 (by simpa using h1) (by simpa using h2) hk
def qcz (N:List Str) (vs:List V):St:=vs.map some++List.replicate (N.length - vs.length) none
def ze (CX:CXT) (P:Program) (w:World) (K:Frag) (mg:Str->Option Value) (base:Heap) (N:List Str) (qual:Str) (scope:Scope) (f:Addr) (cd:Value) (A:Around) (outer:List Env) (s:Shared) (H:Hp) (E:XK):Cx where
 prog:=P
 w:=w
 K:=K
 mg:=mg
 base:=base
 A:=A.deeper (envOfC qual scope s.heap.objs.size f cd)
 N:=N
 s₀:=s
 H₀:=H
 env:=envOfC qual scope s.heap.objs.size f cd
 outer:=outer
 stack:=envOfC qual scope s.heap.objs.size f cd::outer
 ex:=[]
 calm:=true
 fn:=fun _=>true
 pn:=[]
 xe:=fun e s'=>wpAny (model P w) (A.deeper (envOfC qual scope s.heap.objs.size f cd)) (leaving (envOfC qual scope s.heap.objs.size f cd) e) (fun _ s''=>CX outer H s E e s'') (fun e' s''=>CX outer H s E e' s'') s'
theorem qgf {sc:Scope}{n:Nat}{x:Str} (h:sc.names.lookup x=some .cell):∃ c,(cellsFrom n sc.names []).lookup x=some c:=by
 have q:=PySem.W.cellsFrom_some sc.names n [] (.inl h);exact Option.isSome_iff_exists.mp q
theorem qh2 {CX:CXT}{P:Program}{w:World}{K:Frag}{mg:Str->Option Value}{base:Heap}{N ps:List Str}{qual:Str}{scope:Scope}{f:Addr}{cd:Value}{A:Around}{outer:List Env}{s s1:Shared}{H:Hp}{E:XK}{us:List Value}{vs:List V}
   (S:ql N ps scope) (hd:A.handled=none) (e0:Env0 P w K mg base A outer s H) (hl:vs.length=ps.length) (r:Vals vs us)
   (x:InCallC s s.heap.objs.size (bindL (envOfC qual scope s.heap.objs.size f cd).kindOf (ps.zip us) fun _=>none) (cellsFrom (s.heap.objs.size+1) scope.names []) (bindC (envOfC qual scope s.heap.objs.size f cd).kindOf (ps.zip us) fun _=>none) s1) :
   Inv (ze CX P w K mg base N qual scope f cd A outer s H E) [] (qcz N vs) H s1:=by
 have hpl:ps.length≤N.length:=by have:=congrArg List.length S.pre;rw[List.length_take]at this;omega
 obtain⟨h1,tk,rfl,hk⟩:=x.done;have noA:∀ b:Addr,b∉(ze CX P w K mg base N qual scope f cd A outer s H E).ex:=fun b z=>absurd (show b∈([]:List Addr) from z) (by simp)
 refine⟨⟨e0.mod,S.kind,rfl,rfl,Nat.le_refl _,fun y z c h1 h2=>?_,fun y hy=>?_,fun y c _ h=>?_,fun _=>hd,Around.frames_deeper e0.frames,.inr ⟨rfl,rfl⟩,fun b z=>absurd z (noA b),e0.bs,e0.bsz,fun b _ _=>noA b,fun b z=>absurd z (noA b),e0.funs,e0.frf⟩,
   rfl,e0.bare,Un.kept hk,⟨_,x.toInCall.ns,fun i y v h1 h2 h3=>?_⟩,fun y c h=>⟨_,x.cell y c h⟩,e0.hok.fresh (Nat.le_refl _),fun y c h=>?_,fun p hp=>absurd (show p∈([]:List (Addr×Obj)) from hp) (by simp),e0.hok.kept hk,?_⟩
 · exact name_of_addr x.apart (PySem.mem_of_lookup h1) (PySem.mem_of_lookup h2)
 · have hy:scope.names.lookup y=some .cell∨scope.names.lookup y=some .free:=hy;rcases hy with hy|hy
   · exact qgf hy
   · exact absurd rfl (S.nofree _ (PySem.mem_of_lookup hy))
 · exact Nat.le_of_lt (x.above y c (PySem.mem_of_lookup h))
 · have hi:i < vs.length:=by
     unfold qcz at h2;by_cases hi:i < vs.length
     · exact hi
     · rw[List.getElem?_append_right (by simpa using hi)]at h2;rw[List.getElem?_replicate]at h2;split at h2<;>cases h2
   have ha:vs[i]?=some v:=by
     unfold qcz at h2;rw[List.getElem?_append_left (by simpa using hi),List.getElem?_map]at h2
     cases e:vs[i]? with
     | none=>rw[e]at h2;cases h2
     | some a=>rw[e]at h2;cases h2;rfl
   obtain⟨u,hu,rv⟩:=r.get ha
   have hp:ps[i]?=some y:=by
     rw[← S.pre,List.getElem?_take_of_lt (by omega)];exact h1
   have ndP:ps.Nodup:=by rw[← S.pre];exact S.nd.sublist (List.take_sublist _ _)
   refine⟨u,rv,?_⟩;rcases S.par y (List.mem_of_getElem? hp) with k|k
   · exact .inl ⟨k,qeC ndP hp hu k⟩
   · obtain⟨c,e⟩:=qgf (n:=s.heap.objs.size+1) k;refine .inr ⟨.inl k,c,e,?_⟩;have q:=x.cell y c e;rw[qeE ndP hp hu (by show scope.names.lookup y≠_;rw[k];decide)]at q;exact q
 · exact e0.hok.fresh (Nat.le_of_lt (x.above y c (PySem.mem_of_lookup h)))
 · unfold qcz;show _=N.length;rw[List.length_append,List.length_map,List.length_replicate];omega
theorem qmr {CX:CXT}{P:Program}{w:World}{K:Frag}{mg:Str->Option Value}{base:Heap}{k:Nat}{f:Addr}{name qual:Str}{params:Arguments}{body:List Stmt}{scope:Scope}{dV kV doc pm cdv ct oc:Value}{an od:Option Addr}
   {osl:Array (Option Value)}{N ps:List Str}{sp:Sp} (lk:K.lookup f=some ⟨oc,od,.func (fnOf name qual params body scope dV kV doc pm an cdv ct),osl⟩) (hcd:PySem.W.codeIn K cdv qual=true) (S:ql N ps scope)
   (len:∀ vs H Q E,sp vs H Q E->vs.length=ps.length)
   (hbody:∀ (A:Around) (outer:List Env) (s:Shared) (H:Hp) (vs:List V) (Q:VK) (E:XK),Room k (A.deeper (envOfC qual scope s.heap.objs.size f cdv))->sp vs H Q E ->
     ∃ t,PSs (ze CX P w K mg base N qual scope f cdv A outer s H E) body t∧t { nx:=fun _ H'=>Q .non H',rt:=Q } (qcz N vs) H) :
   qy P w K mg base CX (k+1) f (fnOf name qual params body scope dV kV doc pm an cdv ct) ps sp:=by
 refine⟨len,fun A outer s H args us vs Q E hr e0 hb r hsp=>?_⟩;have hl:=len _ _ _ _ hsp;have KX:K.In s.heap:=e0.mod.kin.keeps fun b o e=>(e0.bs b o e).1;have lim:s.heap.NoLimit:=e0.mod.nolimit.keeps fun b o e=>(e0.bs b o e).1
 have hkind:∀ y∈ps.zip us,scope.names.lookup y.1=some .local∨(scope.names.lookup y.1=some .cell∧((cellsFrom (s.heap.objs.size+1) scope.names []).lookup y.1).isSome=true):=fun⟨n,v⟩ hy=>by
   rcases S.par n (List.of_mem_zip hy).1 with q|q
   · exact .inl q
   · exact .inr ⟨q,PySem.W.cellsFrom_some _ _ _ (.inl q)⟩
 refine codeAny_call_function hr.depth (KX _ _ lk) rfl S.co S.gen rfl (PySem.W.codeRec_of KX hcd) (hb _ _ _ _ ?_);refine wpAny_newFunctionEnv_cells S.kind hkind fun env he s1 x=>?_;subst he;refine⟨lim.keeps x.toInCall.keep,codeAny_func ?_⟩;obtain⟨t,ht,hq⟩:=hbody A outer s H vs Q E (hr.deeper _) hsp;have I:Inv (ze CX P w K mg base N qual scope f cdv A outer s H E) [] (qcz N vs) H s1:=qh2 S hr.hd e0 hl r x;refine wpAny_mono (ht [] s1 (qcz N vs) H _ I hq) (fun fl s' hs=>?_) fun e s' hs=>hs
 have fin:∀ {σ':St}{H':Hp}{v:V}{u:Value},Inv (ze CX P w K mg base N qual scope f cdv A outer s H E) [] σ' H' s'->RelV v u->Q v H'->CE outer P w H s Q u s' :=
   fun {σ' H' v u} J rv q=>⟨v,H',J.os,J.bare,J.base,J.hok,rv,q⟩
 cases fl with
 | ret u =>
   obtain⟨v,σ',H',J,rv,q⟩:=hs;exact fin J rv q
 | next =>
   obtain⟨σ',H',J,q⟩:=hs;exact fin (v:=V.non) (u:=Value.none) J rfl q
 | brk =>
   obtain⟨_,_,_,q⟩:=hs;exact False.elim q
 | cont =>
   obtain⟨_,_,_,q⟩:=hs;exact False.elim q
section
variable {X:Cx}{x:Str}{p pos:Pos}{e:Expr}{es:List Expr}{t:TA}{id T:String}{r:List V->Hp->VK->Prop}
def tCB (r:List V->Hp->VK->Prop) (t:TA):TE:=fun σ H Q=>t σ H fun vs H1=>r vs H1 Q
theorem qq (hc:Zk X (.builtin id) r) (hg:Gl X x) (hm:X.mg x=none) (hv:bootBuiltins x=some (.builtin id)) (ha:PA X (e::es) t) (hn:x≠"__name__":=by decide) (hdb:(x == ("__debug__":Str))=false:=by decide)
   (he:starEach (e::es) X.env=(false,eval e X.env)::starEach es X.env:=by rfl) (hpl:(backTo pos (starEach es X.env)).any (·.1)=false:=by rfl):PE X (.Call (.Name x p) (e::es) [] pos) (tCB r t):=by
 intro pins s σ H Q I h;refine wpAny_Call_Name_kw (qab I hg hm hv ?_ hn hdb);exact PyProof.Rows.callWith_builtin1 (thn (ha pos pins s σ H _ I h) fun us s1 ⟨vs,H1,I1,r1,q1⟩=>hc pins s1 σ H1 vs us Q I1 r1 q1) he hpl
theorem zo (hc:Zk X (.type T) r) (hg:Gl X x) (hm:X.mg x=none) (hv:bootBuiltins x=some (.type T)) (ha:PA X (e::es) t) (hn:x≠"__name__":=by decide) (hdb:(x == ("__debug__":Str))=false:=by decide)
   (he:starEach (e::es) X.env=(false,eval e X.env)::starEach es X.env:=by rfl) (hpl:(backTo pos (starEach es X.env)).any (·.1)=false:=by rfl):PE X (.Call (.Name x p) (e::es) [] pos) (tCB r t):=by
 intro pins s σ H Q I h;refine wpAny_Call_Name_kw (qab I hg hm hv ?_ hn hdb);exact PyProof.Rows.callWith_type1 (thn (ha pos pins s σ H _ I h) fun us s1 ⟨vs,H1,I1,r1,q1⟩=>hc pins s1 σ H1 vs us Q I1 r1 q1) he hpl
end
end L2
namespace HT
open PySem PyProof.Rows
section
open PySem.SeqAt
open PySem.AutoSeq1 (wpAny_loadPart')
open PySem.MeetsSeq PySem.MeetsSeq2 PySem.MeetsSeq3
end
section
variable {prog:Program}{w:World}{A:Around}{E:Value->Shared->Prop}{s:Shared}
def sIx (n d:Nat):Option Int->Nat
 | none=>d
 | some v=>if v < 0 then (v+(n:Int)).toNat else min v.toNat n
theorem sIx_none (n d:Nat):sIx n d none=d:=rfl
theorem sIx_nat (n d k:Nat):sIx n d (some (k:Int))=min k n:=by
 show (if (k:Int) < 0 then ((k:Int)+(n:Int)).toNat else min (k:Int).toNat n)=min k n;rw[if_neg (by omega),Int.toNat_natCast]
end
end HT
namespace L2
open PySem PySem.Spec PyProof.Rows
open PySem.W (Frag)
abbrev TO:=St->Hp->(Option Int->Hp->Prop)->Prop
def PO (X:Cx) (e:Option Expr) (t:TO):Prop :=
 ∀ (pins:List (Addr×Obj)) (s:Shared) (σ:St) (H:Hp) (Q:Option Int->Hp->Prop),Inv X pins σ H s->t σ H Q ->
   wpAny (model X.prog X.w) X.A (evalPart e X.env) (fun u s'=>∃ o H',Inv X pins σ H' s'∧IsPart u o∧Q o H') X.xe s
def qeM:TO:=fun _ H Q=>Q none H
inductive qg5 (Q:(Option Int->Hp->Prop)) (x:V) (H1:Hp):Prop
 | mk (i:_) (h1:x=.int i) (h2:Q (some i) H1):qg5 Q x H1
def qmN (t:TE):TO:=fun σ H Q=>t σ H fun x H1=>qg5 Q x H1
section
variable {X:Cx}{e:Expr}{te:TE}{lo hi:Option Expr}{tl th:TO}{pos p2:Pos}
theorem ZJ:PO X none qeM:=by
 intro pins s σ H Q I h;rw[evalPart_none];exact wpAny_pure ⟨none,H,I,.none,h⟩
theorem zK (h:PE X e te):PO X (some e) (qmN te):=by
 intro pins s σ H Q I hw;rw[evalPart_some];refine thn (h pins s σ H _ I hw) fun u s1 zz_=>?_;obtain⟨x,H1,I1,r1,q1⟩:=zz_;obtain⟨i,rfl,q⟩:=q1;obtain⟨t,rfl⟩:=r1;exact⟨some i,H1,I1,.int i t,q⟩
def SlR (X:Cx) (r:V->Option Int->Option Int->Hp->VK->Prop):Prop :=
 ∀ (pins:List (Addr×Obj)) (s:Shared) (σ:St) (H:Hp) (x:V) (v vl vu:Value) (lo hi:Option Int) (sl:Addr) (Q:VK),Inv X pins σ H s->RelV x v->s.heap.IsSliceOf sl vl vu .none->IsPart vl lo->IsPart vu hi->r x lo hi H Q ->
   ∃ T id,typeLookup (.type T) "__getitem__"=pure (some (.builtin id))∧s.TypeIs v T∧wpAny (model X.prog X.w) X.A (getItem v (.ref sl)) (EP X pins σ Q) X.xe s
theorem SlR.or {r r':V->Option Int->Option Int->Hp->VK->Prop} (h:SlR X r) (h':SlR X r'):SlR X (fun x lo hi H Q=>r x lo hi H Q∨r' x lo hi H Q):=by
 intro pins s σ H x v vl vu lo hi sl Q I rx hs pl pu q;rcases q with q|q
 · exact h pins s σ H x v vl vu lo hi sl Q I rx hs pl pu q
 · exact h' pins s σ H x v vl vu lo hi sl Q I rx hs pl pu q
def tSl (r:V->Option Int->Option Int->Hp->VK->Prop) (te:TE) (tl th:TO):TE:=fun σ H Q=>te σ H fun x H1=>tl σ H1 fun l H2=>th σ H2 fun u H3=>r x l u H3 Q
theorem z3 {r:V->Option Int->Option Int->Hp->VK->Prop} (hr:SlR X r) (he:PE X e te) (hl:PO X lo tl) (hu:PO X hi th):PE X (.Subscript e (.Slice lo hi none p2) pos) (tSl r te tl th):=by
 intro pins s σ H Q I h;refine Subscript_ (thn (he pins s σ H _ I h) fun v s1 zz_=>?_);obtain⟨x,H1,I1,r1,q1⟩:=zz_;refine wpAny_Slice (thn (hl pins s1 σ H1 _ I1 q1) fun vl s2 ⟨l,H2,I2,pl,q2⟩=>thn (hu pins s2 σ H2 _ I2 q2) fun vu s3 zz_=>?_);obtain⟨u,H3,I3,pu,q3⟩:=zz_;rw[evalPart_none];refine wpAny_pure ?_;have I4:Inv X pins σ H3 { s3 with heap:=s3.heap.push { cls:=.type "slice",data:=.fields #[vl,vu,.none] } }:=I3.kept (t':=s3.toks) fun b ob q=>Heap.get?_push_of_some _ q;obtain⟨T,id,hT,ht,hg⟩:=hr pins { s3 with heap:=s3.heap.push { cls:=.type "slice",data:=.fields #[vl,vu,.none] } } σ H3 x v vl vu l u s3.heap.objs.size Q I4 r1 (Heap.IsSliceOf.new ..) pl pu q3;show wpAny (model X.prog X.w) X.A (subscriptTail e (.Slice lo hi none p2) v (.ref s3.heap.objs.size)) (EP X pins σ Q) X.xe { s3 with heap:=s3.heap.push { cls:=.type "slice",data:=.fields #[vl,vu,.none] } };exact tail_any (ops:=[.ref s3.heap.objs.size,v]) ht hT hg (by with_unfolding_all rfl)
def qew (xs:List V) (lo hi:Option Int):List V:=(xs.drop (HT.sIx xs.length 0 lo)).take (HT.sIx xs.length xs.length hi - HT.sIx xs.length 0 lo)
theorem qfh (xs:List V) (lo hi:Option Int):(qew xs lo hi).length≤xs.length:=by
 unfold qew;refine Nat.le_trans (List.length_take_le' _ _) ?_;rw[List.length_drop];exact Nat.sub_le _ _
end
def ixN (n:Nat) (i:Int):Option Nat:=if 0≤i then (if i < n then some i.toNat else none) else if -(n:Int)≤i then some (i+n).toNat else none
def atI {α:Type} (xs:List α) (i:Int):Option α:=(ixN xs.length i).bind fun j=>xs[j]?
theorem qe9 {n:Nat}{i:Int}{j:Nat} (h:ixN n i=some j):seqIndex? i n=some j∧j < n∧-(n:Int)≤i∧i < n:=by
 unfold ixN at h;by_cases h0:0≤i
 · rw[if_pos h0]at h;by_cases h1:i < n
   · rw[if_pos h1]at h;have e:i.toNat=j:=Option.some.inj h;exact⟨by rw[seqIndex_of h0 h1,e],by omega,by omega,h1⟩
   · rw[if_neg h1]at h;cases h
 · rw[if_neg h0]at h;by_cases h1:-(n:Int)≤i
   · rw[if_pos h1]at h;have e:(i+n).toNat=j:=Option.some.inj h;exact⟨by rw[seqIndex_neg (by omega) h1,e],by omega,h1,by omega⟩
   · rw[if_neg h1]at h;cases h
theorem qfi {α:Type}{xs:List α}{i:Int}{v:α} (h:atI xs i=some v):∃ j,seqIndex? i xs.length=some j∧xs[j]?=some v∧j < xs.length∧-(xs.length:Int)≤i∧i < xs.length:=by
 unfold atI at h
 cases e:ixN xs.length i with
 | none=>rw[e]at h;cases h
 | some j =>
   rw[e]at h;obtain⟨h1,h2,h3,h4⟩:=qe9 e;exact⟨j,h1,h,h2,h3,h4⟩
theorem qT {α:Type}{xs:List α}{j:Nat}{v:α} (h:xs[j]?=some v):atI xs (j:Int)=some v:=by
 have hj:j < xs.length:=(List.getElem?_eq_some_iff.mp h).1
 have e:ixN xs.length (j:Int)=some j:=by
   unfold ixN;rw[if_pos (by omega),if_pos (by omega)];simp
 unfold atI;rw[e];exact h
def qlm (b:Expr):Prop:=∀ o i,subscripted b false o i=operate [o,i] (getItem o i)
def IxR (X:Cx) (r:R2):Prop :=
 ∀ (value slice:Expr) (pins:List (Addr×Obj)) (s:Shared) (σ:St) (H:Hp) (x y:V) (v u:Value) (Q:VK),Inv X pins σ H s->RelV x v->RelV y u->r x y H Q ->
   subscripted slice false v u=operate [v,u] (getItem v u)->wpAny (model X.prog X.w) X.A (subscriptTail value slice v u) (EP X pins σ Q) X.xe s
def MtR (X:Cx) (id:String) (r:V->List V->Hp->VK->Prop):Prop :=
 ∀ (pins:List (Addr×Obj)) (s:Shared) (σ:St) (H:Hp) (x:V) (xs:List V) (v:Value) (us:List Value) (Q:VK),Inv X pins σ H s->RelV x v->Vals xs us->r x xs H Q ->
   wpAny (model X.prog X.w) X.A (call (.builtin id) (v::us)) (EP X pins σ Q) X.xe s
section
variable {X:Cx}{a b:Expr}{ta tb:TE}{pos:Pos}
theorem IxR.or {r r':R2} (h:IxR X r) (h':IxR X r'):IxR X (fun x y H Q=>r x y H Q∨r' x y H Q):=by
 intro value slice pins s σ H x y v u Q I rx ry q hs;rcases q with q|q
 · exact h value slice pins s σ H x y v u Q I rx ry q hs
 · exact h' value slice pins s σ H x y v u Q I rx ry q hs
theorem qr {r:R2} (hr:IxR X r) (ha:PE X a ta) (hb:PE X b tb) (hs:qlm b):PE X (.Subscript a b pos) (tOp r ta tb):=by
 intro pins s σ H Q I h;exact Subscript_ (qnd ha hb I h fun v u s2 x y H2 I2 rx ry q=>hr a b pins s2 σ H2 x y v u Q I2 rx ry q (hs _ _))
inductive qjT (K:Frag) (x:V) (y:V) (H:Hp) (Q:VK):Prop
 | mk (p xs i v:_) (h1:x=.ref p) (h2:y=.int i) (h3:SqL K H p xs) (h4:atI xs i=some v) (h5:Q v H):qjT K x y H Q
def qns (K:Frag):R2:=fun x y H Q=>qjT K x y H Q
inductive qjS (K:Frag) (x:V) (y:V) (H:Hp) (Q:VK):Prop
 | mk (p xs i v:_) (h1:x=.ref p) (h2:y=.int i) (h3:SqT K H p xs) (h4:atI xs i=some v) (h5:Q v H):qjS K x y H Q
def qnq (K:Frag):R2:=fun x y H Q=>qjS K x y H Q
def qnr:R2:=fun x y H Q=>∃ z i c,x=.str z∧y=.int i∧z.length≤sizeLine∧atI z.cps.toList i=some c∧Q (.str ⟨#[c]⟩) H
theorem ix_list:IxR X (qns X.K):=by
 intro value slice pins s σ H x y v u Q I rx ry h hs;obtain⟨p,xs,i,z,rfl,rfl,hq,he,q⟩:=h;cases rx;obtain⟨t,rfl⟩:=ry;obtain⟨its,r,pl,hz⟩:=I.list hq;obtain⟨j,h1,h2,h3,h4,h5⟩:=qfi he;obtain⟨w,ew,rw'⟩:=r.get h2;have hl:=r.length;have hn:=qcm;have fin:EP X pins σ Q w s:=⟨z,H,I,rw',q⟩
 by_cases h0:0≤i
 · have hj:i.toNat=j:=by
     rw[seqIndex_of h0 h5]at h1;exact Option.some.inj h1
   exact item_listR pl.isList h0 (by omega) (by rw[hj];simpa using ew) fin hs
 · have hj:(i+(its.toArray.size:Int)).toNat=j:=by
     rw[seqIndex_neg (by omega) h4]at h1;rw[List.size_toArray,← hl];exact Option.some.inj h1
   exact subscriptTail_builtinR (x:=w) pl.isList.typeIs slot_list_getitem.lookup
     (wpAny_getItem_list_neg (Q:=fun r s'=>r=w∧EP X pins σ Q r s') pl.isList (by omega) (by rw[List.size_toArray]<;>omega) (by omega) (by rw[hj];simpa using ew) ⟨rfl,fin⟩) hs
theorem ix_tup:IxR X (qnq X.K):=by
 intro value slice pins s σ H x y v u Q I rx ry h hs;obtain⟨p,xs,i,z,rfl,rfl,hq,he,q⟩:=h;cases rx;obtain⟨t,rfl⟩:=ry;obtain⟨its,r,pl,hz⟩:=I.tuple hq;obtain⟨j,h1,h2,h3,h4,h5⟩:=qfi he;obtain⟨w,ew,rw'⟩:=r.get h2;have hl:=r.length;have hn:=qcm;have fin:EP X pins σ Q w s:=⟨z,H,I,rw',q⟩
 exact subscriptTail_builtinR (x:=w) pl.typeIs slot_tuple_getitem.lookup
   (getItem_tuple (j:=j) (Q:=fun r s'=>r=w∧EP X pins σ Q r s') pl (by omega) (by omega) (by rw[List.size_toArray,← hl];exact h1) (by simpa using ew) ⟨rfl,fin⟩) hs
theorem qmk:IxR X qnr:=by
 intro value slice pins s σ H x y v u Q I rx ry h hs;obtain⟨z,i,c,rfl,rfl,hz,he,q⟩:=h;obtain⟨t,rfl⟩:=rx;obtain⟨t',rfl⟩:=ry;obtain⟨j,h1,h2,h3,h4,h5⟩:=qfi he;have hl:z.cps.toList.length=z.length:=by simp[Str.length]
 rw[hl]at h1 h4 h5;have hn:=qcm
 exact tail_any (typeIs_str s z t) slot_str_getitem.lookup (getItem_str (c:=c) (by
   have e1:decide (i < -(2 ^ 63:Int))=false:=decide_eq_false (by omega);have e2:decide (i ≥ 2 ^ 63)=false:=decide_eq_false (by omega)
   rw[e1,e2,Bool.or_false]) (by rw[h1];simpa using h2) ⟨.str ⟨#[c]⟩,H,I.tok _,⟨_,rfl⟩,q⟩) hs
def rIx (K:Frag):R2:=fun x y H Q=>qns K x y H Q∨qnq K x y H Q∨qnr x y H Q
theorem qi:IxR X (rIx X.K):=ix_list.or (ix_tup.or qmk)
theorem qgz (its:List Value) (n j:Nat) (u:Value):Obj.mapSeq (·.setIfInBounds j u) { cls:=.type "list",data:=.seq its.toArray n }={ cls:=.type "list",data:=.seq (its.set j u).toArray n }:=by
 simp[Obj.mapSeq]
theorem Inv.lst {pins:List (Addr×Obj)}{σ:St}{H:Hp}{s:Shared}{p:Addr}{xs:List V} (I:Inv X pins σ H s) (h:H p=some (.lst xs)) :
   ∃ (its:List Value) (n:Nat),Vals xs its∧s.heap.get? p=some { cls:=.type "list",data:=.seq its.toArray n }∧xs.length≤sizeLine:=by
 obtain⟨z,its,n,r,e⟩:=I.hok p _ h;exact⟨its,n,r,e,z⟩
theorem Inv.lstUpd {pins:List (Addr×Obj)}{σ:St}{H:Hp}{s:Shared}{p:Addr}{xs ys:List V}{its its':List Value}{n n':Nat}{f:Obj->Obj} (I:Inv X pins σ H s) (h:H p=some (.lst xs))
   (ho:s.heap.get? p=some { cls:=.type "list",data:=.seq its.toArray n }) (hf:f { cls:=.type "list",data:=.seq its.toArray n }={ cls:=.type "list",data:=.seq its'.toArray n' }) (r:Vals ys its') (hz:ys.length≤sizeLine) (t:Nat) :
   Inv X pins σ (upd H p (.lst ys)) { s with heap:=s.heap.update p f,toks:=t }:=by
 have e:(s.heap.update p f).get? p=some { cls:=.type "list",data:=.seq its'.toArray n' }:=by
   rw[Heap.get?_update_self f ho (by rw[hf]<;>rfl),hf]
 refine I.write (x:=p) (e:=p) (by rw[h];trivial) (.inl rfl) (fun b u hb q=>(Heap.get?_update_other _ _ (Ne.symm hb)).trans q) ⟨_,e⟩ ?_;exact⟨hz,its',n',r,e⟩
inductive qhq (o:V) (i:V) (v:V) (H:Hp) (Q:(Hp->Prop)):Prop
 | mk (p xs k j:_) (h1:o=.ref p) (h2:i=.int k) (h3:H p=some (.lst xs)) (h4:ixN xs.length k=some j) (h5:Q (upd H p (.lst (xs.set j v)))):qhq o i v H Q
def qmW:V->V->V->Hp->(Hp->Prop)->Prop:=fun o i v H Q=>qhq o i v H Q
theorem qcC:qnC X qmW:=by
 intro pins s σ H o i v ov iv u Q I ro ri rv h;obtain⟨p,xs,k,j,rfl,rfl,hp,hj,q⟩:=h;cases ro;obtain⟨t,rfl⟩:=ri;obtain⟨its,n,r,ho,hz⟩:=I.lst hp;obtain⟨h1,h2,h3,h4⟩:=qe9 hj;have hl:=r.length;have hn:=qcm
 have I':Inv X pins σ (upd H p (.lst (xs.set j v))) { s with heap:=s.heap.update p (Obj.mapSeq (·.setIfInBounds j u)) } :=
   I.lstUpd hp ho (qgz its n j u) (r.set rv j) (by rw[List.length_set];exact hz) s.toks
 by_cases h0:0≤k
 · have hk:k.toNat=j:=by
     rw[seqIndex_of h0 h4]at h1;exact Option.some.inj h1
   exact PySem.W.ki_setAt ho h0 (by omega) (by rw[List.size_toArray,← hl];exact h4) (by rw[hk];exact⟨_,I',q⟩)
 · have hk:(k+(its.toArray.size:Int)).toNat=j:=by
     rw[seqIndex_neg (by omega) h3]at h1;rw[List.size_toArray,← hl];exact Option.some.inj h1
   exact PySem.W.ki_setBack ho (by omega) (by rw[List.size_toArray,← hl];exact h3) (by omega) (by rw[hk];exact⟨_,I',q⟩)
theorem tn_ (n:Nat):((-1:Int)+(n:Int)).toNat=n - 1:=by
 rw[Int.add_comm];exact Int.toNat_sub n 1
theorem qjJ (i:Int) (n:Nat):max 0 (min (if i < 0 then i+(n:Int) else i) (n:Int))=((if i < 0 then (i+(n:Int)).toNat else min i.toNat n:Nat):Int):=by
 by_cases h:i < 0
 · have h':i+(n:Int)≤n:=by have:=Int.add_le_add_right (Int.le_of_lt h) n;rwa [Int.zero_add]at this
   rw[if_pos h,if_pos h,Int.min_eq_left h',Int.ofNat_toNat,Int.max_comm]
 · obtain⟨k,rfl⟩:=Int.eq_ofNat_of_zero_le (Int.not_lt.mp h);rw[if_neg h,if_neg h,Int.toNat_natCast];rcases Nat.le_total k n with g|g
   · rw[Nat.min_eq_left g,Int.min_eq_left (Int.ofNat_le.mpr g),Int.max_eq_right (Int.natCast_nonneg _)]
   · rw[Nat.min_eq_right g,Int.min_eq_right (Int.ofNat_le.mpr g),Int.max_eq_right (Int.natCast_nonneg _)]
theorem qdB (lo hi:Option Int) (n:Nat):(sliceBounds lo hi none n).1=((HT.sIx n 0 lo:Nat):Int)∧(sliceBounds lo hi none n).2.1=((HT.sIx n n hi:Nat):Int)∧(sliceBounds lo hi none n).2.2=1:=by
 refine⟨?_,?_,rfl⟩
 · cases lo with
   | none=>simp[sliceBounds,HT.sIx]
   | some i =>
     simp only[sliceBounds,HT.sIx,Option.getD_none,show (1:Int) > 0 by decide,if_true];exact qjJ i n
 · cases hi with
   | none=>simp[sliceBounds,HT.sIx]
   | some i =>
     simp only[sliceBounds,HT.sIx,Option.getD_none,show (1:Int) > 0 by decide,if_true];exact qjJ i n
theorem qcB (its:List Value) (lo hi:Option Int):slicePick its.toArray lo hi none=((its.drop (HT.sIx its.length 0 lo)).take (HT.sIx its.length its.length hi - HT.sIx its.length 0 lo)).toArray:=by
 obtain⟨h1,h2,h3⟩:=qdB lo hi its.toArray.size;unfold slicePick;rw[h1,h2,h3];simp only[sliceRange_one,pick_run,List.size_toArray]<;>rfl
inductive qjP (K:Frag) (x:V) (lo:Option Int) (hi:Option Int) (H:Hp) (Q:VK):Prop
 | mk (a xs:_) (h1:x=.ref a) (h2:SqL K H a xs) (h3:∀ p,H p=none->Q (.ref p) (upd H p (.lst (qew xs lo hi)))):qjP K x lo hi H Q
def qnn (K:Frag):V->Option Int->Option Int->Hp->VK->Prop:=fun x lo hi H Q=>qjP K x lo hi H Q
theorem sl_list:SlR X (qnn X.K):=by
 intro pins s σ H x v vl vu lo hi sl Q I rx hs pl pu h;obtain⟨a,xs,rfl,hx,q⟩:=h;cases rx;obtain⟨its,r,ht,hz⟩:=I.list hx;have hlen:=r.length;refine⟨"list",_,slot_list_getitem.lookup,ht.isList.typeIs,?_⟩;refine wpAny_getItem_list_slice ht.isList hs pl pu .none (by simp) ?_ (by rw[List.size_toArray]<;>omega);rw[qcB,← hlen];refine⟨.ref s.heap.objs.size,_,I.laid (t':=s.toks) (o:=.lst (qew xs lo hi)) (fun b ob q=>Heap.get?_push_of_some _ q) (Nat.le_refl _) ?_,rfl,q _ (I.hok.fresh (Nat.le_refl _))⟩;exact⟨Nat.le_trans (qfh xs lo hi) hz,_,0,(r.drop (HT.sIx xs.length 0 lo)).take (HT.sIx xs.length xs.length hi - HT.sIx xs.length 0 lo),Heap.get?_push_size _ rfl⟩
def qao:V->Bool
 | .non=>true
 | .bl _=>true
 | .int _=>true
 | .str _=>true
 | _=>false
def eqV:V->V->Bool
 | .non,.non=>true
 | .bl a,.bl b=>a == b
 | .bl a,.int b=>(if a then 1 else 0) == b
 | .int a,.bl b=>a == (if b then 1 else 0)
 | .int a,.int b=>a == b
 | .str a,.str b=>a == b
 | _,_=>false
theorem qmt {A:Around}{s:Shared}{y x:V}{u v:Value} (ry:RelV y u) (rx:RelV x v) (fy:qao y=true) (fx:qao x=true):SeqAt.EqAt A s u v (eqV y x):=by
 cases y with
 | non =>
   cases ry
   cases x with
   | non=>cases rx;exact SeqAt.EqAt.same _
   | bl b=>cases rx;exact SeqAt.EqAt.none_bool b
   | int b=>obtain⟨t,rfl⟩:=rx;exact SeqAt.EqAt.none_int b t
   | str b=>obtain⟨t,rfl⟩:=rx;exact SeqAt.EqAt.none_str b t
   | _=>exact absurd (show false=true from fx) Bool.false_ne_true
 | bl a =>
   cases ry
   cases x with
   | non=>cases rx;exact SeqAt.EqAt.bool_none a
   | bl b=>cases rx;exact SeqAt.EqAt.bool_bool a b
   | int b=>obtain⟨t,rfl⟩:=rx;exact SeqAt.EqAt.bool_int a b t
   | str b=>obtain⟨t,rfl⟩:=rx;exact SeqAt.EqAt.bool_str a b t
   | _=>exact absurd (show false=true from fx) Bool.false_ne_true
 | int a =>
   obtain⟨t',rfl⟩:=ry
   cases x with
   | non=>cases rx;exact SeqAt.EqAt.int_none a t'
   | bl b=>cases rx;exact SeqAt.EqAt.int_bool a t' b
   | int b=>obtain⟨t,rfl⟩:=rx;exact SeqAt.EqAt.int_int a t' b t
   | str b=>obtain⟨t,rfl⟩:=rx;exact SeqAt.EqAt.int_str a t' b t
   | _=>exact absurd (show false=true from fx) Bool.false_ne_true
 | str a =>
   obtain⟨t',rfl⟩:=ry
   cases x with
   | non=>cases rx;exact SeqAt.EqAt.str_none a t'
   | bl b=>cases rx;exact SeqAt.EqAt.str_bool a t' b
   | int b=>obtain⟨t,rfl⟩:=rx;exact SeqAt.EqAt.str_int a t' b t
   | str b=>obtain⟨t,rfl⟩:=rx;exact SeqAt.EqAt.str_str a t' b t
   | _=>exact absurd (show false=true from fx) Bool.false_ne_true
 | _=>exact absurd (show false=true from fy) Bool.false_ne_true
def eqU (x:V) (u:Value):Bool:=match u with
 | .none=>eqV .non x
 | .bool b=>eqV (.bl b) x
 | .int i _=>eqV (.int i) x
 | .str z _=>eqV (.str z) x
 | _=>false
theorem qib {x y:V}{u:Value} (r:RelV y u) (f:qao y=true):eqU x u=eqV y x:=by
 cases y with
 | non=>cases r;rfl
 | bl b=>cases r;rfl
 | int i=>obtain⟨t,rfl⟩:=r;rfl
 | str z=>obtain⟨t,rfl⟩:=r;rfl
 | _=>exact absurd (show false=true from f) Bool.false_ne_true
theorem qbE {x:V}:∀ {xs:List V}{us:List Value},Vals xs us->xs.all qao=true->us.any (eqU x)=xs.any fun y=>eqV y x
 | _,_,.nil,_=>rfl
 | y::xs,u::us,.cons r t,f=>by
   rw[List.all_cons,Bool.and_eq_true]at f;rw[List.any_cons,List.any_cons,qib r f.1,qbE t f.2]
theorem ZX {A:Around}{s:Shared}{x:V}{v:Value} (rx:RelV x v) (fx:qao x=true):∀ {xs:List V}{us:List Value},Vals xs us->xs.all qao=true->∀ u∈us,SeqAt.EqAt A s u v (eqU x u)
 | _,_,.nil,_=>fun u hu=>by cases hu
 | y::xs,u::us,.cons r t,f=>fun u' hu=>by
   rw[List.all_cons,Bool.and_eq_true]at f;rcases List.mem_cons.mp hu with rfl|hu
   · rw[qib r f.1];exact qmt r rx f.1 fx
   · exact ZX rx fx t f.2 u' hu
def inV (x:V) (xs:List V):Bool:=xs.any fun y=>eqV y x
inductive qlT (K:Frag) (neg:Bool) (x:V) (y:V) (H:Hp) (Q:VK):Prop
 | mk (p xs:_) (h1:y=.ref p) (h2:(SqL K H p xs∨SqT K H p xs)) (h3:qao x=true) (h4:xs.all qao=true) (h5:Q (.bl (if neg then !inV x xs else inV x xs)) H):qlT K neg x y H Q
def rIn (K:Frag) (neg:Bool):R2:=fun x y H Q=>qlT K neg x y H Q
theorem qbb:OpR X (compareOp .In) (rIn X.K false):=by
 intro pins s σ H x y v u Q I rx ry h;obtain⟨p,xs,rfl,hq,fx,fs,q⟩:=h;cases ry;rcases hq with hq|hq
 · obtain⟨its,r,pl,hz⟩:=I.list hq;refine SeqAt.in_listAt (eqU x) pl.isList (fun w hw=>ZX rx fx r fs w (by simpa using hw)) ⟨.bl _,H,I,rfl,?_⟩;rw[show its.toArray.any (eqU x)=its.any (eqU x) by simp,qbE r fs];exact q
 · obtain⟨its,r,pl,hz⟩:=I.tuple hq;refine SeqAt.in_tupleAt (eqU x) pl (fun w hw=>ZX rx fx r fs w (by simpa using hw)) ⟨.bl _,H,I,rfl,?_⟩;rw[show its.toArray.any (eqU x)=its.any (eqU x) by simp,qbE r fs];exact q
theorem J7:OpR X (compareOp .NotIn) (rIn X.K true):=by
 intro pins s σ H x y v u Q I rx ry h;obtain⟨p,xs,rfl,hq,fx,fs,q⟩:=h;cases ry;rcases hq with hq|hq
 · obtain⟨its,r,pl,hz⟩:=I.list hq;refine SeqAt.notIn_listAt (eqU x) pl.isList (fun w hw=>ZX rx fx r fs w (by simpa using hw)) ⟨.bl _,H,I,rfl,?_⟩;rw[show its.toArray.any (eqU x)=its.any (eqU x) by simp,qbE r fs];exact q
 · obtain⟨its,r,pl,hz⟩:=I.tuple hq;refine SeqAt.notIn_tupleAt (eqU x) pl (fun w hw=>ZX rx fx r fs w (by simpa using hw)) ⟨.bl _,H,I,rfl,?_⟩;rw[show its.toArray.any (eqU x)=its.any (eqU x) by simp,qbE r fs];exact q
theorem zm:Zk X (.type "list") (fun xs H Q=>∃ p ys,xs=[.ref p]∧(SqL X.K H p ys∨SqT X.K H p ys)∧∀ l,H l=none->Q (.ref l) (upd H l (.lst ys))):=by
 intro pins s σ H xs us Q I r h;obtain⟨p,ys,rfl,hq,q⟩:=h;obtain⟨u,rfl,rx⟩:=Jm r;cases rx;have fin:∀ (its:List Value),Vals ys its->ys.length≤sizeLine->∀ (h':Heap) (c':Nat),(∀ b o',s.heap.get? b=some o'->h'.get? b=some o') ->
     h'.get? s.heap.objs.size=some { cls:=.type "list",dict:=none,data:=.seq its.toArray c',slots:=#[] }->EP X pins σ Q (.ref s.heap.objs.size) { s with heap:=h' }:=fun its r' hz h' c' kp e =>
   ⟨.ref s.heap.objs.size,_,I.laid (t':=s.toks) kp (Nat.le_refl _) (show ObjOk X.prog X.w _ h' _ (.lst ys) from ⟨hz,its,c',r',e⟩),rfl,q _ (I.hok.fresh (Nat.le_refl _))⟩
 rcases hq with hq|hq
 · obtain⟨its,r',pl,hz⟩:=I.list hq;have hlen:=r'.length;obtain⟨o,ho,hc,n,hd⟩:=pl.isList;exact call_list_seq p (.inl rfl) ho hc hd (fun h' c' kp e=>fin its r' hz h' c' kp e) (by simp only[List.size_toArray]<;>omega)
 · obtain⟨its,r',pl,hz⟩:=I.tuple hq;have hlen:=r'.length;obtain⟨o,ho,hc,n,hd⟩:=pl;exact call_list_seq p (.inr rfl) ho hc hd (fun h' c' kp e=>fin its r' hz h' c' kp e) (by simp only[List.size_toArray]<;>omega)
def tyV (K:Frag) (T:String) (x:V) (H:Hp):Prop:=match x with
 | .str _=>T="str"
 | .int _=>T="int"
 | .ref p=>(T="list"∧∃ xs,SqL K H p xs)∨(T="tuple"∧∃ o,K.lookup p=some o∧o.cls=.type "tuple"∧o.dict=none) ∨
     (T="dict"∧((∃ kvs,H p=some (.dK kvs))∨∃ kvs,H p=some (.dT kvs)))∨(T="set"∧∃ S n,H p=some (.set S n))
 | _=>False
theorem qlt {pins:List (Addr×Obj)}{σ:St}{H:Hp}{s:Shared}{T:String}{x:V}{v:Value} (I:Inv X pins σ H s) (r:RelV x v) (ty:tyV X.K T x H) :
   s.TypeIs v T∧∀ a,v=.ref a->∃ ob,s.heap.get? a=some ob∧ob.dict=none:=by
 cases x with
 | str z =>
   obtain⟨t,rfl⟩:=r;cases (show T="str" from ty);exact⟨typeIs_str s z t,fun _ e=>nomatch e⟩
 | int i =>
   obtain⟨t,rfl⟩:=r;cases (show T="int" from ty);exact⟨typeIs_int s i t,fun _ e=>nomatch e⟩
 | ref p =>
   cases r;rcases ty with ⟨rfl,xs,hq⟩|⟨rfl,o,hk,hc,hd⟩|⟨rfl,hk⟩|⟨rfl,S,n,hk⟩
   · obtain⟨its,_,pl,_⟩:=I.list hq;refine⟨pl.isList.typeIs,fun a e=>?_⟩;cases e;obtain⟨o,n,e,c,hd,_⟩:=pl;exact⟨o,e,hd⟩
   · refine⟨⟨o,I.kIn p o hk,hc⟩,fun a e=>?_⟩;cases e;exact⟨o,I.kIn _ o hk,hd⟩
   · have z:∃ o,s.heap.get? p=some o∧o.ExactDict:=by
       rcases hk with ⟨kvs,hk⟩|⟨kvs,hk⟩
       · obtain⟨_,_,_,_,o,_,_,e,ex,_⟩:=I.hok p _ hk;exact⟨o,e,ex⟩
       · obtain⟨_,_,_,_,o,_,_,e,ex,_⟩:=I.hok p _ hk;exact⟨o,e,ex⟩
     obtain⟨o,e,ex⟩:=z;refine⟨⟨o,e,ex.1⟩,fun a e2=>?_⟩;cases e2;exact⟨o,e,ex.2.1⟩
   · obtain⟨o,_,_,_,e,ex,_⟩:=I.hok p _ hk;refine⟨⟨o,e,ex.1⟩,fun a e2=>?_⟩;cases e2;exact⟨o,e,ex.2.1⟩
 | _=>exact False.elim ty
def tBM (K:Frag) (T:String) (r:V->List V->Hp->VK->Prop) (to:TE) (t:TA):TE:=fun σ H Q=>to σ H fun x H1=>tyV K T x H1∧t σ H1 fun xs H2=>r x xs H2 Q
variable {o e:Expr}{es:List Expr}{to:TE}{t:TA}{name:Str}{apos cpos:Pos}{T id:String}{r:V->List V->Hp->VK->Prop}
theorem Zi (pa:PlainAttrs T) (slot:Slot T name id) (hty:typeOf (.builtin id)=pure (.type "method_descriptor")) (hm:MtR X id r) (ho:PE X o to) (ha:PA X (e::es) t)
   (hbase:attributeBase o name X.env (eval o X.env)=eval o X.env:=by rfl)
   (hfew:((backTo cpos (starEach (e::es) X.env)).all (fun x=>!x.1) && (backToKw cpos (keywordEach [] X.env)).all (fun x=>x.1.isSome)
     && decide ((e::es).length+([]:List Keyword).length+(if ([]:List Keyword).isEmpty then 0 else 1) < 30))=true:=by rfl)
   (hline:(apos.endLine == cpos.line)=true:=by rfl) (hs:starEach (e::es) X.env=(false,eval e X.env)::starEach es X.env:=by rfl) (hplain:(backTo cpos (starEach es X.env)).any (·.1)=false:=by rfl) :
   PE X (.Call (.Attribute o name apos) (e::es) [] cpos) (tBM X.K T r to t):=by
 intro pins s σ H Q I h;refine wpAny_Call_method_late hbase hfew hline rfl (thn (ho pins s σ H _ I h) fun v s1 zz_=>?_);obtain⟨x,H1,I1,r1,ty,q1⟩:=zz_;obtain⟨h1,h2⟩:=qlt I1 r1 ty;refine⟨T,id,pa,slot,hty,h1,h2,?_⟩;have hA:=ha cpos pins s1 σ H1 _ I1 q1;rw[hs]at hA ⊢;refine Calls.callWith_builtin (by show (false || (backTo cpos (starEach es X.env)).any (·.1))=false;rw[hplain]<;>rfl) (Calls.evalArgs_plain ?_);exact thn hA fun us s2 ⟨vs,H2,I2,r2,q2⟩=>hm pins s2 σ H2 x vs v us Q I2 r1 r2 q2
end
def MtM (X:Cx) (id:String) (r:V->List V->Hp->VK->Prop):Prop :=
 ∀ (pins:List (Addr×Obj)) (s:Shared) (σ:St) (H:Hp) (x:V) (xs:List V) (v:Value) (us:List Value) (Q:VK),Inv X pins σ H s->RelV x v->Vals xs us->r x xs H Q ->
   wpAny (model X.prog X.w) X.A (call (.builtin id) (v::us)) (EP X pins σ Q) X.xe s
theorem Vals.one {x:V}{us:List Value} (h:Vals [x] us):∃ u,us=[u]∧RelV x u:=by
 cases h with
 | cons r t=>cases t;exact⟨_,rfl,r⟩
theorem Vals.eraseIdx:∀ {xs:List V}{us:List Value} (i:Nat),Vals xs us->Vals (xs.eraseIdx i) (us.eraseIdx i)
 | _,_,_,.nil=>.nil
 | _,_,0,.cons _ t=>t
 | _,_,i+1,.cons r t=>.cons r (Vals.eraseIdx i t)
theorem Vals.reverse {xs:List V}{us:List Value} (h:Vals xs us):Vals xs.reverse us.reverse:=by
 induction h with
 | nil=>exact .nil
 | cons r t ih=>rw[List.reverse_cons,List.reverse_cons];exact Vals.append ih (.cons r .nil)
theorem Vals.rep {xs:List V}{us:List Value} (h:Vals xs us):∀ k:Nat,Vals (List.replicate k xs).flatten (List.replicate k us).flatten
 | 0=>.nil
 | k+1=>by
   rw[List.replicate_succ,List.replicate_succ,List.flatten_cons,List.flatten_cons];exact Vals.append h (Vals.rep h k)
theorem qek {α:Type}:∀ (l:List α) (i:Nat),(l.eraseIdx i).length≤l.length
 | [],_=>Nat.le_refl _
 | _::_,0=>Nat.le_succ _
 | _::r,i+1=>Nat.succ_le_succ (qek r i)
theorem qet (its:List Value):∀ (k:Nat) (acc:List Value),
   List.foldl (fun x1 x2=>x1++x2) acc.toArray (List.replicate k its.toArray)=(acc++(List.replicate k its).flatten).toArray
 | 0,acc=>by simp
 | k+1,acc=>by
   have e:acc.toArray++its.toArray=(acc++its).toArray:=by simp
   have e2:(acc++its)++(List.replicate k its).flatten=acc++(List.replicate (k+1) its).flatten:=by
     rw[List.replicate_succ,List.flatten_cons,List.append_assoc]
   rw[← e2,← qet its k (acc++its),← e,List.replicate_succ,List.foldl_cons]
section
variable {X:Cx}{pins:List (Addr×Obj)}{σ:St}{H:Hp}{s:Shared}{l b:Addr}{xs ys zs:List V}
theorem Inv.lset {its its':List Value}{n:Nat}{f:Array Value->Array Value}{t':Nat} (I:Inv X pins σ H s) (hH:H l=some (.lst xs))
   (e:s.heap.get? l=some { cls:=.type "list",data:=.seq its.toArray n }) (hf:f its.toArray=its'.toArray) (hv:Vals ys its') (hz:ys.length≤sizeLine) :
   Inv X pins σ (upd H l (.lst ys)) { s with heap:=s.heap.update l (Obj.mapSeq f),toks:=t' }:=by
 have q:=PySem.IsL.update e f;rw[hf]at q;refine I.write (x:=l) (e:=l) (by rw[hH];exact trivial) (.inl rfl) (fun b' u hb hu=>(Heap.get?_update_other s.heap (Obj.mapSeq f) (Ne.symm hb)).trans hu) ⟨_,q⟩ ?_;exact⟨hz,its',_,hv,q⟩
theorem Inv.lnew {its:List Value}{t':Nat} (I:Inv X pins σ H s) (hv:Vals ys its) (hz:ys.length≤sizeLine) :
   Inv X pins σ (upd H s.heap.objs.size (.lst ys)) { s with heap:=s.heap.push { cls:=.type "list",data:=.seq its.toArray },toks:=t' } :=
 I.laid (fun _ _ q=>Heap.get?_push_of_some _ q) (Nat.le_refl _) ⟨hz,its,0,hv,Heap.get?_push_size _ rfl⟩
theorem Inv.fresh (I:Inv X pins σ H s):H s.heap.objs.size=none:=I.hok.fresh (Nat.le_refl _)
theorem Inv.lstM (I:Inv X pins σ H s) (hH:H l=some (.lst xs)):xs.length≤sizeLine∧∃ (its:List Value) (n:Nat),Vals xs its∧xs.length=its.length∧s.heap.get? l=some { cls:=.type "list",data:=.seq its.toArray n }:=by
 obtain⟨z,its,n,r,e⟩:=I.hok l _ hH;exact⟨z,its,n,r,r.length,e⟩
theorem qfU {n:Nat} (h:n≤sizeLine):Builtin.List.listTooLong n=false:=by
 unfold Builtin.List.listTooLong;exact decide_eq_false (by omega)
end
section
variable {X:Cx}
inductive qdY (x:V) (vs:List V) (H:Hp) (Q:VK):Prop
 | mk (l xs y:_) (h1:x=.ref l) (h2:vs=[y]) (h3:H l=some (.lst xs)) (h4:xs.length < sizeLine) (h5:Q .non (upd H l (.lst (xs++[y])))):qdY x vs H Q
def qkD:V->List V->Hp->VK->Prop:=fun x vs H Q=>qdY x vs H Q
theorem zg:MtM X "list.append" qkD:=by
 intro pins s σ H x vs v us Q I rx rv h;obtain⟨l,xs,y,rfl,rfl,hH,hz,q⟩:=h;cases rx;obtain⟨u,rfl,ru⟩:=rv.one;obtain⟨z,its,n,r,hl,e⟩:=I.lstM hH;refine call_meets F.slot_list_append ⟨_,e,rfl⟩ F.entry_list_append (F.args_list_append_2 _ _) (PySem.list_append l its.toArray n u (by rw[List.size_toArray];omega)) ⟨e,?_⟩;refine⟨.non,_,I.lset (its':=its++[u]) hH e (by simp) (r.append (.cons ru .nil)) ?_,rfl,q⟩;rw[List.length_append,List.length_singleton];omega
def qkC:V->List V->Hp->VK->Prop:=fun x vs H Q=>∃ l b xs zs,x=.ref l∧vs=[.ref b]∧H l=some (.lst xs)∧H b=some (.lst zs)∧xs.length+zs.length≤sizeLine∧Q .non (upd H l (.lst (xs++zs)))
theorem qeh:MtM X "list.extend" qkC:=by
 intro pins s σ H x vs v us Q I rx rv h;obtain⟨l,b,xs,zs,rfl,rfl,hH,hB,hz,q⟩:=h;cases rx;obtain⟨u,rfl,ru⟩:=rv.one;cases ru;obtain⟨z,its,n,r,hl,e⟩:=I.lstM hH;obtain⟨z2,its2,n2,r2,hl2,e2⟩:=I.lstM hB;have hsz:its.toArray.size+its2.toArray.size≤sizeLine:=by rw[List.size_toArray,List.size_toArray];omega
 have hlong:¬ (!its.toArray.isEmpty && Builtin.List.listTooLong (its.toArray.size+its2.toArray.size))=true:=by
   rw[qfU hsz,Bool.and_false];exact Bool.false_ne_true
 refine call_meets F.slot_list_extend ⟨_,e,rfl⟩ F.entry_list_extend (F.args_list_extend_2 _ _)
   (AutoSeq1.list_extend_list_list_0 l its.toArray n b its2.toArray n2 hlong (by rw[List.size_toArray];omega) (by omega)) ⟨e,e2,?_⟩
 refine⟨.non,_,I.lset (its':=its++its2) hH e (by simp) (r.append r2) ?_,rfl,q⟩;rw[List.length_append];omega
def qlR:V->List V->Hp->VK->Prop:=fun x vs H Q=>∃ l xs i k y,x=.ref l∧vs=[.int i]∧H l=some (.lst xs)∧-(2 ^ 63)≤i∧i < 2 ^ 63∧seqIndex? i xs.length=some k∧xs[k]?=some y∧Q y (upd H l (.lst (xs.eraseIdx k)))
theorem qje:MtM X "list.pop" qlR:=by
 intro pins s σ H x vs v us Q I rx rv h;obtain⟨l,xs,i,k,y,rfl,rfl,hH,h1,h2,hk,hy,q⟩:=h;cases rx;obtain⟨u,rfl,ru⟩:=rv.one;obtain⟨t,rfl⟩:=ru;obtain⟨z,its,n,r,hl,e⟩:=I.lstM hH;obtain⟨w,hw,rw'⟩:=r.get hy;refine call_meets F.slot_list_pop ⟨_,e,rfl⟩ F.entry_list_pop (F.args_list_pop_2 _ _)
   (MeetsSeq.list_pop_at l its.toArray n i t k w (fitsIndex_both h1 h2) (by rw[List.size_toArray,← hl];exact hk) (by rw[← Array.getElem?_toList];exact hw) (by rw[List.size_toArray];omega)) ⟨e,?_⟩
 refine⟨y,_,I.lset (its':=its.eraseIdx k) hH e ?_ (r.eraseIdx k) ?_,rw',q⟩
 · show its.toArray.eraseIdxIfInBounds k=(its.eraseIdx k).toArray;rw[List.eraseIdxIfInBounds_toArray]
 · have:=qek xs k
   omega
inductive qjX (x:V) (y:V) (H:Hp) (Q:VK):Prop
 | mk (l b xs zs:_) (h1:x=.ref l) (h2:y=.ref b) (h3:H l=some (.lst xs)) (h4:H b=some (.lst zs)) (h5:xs.length+zs.length≤sizeLine) (h6:∀ p,H p=none->Q (.ref p) (upd H p (.lst (xs++zs)))):qjX x y H Q
def qnv:R2:=fun x y H Q=>qjX x y H Q
theorem op_cat:OpR X (binaryOp .Add) qnv:=by
 intro pins s σ H x y v u Q I rx ry h;obtain⟨l,b,xs,zs,rfl,rfl,hH,hB,hz,q⟩:=h;cases rx;cases ry;obtain⟨z,its,n,r,hl,e⟩:=I.lstM hH;obtain⟨z2,its2,n2,r2,hl2,e2⟩:=I.lstM hB;refine PySem.P.add_list e e2 ?_ (by rw[List.size_toArray,List.size_toArray];omega);have ea:its.toArray++its2.toArray=(its++its2).toArray:=by simp
 rw[ea];exact⟨.ref _,_,I.lnew (t':=s.toks) (r.append r2) (by rw[List.length_append];omega),rfl,q _ I.fresh⟩
def qnR:R2:=fun x y H Q=>∃ l k xs,x=.ref l∧y=.int k∧H l=some (.lst xs)∧-(2 ^ 63)≤k∧k < 2 ^ 63∧xs.length * k.toNat≤sizeLine ∧
 ∀ p,H p=none->Q (.ref p) (upd H p (.lst (List.replicate k.toNat xs).flatten))
theorem qk2 {α:Type} (xs:List α) (k:Nat):(List.replicate k xs).flatten.length=k * xs.length:=by
 induction k with
 | zero=>simp
 | succ k ih=>rw[List.replicate_succ,List.flatten_cons,List.length_append,ih,Nat.succ_mul,Nat.add_comm]
theorem qfS:OpR X (binaryOp .Mult) qnR:=by
 intro pins s σ H x y v u Q I rx ry h;obtain⟨l,k,xs,rfl,rfl,hH,h1,h2,hz,q⟩:=h;cases rx;obtain⟨t,rfl⟩:=ry;obtain⟨z,its,n,r,hl,e⟩:=I.lstM hH;have hlen:its.toArray.size * k.toNat≤sizeLine:=by rw[List.size_toArray,← hl];exact hz
 have hcap:¬ its.toArray.size * k.toNat > (2 ^ 63 - 1) / 8:=by
   have:(sizeLine:Nat)≤(2 ^ 63 - 1) / 8:=by decide
   omega
 have hfit:¬ (!Builtin.List.listFitsIndex k)=true:=by
   rw[fitsIndex_both h1 h2];exact Bool.false_ne_true
 have hlong:¬ Builtin.List.listTooLong (its.toArray.size * k.toNat)=true:=by
   rw[qfU hlen];exact Bool.false_ne_true
 have hnew:List.foldl (fun x1 x2=>x1++x2) #[] (List.replicate (if its.toArray.isEmpty=true then 0 else k.toNat) its.toArray)=(List.replicate k.toNat its).flatten.toArray:=by
   have f0:∀ m:Nat,List.foldl (fun x1 x2=>x1++x2) #[] (List.replicate m its.toArray)=(List.replicate m its).flatten.toArray:=fun m=>by
     have:=qet its m []
     rw[List.nil_append]at this;exact this
   rw[f0]
   cases its with
   | nil=>simp
   | cons a r'=>rw[if_neg (by simp)]
 refine wpAny_binaryOp_repeat_ref (T:="list") (U:="int") (by decide) ⟨_,e,rfl⟩ (fun s'=>typeIs_int s' k t) noFill_list_mul F.fills_int_mul F.slot_int_rmul repeat_list F.slot_int_index.lookup
   (call_meets F.slot_int_rmul (typeIs_int s k t) F.entry_int_rmul (F.args_int_rmul_2 _ _) (int___rmul___int_list k t l its.toArray n)
     ⟨e,rfl,⟨_,e,rfl⟩,call_meets F.slot_list_mul ⟨_,e,rfl⟩ F.entry_list_mul (F.args_list_mul_2 _ _) (AutoListH.list___mul___list_int_3 l its.toArray n k t hfit hcap hlong) ⟨e,?_⟩⟩)
 rw[hnew];exact⟨.ref _,_,I.lnew (t':=s.toks) (r.rep k.toNat) (by rw[qk2,Nat.mul_comm];exact hz),rfl,q _ I.fresh⟩
end
section
variable {κ:Type} [DecidableEq κ]
def qbF (kvs:List (κ×V)) (k:κ):Option V:=(kvs.find? fun kv=>decide (kv.1=k)).map (·.2)
def qd0 (kvs:List (κ×V)) (k:κ) (v:V):List (κ×V) :=
 if (kvs.any fun kv=>decide (kv.1=k))=true then kvs.map (fun kv=>if kv.1=k then (kv.1,v) else kv) else kvs++[(k,v)]
def qfd (kvs:List (κ×V)) (k:κ):List (κ×V):=kvs.filter fun kv=>decide (kv.1≠k)
theorem qcu {p:κ×V}{r:List (κ×V)}{k:κ} (e:p.1=k):qbF (p::r) k=some p.2:=by simp[qbF,List.find?_cons,e]
theorem qcv {p:κ×V}{r:List (κ×V)}{k:κ} (e:¬ p.1=k):qbF (p::r) k=qbF r k:=by simp[qbF,List.find?_cons,e]
theorem qcw (k:κ):∀ kvs:List (κ×V),(kvs.any fun kv=>decide (kv.1=k))=(qbF kvs k).isSome
 | []=>rfl
 | p::r=>by
   rw[List.any_cons];by_cases e:p.1=k
   · simp only[qcu e,decide_eq_true e,Bool.true_or,Option.isSome_some]
   · rw[qcv e,decide_eq_false e,Bool.false_or];exact qcw k r
theorem qbo (kvs:List (κ×V)) (k:κ) (v:V):(qd0 kvs k v).length≤kvs.length+1:=by
 unfold qd0;split
 · rw[List.length_map];omega
 · rw[List.length_append,List.length_cons,List.length_nil];omega
theorem qiX {kvs:List (κ×V)}{k:κ} (v:V) (h:qbF kvs k=none):qd0 kvs k v=kvs++[(k,v)]:=by
 unfold qd0;rw[qcw,h];exact if_neg (by decide)
theorem RelO.isSome_eq {o:Option V}{u:Option Value} (r:RelO o u):o.isSome=u.isSome:=by
 cases o with
 | none=>cases u with
   | none=>rfl
   | some _=>exact(show False from r).elim
 | some _=>cases u with
   | none=>exact(show False from r).elim
   | some _=>rfl
theorem KV.val {kvs:List (κ×V)}{vs:List (κ×Value)} (r:KV kvs vs) (k:κ):RelO (qbF kvs k) (valueAt vs k):=by
 unfold KV at r
 induction r with
 | nil=>exact True.intro
 | @cons p q ps qs h t ih =>
   obtain⟨h1,h2⟩:=h;by_cases e:p.1=k
   · have e':q.1=k:=h1.symm.trans e;have b:valueAt (q::qs) k=some q.2:=by simp[valueAt,List.find?_cons,e']
     rw[qcu e,b];exact h2
   · have e':¬ q.1=k:=fun z=>e (h1.trans z);have b:valueAt (q::qs) k=valueAt qs k:=by simp[valueAt,List.find?_cons,e']
     rw[qcv e,b];exact ih
theorem KV.any {kvs:List (κ×V)}{vs:List (κ×Value)} (r:KV kvs vs) (k:κ):(kvs.any fun kv=>decide (kv.1=k))=vs.any fun kv=>decide (kv.1=k):=by
 unfold KV at r
 induction r with
 | nil=>rfl
 | cons h t ih=>rw[List.any_cons,List.any_cons,ih,h.1]
theorem KV.repl {kvs:List (κ×V)}{vs:List (κ×Value)} (r:KV kvs vs) (k:κ) {y:V}{u:Value} (ry:RelV y u) :
   KV (kvs.map fun kv=>if kv.1=k then (kv.1,y) else kv) (vs.map fun kv=>if kv.1=k then (kv.1,u) else kv):=by
 unfold KV at r ⊢
 induction r with
 | nil=>exact .nil
 | @cons p q ps qs h t ih =>
   rw[List.map_cons,List.map_cons];refine .cons ?_ ih;obtain⟨h1,h2⟩:=h;by_cases e:p.1=k
   · rw[if_pos e,if_pos (h1.symm.trans e)];exact⟨h1,ry⟩
   · rw[if_neg e,if_neg (fun z=>e (h1.trans z))];exact⟨h1,h2⟩
theorem KV.put {kvs:List (κ×V)}{vs:List (κ×Value)} (r:KV kvs vs) (k:κ) {y:V}{u:Value} (ry:RelV y u):KV (qd0 kvs k y) (stored vs k u):=by
 unfold qd0 stored;rw[r.any k];by_cases e:(vs.any fun kv=>decide (kv.1=k))=true
 · rw[if_pos e,if_pos e];exact r.repl k ry
 · rw[if_neg e,if_neg e];exact Paired.snoc r ⟨rfl,ry⟩
theorem KV.drop {kvs:List (κ×V)}{vs:List (κ×Value)} (r:KV kvs vs) (k:κ):KV (qfd kvs k) (without vs k):=by
 unfold KV at r ⊢;unfold qfd without
 induction r with
 | nil=>exact .nil
 | @cons p q ps qs h t ih =>
   obtain⟨h1,h2⟩:=h;rw[List.filter_cons,List.filter_cons];by_cases e:p.1=k
   · have a:¬ decide (p.1≠k)=true:=by simp[e]
     have b:¬ decide (q.1≠k)=true:=by simp[h1.symm.trans e]
     rw[if_neg a,if_neg b];exact ih
   · have e':¬ q.1=k:=fun z=>e (h1.trans z);have a:decide (p.1≠k)=true:=by simp[e]
     have b:decide (q.1≠k)=true:=by simp[e']
     rw[if_pos a,if_pos b];exact .cons ⟨h1,h2⟩ ih
theorem KV.length {kvs:List (κ×V)}{vs:List (κ×Value)} (r:KV kvs vs):kvs.length=vs.length:=Paired.length r
theorem qjy (kvs:List (κ×V)) (k:κ):(qfd kvs k).length≤kvs.length:=List.length_filter_le _ _
end
theorem qgE {P:Program}{w:World}{k:Key}{u:Value} (r:RelV (kV k) u):(zy P w).is k u=true:=by
 cases k with
 | inl i=>obtain⟨t,e⟩:=(show ∃ t,u=Value.int i t from r);subst e;exact qe4 P w i t
 | inr x=>obtain⟨t,e⟩:=(show ∃ t,u=Value.str x t from r);subst e;exact qe3 P w x t
theorem qeq {P:Program}{w:World}:∀ {ks:List Key}{us:List Value},Vals (ks.map kV) us->ItemsAre (zy P w) ks us
 | [],_,r=>by rw[List.map_nil]at r;cases r;exact .nil
 | k::ks,_,r=>by
   rw[List.map_cons]at r
   cases r with
   | cons h t=>exact .cons (qgE h) (qeq t)
abbrev KT (H:Hp):List (List Key×V)->List (List Key×Addr×Value)->Prop:=Paired fun p q=>p.1=q.1∧H q.2.1=some (.tup (p.1.map kV))∧RelV p.2 q.2.2
theorem KT.val {H:Hp}{kvs:List (List Key×V)}{xs:List (List Key×Addr×Value)} (r:KT H kvs xs) (k:List Key):RelO (qbF kvs k) ((atKey xs k).map (·.2)):=by
 induction r with
 | nil=>exact True.intro
 | @cons p q ps qs h t ih =>
   obtain⟨h1,_,h2⟩:=h;by_cases e:p.1=k
   · have e':q.1=k:=h1.symm.trans e;have b:atKey (q::qs) k=some q.2:=by simp[atKey,List.find?_cons,e']
     rw[qcu e,b];exact h2
   · have e':¬ q.1=k:=fun z=>e (h1.trans z);have b:atKey (q::qs) k=atKey qs k:=by simp[atKey,List.find?_cons,e']
     rw[qcv e,b];exact ih
theorem KT.repl {H:Hp}{kvs:List (List Key×V)}{xs:List (List Key×Addr×Value)} (r:KT H kvs xs) (k:List Key) {y:V}{u:Value} (ry:RelV y u) :
   KT H (kvs.map fun kv=>if kv.1=k then (kv.1,y) else kv) (xs.map (putAt k u)):=by
 induction r with
 | nil=>exact .nil
 | @cons p q ps qs h t ih =>
   rw[List.map_cons,List.map_cons];refine .cons ?_ ih;obtain⟨h1,h2,h3⟩:=h;unfold putAt;by_cases e:p.1=k
   · rw[if_pos e,if_pos (h1.symm.trans e)];exact⟨h1,h2,ry⟩
   · rw[if_neg e,if_neg (fun z=>e (h1.trans z))];exact⟨h1,h2,h3⟩
theorem KT.put {H:Hp}{kvs:List (List Key×V)}{xs:List (List Key×Addr×Value)} (r:KT H kvs xs) (k:List Key) {b:Addr}{y:V}{u:Value} (hb:H b=some (.tup (k.map kV))) (ry:RelV y u) :
   KT H (qd0 kvs k y) (storedH xs k b u):=by
 have e:(kvs.any fun kv=>decide (kv.1=k))=(atKey xs k).isSome:=by
   rw[qcw,(r.val k).isSome_eq,Option.isSome_map]
 unfold qd0 storedH;rw[e];by_cases q:(atKey xs k).isSome=true
 · rw[if_pos q,if_pos q];exact r.repl k ry
 · rw[if_neg q,if_neg q];exact Paired.snoc r ⟨rfl,hb,ry⟩
theorem KT.keeps {H H':Hp}{kvs:List (List Key×V)}{xs:List (List Key×Addr×Value)} (r:KT H kvs xs) (ht:∀ b ys,H b=some (.tup ys)->H' b=some (.tup ys)):KT H' kvs xs :=
 Paired.mapP r fun _ _ z=>⟨z.1,ht _ _ z.2.1,z.2.2⟩
section
variable {P:Program}{w:World}{H:Hp}{h:Heap}{a:Addr}
theorem qlN {u:HO} (ok:HOk P w H h) (e:Rd H a u):ObjOk P w H h a u:=e.ok ok
theorem qbA {kvs:List (Key×V)} (ok:HOk P w H h) (e:Rd H a (.dK kvs)):kvs.length≤sizeLine∧(a == sysModules)=false∧∃ vs,KV kvs vs∧h.DictOf (zy P w) a vs :=
 show ObjOk P w H h a (.dK kvs) from qlN ok e
theorem qle {kvs:List (Key×V)} (ok:HOk P w H h) (e:H a=some (.dK kvs)):kvs.length≤sizeLine∧(a == sysModules)=false∧∃ vs,KV kvs vs∧h.DictOf (zy P w) a vs:=qbA ok (.inl e)
theorem qep {ks:List Key} (ok:HOk P w H h) (e:H a=some (.tup (ks.map kV))):(tupleKind (zy P w)).is h ks a:=by
 obtain⟨_,its,r,o,h1,h2,n,h3⟩:=(show ObjOk P w H h a (.tup (ks.map kV)) from ok a _ e)
 exact⟨o,its.toArray,n,h1,h2,h3,by simpa using qeq r⟩
theorem qgJ {kvs:List (List Key×V)} (ok:HOk P w H h) (e:Rd H a (.dT kvs)):kvs.length≤sizeLine∧(a == sysModules)=false ∧
   ∃ xs,KT H kvs xs∧h.DictOfH (tupleKind (zy P w)) a xs:=by
 obtain⟨z,y,xs,r,o,es,ep,h1,h2,h3,h4,h5⟩:=(show ObjOk P w H h a (.dT kvs) from qlN ok e)
 refine⟨z,y,xs,r,o,es,ep,h1,h2,h3,h4,fun x hx=>?_,h5⟩
 have all:∀ {l:List (List Key×V)}{m:List (List Key×Addr×Value)},KT H l m->∀ x∈m,(tupleKind (zy P w)).is h x.1 x.2.1:=by
   intro l m q
   induction q with
   | nil=>intro x hx;exact nomatch hx
   | @cons p q ps qs hq t ih =>
     intro x hx;rcases List.mem_cons.mp hx with e|hx
     · subst e;exact qep ok (by rw[← hq.1];exact hq.2.1)
     · exact ih x hx
 exact all r x hx
theorem qna {kvs:List (List Key×V)} (ok:HOk P w H h) (e:H a=some (.dT kvs)):kvs.length≤sizeLine∧(a == sysModules)=false ∧
   ∃ xs,KT H kvs xs∧h.DictOfH (tupleKind (zy P w)) a xs:=qgJ ok (.inl e)
end
def qeH (H:Hp) (a:Addr) (y:V) (r:Option V):Prop :=
 (∃ kvs k,Rd H a (.dK kvs)∧y=kV k∧r=qbF kvs k)∨∃ kvs k b,Rd H a (.dT kvs)∧y=.ref b∧H b=some (.tup (k.map kV))∧r=qbF kvs k
def DPut (H:Hp) (a:Addr) (y v:V) (H':Hp):Prop :=
 (∃ kvs k,H a=some (.dK kvs)∧y=kV k∧kvs.length < sizeLine∧H'=upd H a (.dK (qd0 kvs k v))) ∨
 ∃ kvs k b,H a=some (.dT kvs)∧y=.ref b∧H b=some (.tup (k.map kV))∧kvs.length < sizeLine∧H'=upd H a (.dT (qd0 kvs k v))
theorem DPut.k {H:Hp}{a:Addr}{kvs:List (Key×V)}{k:Key}{v:V} (e:H a=some (.dK kvs)) (hl:kvs.length < sizeLine):DPut H a (kV k) v (upd H a (.dK (qd0 kvs k v))):=.inl ⟨kvs,k,e,rfl,hl,rfl⟩
section
variable {X:Cx}{pins:List (Addr×Obj)}{σ:St}{H:Hp}{s:Shared}{a:Addr}{y v:V}{u r:Value}{o:Option V}{A:Around}{E:Value->Shared->Prop}
theorem Inv.big (I:Inv X pins σ H s):sysModules < s.heap.objs.size:=by
 have h:mainGlobals < s.heap.objs.size:=(I.mod.glob.keeps I.bk).lt;exact Nat.lt_trans (by decide) h
theorem qin {Q:Value->Shared->Prop} (hu:A.units+1 < cLine) (I:Inv X pins σ H s) (g:qeH H a y (some v)) (ry:RelV y u) (h:∀ w' s',Inv X pins σ H s'->RelV v w'->Q w' s') :
   wpAny (model X.prog X.w) A (getItem (.ref a) u) Q E s:=by
 rcases g with ⟨kvs,k,e,ey,l⟩|⟨kvs,k,b,e,ey,eb,l⟩
 · subst ey;obtain⟨z,hd,vs,rel,dd⟩:=qbA I.hok e;obtain⟨w',hw,rw'⟩:=RelO.some_of (v:=v) (o:=valueAt vs k) (by rw[l];exact rel.val k);exact wpAny_getItem_of (qgE ry) dd.mapOf hw (h w' _ (I.tok _) rw')
 · subst ey;cases (show u=Value.ref b from ry);obtain⟨z,hd,xs,rel,dd⟩:=qgJ I.hok e;obtain⟨w',hw,rw'⟩:=RelO.some_of (v:=v) (o:=(atKey xs k).map (·.2)) (by rw[l];exact rel.val k);obtain⟨p,hp,hp2⟩:=Option.map_eq_some_iff.mp hw;refine wpAny_getItem_heap (tupleKind_room_in1 hu) (qep I.hok eb) dd hp ?_;rw[hp2];exact h w' _ (I.tok _) rw'
theorem qn2 {Q:Value->Shared->Prop} (hu:A.units+1 < cLine) (I:Inv X pins σ H s) (g:qeH H a y o) (ry:RelV y u) (h:∀ s',Inv X pins σ H s'->Q (.bool o.isSome) s') :
   wpAny (model X.prog X.w) A (compareOp .In u (.ref a)) Q E s:=by
 rcases g with ⟨kvs,k,e,ey,l⟩|⟨kvs,k,b,e,ey,eb,l⟩
 · subst ey;obtain⟨z,hd,vs,rel,dd⟩:=qbA I.hok e;refine wpAny_in_of (qgE ry) hd dd.mapOf ?_;rw[← (rel.val k).isSome_eq,← l];exact h _ (I.tok _)
 · subst ey;cases (show u=Value.ref b from ry);obtain⟨z,hd,xs,rel,dd⟩:=qgJ I.hok e;refine wpAny_in_heap (tupleKind_room_in1 hu) (qep I.hok eb) hd dd ?_;have q:=(rel.val k).isSome_eq;rw[Option.isSome_map]at q;rw[← q,← l];exact h _ (I.tok _)
theorem qlg {Q:Value->Shared->Prop} (hu:A.units+1 < cLine) (I:Inv X pins σ H s) (g:qeH H a y o) (ry:RelV y u) (h:∀ s',Inv X pins σ H s'->Q (.bool (!o.isSome)) s') :
   wpAny (model X.prog X.w) A (compareOp .NotIn u (.ref a)) Q E s:=by
 rcases g with ⟨kvs,k,e,ey,l⟩|⟨kvs,k,b,e,ey,eb,l⟩
 · subst ey;obtain⟨z,hd,vs,rel,dd⟩:=qbA I.hok e;refine wpAny_notIn_of (qgE ry) hd dd.mapOf ?_;rw[← (rel.val k).isSome_eq,← l];exact h _ (I.tok _)
 · subst ey;cases (show u=Value.ref b from ry);obtain⟨z,hd,xs,rel,dd⟩:=qgJ I.hok e;refine wpAny_notIn_heap (tupleKind_room_in1 hu) (qep I.hok eb) hd dd ?_;have q:=(rel.val k).isSome_eq;rw[Option.isSome_map]at q;rw[← q,← l];exact h _ (I.tok _)
theorem qff {h':Heap}{t':Nat}{ob:HO} (I:Inv X pins σ H s) (mu:Mut (H a)) (hs:Heap.SameBut a s.heap h') (he:∃ q,h'.get? a=some q) (new:ObjOk X.prog X.w (upd H a ob) h' a ob) :
   Inv X pins σ (upd H a ob) { s with heap:=h',toks:=t' } :=
 I.write (x:=a) (e:=a) mu (.inl rfl) (fun b q hb z=>(hs.2 b hb).trans z) he new
theorem qkd {P:Program}{w:World}{H':Hp}{h':Heap}{kvs:List (Key×V)}{vs:List (Key×Value)} (z:kvs.length≤sizeLine) (hd:(a == sysModules)=false) (rel:KV kvs vs) (dd:h'.DictOf (zy P w) a vs) :
   ObjOk P w H' h' a (.dK kvs):=⟨z,hd,vs,rel,dd⟩
theorem qim {H':Hp}{Q:Unit->Shared->Prop} (hu:A.units+1 < cLine) (I:Inv X pins σ H s) (g:DPut H a y v H') (ry:RelV y u) (rv:RelV v r) (h:∀ s',Inv X pins σ H' s'->Q () s') :
   wpAny (model X.prog X.w) A (setItem (.ref a) u r) Q E s:=by
 rcases g with ⟨kvs,k,e,ey,l,eH⟩|⟨kvs,k,b,e,ey,eb,l,eH⟩
 · subst ey eH;obtain⟨z,hd,vs,rel,dd⟩:=qle I.hok e;have hz:vs.length≤sizeLine:=by rw[← rel.length];exact z
   have hl:(qd0 kvs k v).length≤sizeLine:=by have:=qbo kvs k v;omega
   refine wpAny_setItem_pairs (hsz:=hz) (qgE ry) dd fun h' dd' hs=>h _ ?_;have he:∃ q,h'.get? a=some q:=let ⟨q,_,_,hq,_⟩:=dd';⟨q,hq⟩;exact qff I (by rw[e];exact True.intro) hs he (qkd hl hd (rel.put k rv) dd')
 · subst ey eH;cases (show u=Value.ref b from ry);obtain⟨z,hd,xs,rel,dd⟩:=qna I.hok e;have hz:xs.length≤sizeLine:=by rw[← Paired.length rel];exact z
   have hl:(qd0 kvs k v).length≤sizeLine:=by have:=qbo kvs k v;omega
   refine wpAny_setItem_heap (hsz:=hz) (tupleKind_room_in1 hu) (qep I.hok eb) dd fun h' dd' hs=>h _ ?_;obtain⟨q,es,ep,hq,h2,h3,h4,_,h5⟩:=dd';refine qff I (by rw[e];exact True.intro) hs ⟨q,hq⟩ ⟨hl,hd,_,(rel.put k eb rv).keeps fun c ys ec=>?_,q,es,ep,hq,h2,h3,h4,h5⟩;rw[qh (zI ec e (fun z=>nomatch z))];exact ec
end
section
variable {X:Cx}{pins:List (Addr×Obj)}{σ:St}{H:Hp}{s:Shared}{a:Addr}{kvs:List (Key×V)}{k:Key}{u:Value}{A:Around}{E:Value->Shared->Prop}
theorem qnb {v:V}{more:List Value}{Q:Value->Shared->Prop} (I:Inv X pins σ H s) (e:H a=some (.dK kvs)) (ry:RelV (kV k) u) (l:qbF kvs k=some v) (hm:more=[]∨∃ x,more=[x])
   (h:∀ w' s',Inv X pins σ (upd H a (.dK (qfd kvs k))) s'->RelV v w'->Q w' s'):wpAny (model X.prog X.w) A (call (.builtin "dict.pop") (.ref a::u::more)) Q E s:=by
 obtain⟨z,hd,vs,rel,dd⟩:=qle I.hok e;obtain⟨w',hw,rw'⟩:=RelO.some_of (v:=v) (o:=valueAt vs k) (by rw[← l];exact rel.val k)
 have hp:(keyPart u).isSome=true:=by
   cases k with
   | inl i=>obtain⟨t,q⟩:=(show ∃ t,u=Value.int i t from ry);subst q;rfl
   | inr x=>obtain⟨t,q⟩:=(show ∃ t,u=Value.str x t from ry);subst q;rfl
 have ha:argsOk "dict.pop" ⟨.ref a::u::more,[]⟩:=by
   rcases hm with q|⟨x,q⟩
   · subst q;exact PySem.F.args_dict_pop_2 _ _
   · subst q;exact PySem.F.args_dict_pop_3 _ _ _
 refine call_meetsIn PySem.F.slot_dict_pop dd.typeIs PySem.F.entry_dict_pop ha (meets_dict_pop_there (zy X.prog X.w) a (qgE ry) more hm hp)
   ⟨vs,w',dd,by rw[← rel.length];exact z,hw,fun h' dd' hs=>h w' _ ?_ rw'⟩
 have he:∃ q,h'.get? a=some q:=let ⟨q,_,_,hq,_⟩:=dd';⟨q,hq⟩;exact qff I (by rw[e];exact True.intro) hs he (qkd (Nat.le_trans (qjy kvs k) z) hd (rel.drop k) dd')
theorem qnc {Q:Value->Shared->Prop} (I:Inv X pins σ H s) (e:Rd H a (.dK kvs)) (h:∀ t s',Inv X pins σ H s'->Q (.int kvs.length t) s'):wpAny (model X.prog X.w) A (call (.builtin "len") [.ref a]) Q E s:=by
 obtain⟨z,hd,vs,rel,dd⟩:=qbA I.hok e;refine call_len_dict hd dd (by rw[← rel.length];rw[sizeLine_eq]at z;omega) ?_;rw[← rel.length];exact h _ _ (I.tok _)
end
def qnD (i:Expr):Prop:=∀ ov iv,subscripted i false ov iv=operate [ov,iv] (getItem ov iv)
theorem qkr {prog:Program}{w:World}{A:Around}{E:Value->Shared->Prop}{s:Shared}{env:Env}{value slice:Expr}{pos:Pos}{T id:String}{Q:Value->Shared->Prop}
   (hl:typeLookup (.type T) "__getitem__"=pure (some (.builtin id))) (hs:qnD slice)
   (h:wpAny (model prog w) A (eval value env) (fun o s₁=>wpAny (model prog w) A (eval slice env) (fun i s₂=>s₂.TypeIs o T∧wpAny (model prog w) A (getItem o i) Q E s₂) E s₁) E s) :
   wpAny (model prog w) A (eval (.Subscript value slice pos) env) Q E s:=by
 refine Subscript_ (wpAny_mono h (fun o s₁ h₁=>wpAny_mono h₁ (fun i s₂ h₂=>?_) fun _ _ x=>x) fun _ _ x=>x);obtain⟨hT,h₂⟩:=h₂;unfold subscriptTail;refine wpAny_bind ?_;rw[getitemInPython_of_ne hT.not_modules];refine wpAny_bind (wpAny_specialOf hT hl ?_)
 have fin:wpAny (model prog w) A (subscripted slice false o i) (fun r s₃=>wpAny (model prog w) A (letTemporaryGo value o r >>= fun _=>pure r) Q E s₃) E s₂:=by
   rw[hs o i];exact wpAny_operating (wpAny_mono h₂ (fun r s₃ h₃=>wpAny_bind (wpAny_letTemporaryGo (wpAny_pure h₃))) fun _ _ x=>x)
 first
   | exact wpAny_pure (wpAny_bind fin)
   | exact wpAny_bind (wpAny_pure (wpAny_bind fin))
   | exact wpAny_bind fin
theorem qfe {X:Cx}{pins:List (Addr×Obj)}{σ:St}{H:Hp}{s:Shared}{a:Addr}{y:V}{o:Option V} (I:Inv X pins σ H s) (g:qeH H a y o):s.TypeIs (.ref a) "dict":=by
 rcases g with ⟨kvs,k,e,_,_⟩|⟨kvs,k,b,e,_,_,_⟩
 · obtain⟨_,_,vs,_,dd⟩:=qbA I.hok e;exact dd.typeIs
 · obtain⟨_,_,xs,_,dd⟩:=qgJ I.hok e;exact dd.typeIs
def qmQ (td ty:TE):TE:=fun σ H Q=>td σ H fun x H1=>ty σ H1 fun y H2=>∃ a v,x=.ref a∧qeH H2 a y (some v)∧Q v H2
def qmU (td ty tv:TE):TS:=fun D σ H=>tv σ H fun v H1=>td σ H1 fun x H2=>ty σ H2 fun y H3=>∃ a H4,x=.ref a∧DPut H3 a y v H4∧D.nx σ H4
section
variable {X:Cx}{o i e value:Expr}{pos pos' tpos:Pos}{td ty tv:TE}
theorem qeX (hu:X.A.units+1 < cLine) (ho:PE X o td) (hi:PE X i ty) (hs:qnD i):PE X (.Subscript o i pos) (qmQ td ty):=by
 intro pins s σ H Q I h;refine qkr PySem.F.slot_dict_getitem.lookup hs (thn (ho pins s σ H _ I h) fun u s1 ⟨x,H1,I1,rx,q1⟩=>thn (hi pins s1 σ H1 _ I1 q1) fun iv s2 zz_=>?_);obtain⟨y,H2,I2,ry,a,v,ex,g,q2⟩:=zz_;subst ex;obtain rfl:u=Value.ref a:=rx;exact⟨qfe I2 g,qin hu I2 g ry fun w' s3 I3 rw'=>⟨v,H2,I3,rw',q2⟩⟩
theorem qhs (hu:X.A.units+1 < cLine) (ho:PE X o td) (hi:PE X i ty) (hv:PE X value tv) (hs:swapsWith value (some (.Subscript o i pos')) pos.line X.env=pure false) :
   PS X (.Assign [.Subscript o i pos'] value pos) (qmU td ty tv):=by
 intro pins s σ H D I h;refine wpAny_Assign_Subscript (thn (hv pins s σ H _ I h) fun r s1 ⟨v,H1,I1,rv,q1⟩=>thn (ho pins s1 σ H1 _ I1 q1) fun u s2 ⟨x,H2,I2,rx,q2⟩=>thn (hi pins s2 σ H2 _ I2 q2) fun iv s3 zz_=>?_) hs;obtain⟨y,H3,I3,ry,a,H4,ex,g,q3⟩:=zz_;subst ex;obtain rfl:u=Value.ref a:=rx;exact qim hu I3 g ry rv fun s4 I4=>⟨σ,H4,I4,q3⟩
end
theorem qjz {P:Program}{w:World}{H:Hp} (h:Heap) (hb:sysModules < h.objs.size):ObjOk P w H (h.push { cls:=.type "dict",data:=.dict #[] }) h.objs.size (.dK []) :=
 ⟨Nat.zero_le _,beq_eq_false_iff_ne.mpr (Ne.symm (Nat.ne_of_lt hb)),[],.nil,Heap.DictOf.new h⟩
def qlG:TE:=fun _ H Q=>∀ p,H p=none->Q (.ref p) (upd H p (.dK []))
section
variable {X:Cx}{pos:Pos}
theorem Ja:PE X (.Dict [] [] pos) qlG:=fun pins s σ H Q I h =>
 wpAny_Dict_empty ⟨.ref s.heap.objs.size,_,I.laid (a:=s.heap.objs.size) (o:=.dK []) (t':=s.toks) (fun _ _ q=>Heap.get?_push_of_some _ q) (Nat.le_refl _) (qjz s.heap I.big),rfl,h _ (I.hok.fresh (Nat.le_refl _))⟩
end
structure M1 (X:Cx) (o:Expr) (m:Str) (apos:Pos) (e:Expr) (cpos:Pos):Prop where
 base:attributeBase o m X.env (eval o X.env)=eval o X.env
 few:((backTo cpos (starEach [e] X.env)).all (fun x=>!x.1) && (backToKw cpos (keywordEach [] X.env)).all (fun x=>x.1.isSome)
   && decide (([e]:List Expr).length+([]:List Keyword).length+(if ([]:List Keyword).isEmpty then 0 else 1) < 30))=true
 line:(apos.endLine == cpos.line)=true
 trees:backTo cpos (starEach [e] X.env)=[(false,eval e X.env)]
def IsD (H:Hp) (a:Addr):Prop:=(∃ kvs,Rd H a (.dK kvs))∨∃ kvs,Rd H a (.dT kvs)
theorem qmn {X:Cx}{pins:List (Addr×Obj)}{σ:St}{H:Hp}{s:Shared}{a:Addr} (I:Inv X pins σ H s) (d:IsD H a) :
   s.TypeIs (.ref a) "dict"∧(∀ b,Value.ref a=.ref b->∃ ob,s.heap.get? b=some ob∧ob.dict=none)∧(a == sysModules)=false:=by
 rcases d with ⟨kvs,e⟩|⟨kvs,e⟩
 · obtain⟨_,hd,vs,_,dd⟩:=qbA I.hok e;refine⟨dd.typeIs,fun b q=>?_,hd⟩;cases q;obtain⟨ob,_,_,h1,h2,_⟩:=dd;exact⟨ob,h1,h2.2.1⟩
 · obtain⟨_,hd,xs,_,dd⟩:=qgJ I.hok e;refine⟨dd.typeIs,fun b q=>?_,hd⟩;cases q;obtain⟨ob,_,_,h1,h2,_⟩:=dd;exact⟨ob,h1,h2.2.1⟩
def qlF (td ty:TE):TE:=fun σ H Q=>td σ H fun x H1=>∃ a,x=.ref a∧IsD H1 a∧ty σ H1 fun y H2=>∃ kvs k v,H2 a=some (.dK kvs)∧y=kV k∧qbF kvs k=some v∧Q v (upd H2 a (.dK (qfd kvs k)))
section
variable {X:Cx}{o e f:Expr}{apos cpos:Pos}{td ty tx:TE}
theorem qi7 (ho:PE X o td) (he:PE X e ty) (m:M1 X o "pop" apos e cpos):PE X (.Call (.Attribute o "pop" apos) [e] [] cpos) (qlF td ty):=by
 intro pins s σ H Q I h;refine wpAny_Call_method m.base m.few m.line PySem.F.plainAttrs_dict PySem.F.slot_dict_pop PySem.F.type_dict_pop (thn (ho pins s σ H _ I h) fun u s1 zz_=>?_);obtain⟨x,H1,I1,rx,a,ex,d,q1⟩:=zz_;subst ex;obtain rfl:u=Value.ref a:=rx;obtain⟨t1,t2,_⟩:=qmn I1 d;refine⟨t1,t2,?_⟩;rw[m.trees];refine Calls.callWith_builtin rfl (Calls.evalArgs_plain (Calls.spliced_cons (thn (he pins s1 σ H1 _ I1 q1) fun iv s2 ⟨y,H2,I2,ry,kvs,k,v,ea,ey,l,q2⟩=>Calls.spliced_nil ?_)));subst ey;exact qnb I2 ea ry l (.inl rfl) fun w' s3 I3 rw'=>⟨v,_,I3,rw',q2⟩
end
end L2
namespace Att
open PySem PySem.W PySem.Calls PyProof.Rows
theorem qbv {P:Params}{h:Heap}:∀ (ns:List Int) (vs:List Value),WellAll P h vs (ns.map WData.int)->IntsAre vs ns:=by
 intro ns
 induction ns with
 | nil =>
   intro vs w;rw[List.map_nil]at w;cases w;exact .nil
 | cons n ns ih =>
   intro vs w;rw[List.map_cons]at w
   cases w with
   | cons a b =>
     cases a;exact .cons _ _ (ih _ b)
theorem qhf {l:OpenLaw}{n:Nat} (hn:l.most=some n) {P:Params}{h:Heap}{args:List WData}{vals:List Value}
   (hpre:l.row.toRowW.claim.pre args=true) (hwl:WellAll P h vals args) :
   ∃ a vs ns,vals=[Value.ref a]∧args=[WData.list (ns.map WData.int)]∧h.get? a=some { cls:=.type "list",data:=.seq vs.toArray }∧IntsAre vs ns∧ns.length≤n:=by
 have hsh:WShape.hasAll [] args [.list .int]=true:=(pre_splitW hpre).1;have hc:l.pre.holds [] { args:=args }=true:=(pre_splitW hpre).2;obtain⟨d,r,rfl,h1,h2⟩:=hasAllW_cons hsh;obtain rfl:=hasAllW_nil h2;obtain⟨xs,rfl,h3⟩:=hasW_list h1;obtain⟨ns,rfl⟩:=items_int h3
 have hlen:ns.length≤n:=by
   unfold OpenLaw.pre at hc
   have h4:(WTm.not (.lt (.lit (.int (n:Int))) (.len (.arg 0)))).holds [] { args:=[.list (ns.map .int)] }=true:=by
     have h4:=(holds_andW hc).1;rw[hn]at h4;exact h4
   have h5:=condW_of h4 (w_not (w_lt w_lit (w_len_list (w_arg rfl))));rw[List.length_map]at h5;refine Nat.le_of_not_lt fun q=>?_;have q':(n:Int) < ((ns.length:Nat):Int):=by omega
   first
     | (rw[decide_eq_true q']at h5;exact absurd h5 (by decide))
     | (simp at h5;omega)
 cases hwl with
 | cons w1 w2 =>
   cases w2
   cases w1 with
   | list ho hall=>exact⟨_,_,ns,rfl,rfl,ho,qbv ns _ hall,hlen⟩
theorem qht (l:OpenLaw) (args:List WData):l.row.toRowW.claim.post args (.bool true) args=true :=
 postW_of (r:=l.row.toRowW) (X:=(true == true))
   (show WShape.has [] (.bool true) .bool=true by first|rfl|decide|simp[WShape.has,WShape.arms,WShape.armsAll])
   (show (WTm.eq .res (.lit (.bool true))).value [] { args:=args,res:=some (.bool true),after:=args }=some (.bool (true == true)) from w_eq_bool (w_res rfl) w_lit) rfl
theorem attach_call {l:OpenLaw}{n:Nat}{q:Program}{loose:List Str}{XP:(Str->Option Value)->Heap->Prop}{YP:World->Heap->Prop}{d:DefRec}
   (hn:l.most=some n) (hdf:d.params.defaults=[])
   (call:∀ (w:World) (s₀ s₁:Shared) (mg mb:Str->Option Value) (fa:Addr) (o:Obj) (pm cd doc:Value) (a:Addr) (vs:List Value) (ns:List Int),
     Ground q loose [] XP w s₀ mg mb s₁.heap->YP w s₁.heap ->
     s₁.heap.get? fa=some o->o.data=.func (docDef d.name d.params d.body d.scope pm cd doc)->s₁.heap.CodeRec cd d.name->mg d.name=some (.ref fa) ->
     s₁.heap.get? a=some { cls:=.type "list",data:=.seq vs.toArray }->IntsAre vs ns->ns.length≤n->s₁.gens=#[] ->
     codeAny (model l.prog w) callerA (.call (.ref fa) ⟨[.ref a],[]⟩) (fun r s'=>r=.ok (.ret (.bool true))∧OldK s₁.heap s'.heap∧s'.os=s₁.os∧AllBare s'.gens) s₁) :
   WalkO q loose XP YP l.row.toRowW d [] (fun f vs=>PySem.call f vs):=by
 intro w s₀ s₁ mg mb G Y fa o pm cd doc dV kV ho hd hcd hD hmg hg args vals as hpre hlay hrd hwl hlo;obtain rfl:dV=.none:=Dflts.none hD hdf;obtain rfl:kV=.none:=Dflts.noKw hD;obtain⟨a,vs,ns,rfl,rfl,hobj,hints,hlen⟩:=qhf hn hpre hwl;refine enter_call (codeAny_mono (call w s₀ s₁ mg mb fa o pm cd doc a vs ns G Y ho (fd_plain hd) hcd hmg hobj hints hlen hg) fun r s' hq=>?_);obtain⟨rfl,h2,h3,h4⟩:=hq;exact⟨.inl ⟨.bool true,.bool true,[],rfl,fun _=>rfl,.bool true,qht l _,fun _=>⟨List.Pairwise.nil,fun _ hm=>(nomatch hm)⟩⟩,h2,h3,h4⟩
end Att
namespace L2
open PySem PySem.Spec PyProof.Rows
open PySem.W (Frag keepIn kitOne fnOf codeIn)
theorem qdp:∀ {vs:List Value}{ns:List Int},IntsAre vs ns->Vals (ns.map V.int) vs
 | _,_,.nil=>.nil
 | _,_,.cons n t h=>.cons ⟨t,rfl⟩ (qdp h)
def qnh (H:Hp):Prop:=∀ b,H b=none∨∃ o xs,H b=some (.frz o (.lst xs))
theorem law_call {P:Program}{w:World}{K:Frag}{mg mb:Str->Option Value}{CX:CXT}{k:Nat}{fa a:Addr}{fd:FuncData}{x:Str}{sp:Sp}{s₁:Shared}{vs:List Value}{ns:List Int}
   (KX:K.In s₁.heap) (hns:s₁.heap.Ns mainGlobals mg) (hb:s₁.heap.Ns builtinsNs mb) (hbb:∀ x:Str,x≠"__name__"->mb x=bootBuiltins x) (hlim:s₁.heap.NoLimit) (hg:s₁.gens=#[])
   (ha:s₁.heap.get? a=some { cls:=.type "list",data:=.seq vs.toArray }) (hi:IntsAre vs ns) (hl:ns.length≤sizeLine) (hr:Room k callerA)
   (F:∀ base:Heap,K.In base->base.Ns mainGlobals mg->qy P w K mg base CX k fa fd [x] sp) (hbind:∀ (s:Shared) (u:Value),BindsTo s fd ⟨[u],[]⟩ [(x,u)])
   (hsp:∀ H:Hp,qnh H->SqL K H a (ns.map V.int)->sp [.ref a] H (fun v _=>v=.bl true) fun _ _ _=>False)
   (hCX:∀ H e s',CX [] H s₁ (fun _ _ _=>False) e s'->False) :
   codeAny (model P w) callerA (.call (.ref fa) ⟨[.ref a],[]⟩) (fun r s'=>r=.ok (.ret (.bool true))∧OldK s₁.heap s'.heap∧s'.os=s₁.os∧AllBare s'.gens) s₁:=by
 have rv:=qdp hi;have lenV:=hi.length
 -- from an abstract heap in which nothing but the script may be tracked
 have core:∀ H:Hp,qnh H->SqL K H a (ns.map V.int)->HOk P w H s₁.heap->(∀ b,H b≠none->b=a)->(H a≠none->K.lookup a=none) ->
     codeAny (model P w) callerA (.call (.ref fa) ⟨[.ref a],[]⟩) (fun r s'=>r=.ok (.ret (.bool true))∧OldK s₁.heap s'.heap∧s'.os=s₁.os∧AllBare s'.gens) s₁:=by
   intro H hO hS hok hA hK;have base_of:∀ {b:Addr}{o:Obj},s₁.heap.get? b=some o->H b=none->(qjo s₁.heap H).get? b=some o:=fun e n=>qjn e n
   have noA:∀ {b:Addr}{o:Obj}{es:Array DictEntry}{ep:Nat},s₁.heap.get? b=some o->o.data=.dict es ep->H b=none:=fun {b o es ep} e d=>by
     cases q:H b with
     | none=>rfl
     | some u =>
       have e':b=a:=hA b (by rw[q];simp);subst e';rw[ha]at e;cases e;have d':Data.seq vs.toArray _=Data.dict es ep:=d;cases d'
   have nsK:∀ {b:Addr}{m:Str->Option Value},s₁.heap.Ns b m->(qjo s₁.heap H).Ns b m:=fun {b m} ⟨o,es,ep,e,d,r⟩=>⟨o,es,ep,base_of e (noA e d),d,r⟩
   have hKb:K.In (qjo s₁.heap H):=fun b o e=>base_of (KX b o e) (by
     cases q:H b with
     | none=>rfl
     | some u =>
       have e':b=a:=hA b (by rw[q];simp);subst e'
       rw[hK (by rw[q];simp)]at e;cases e)
   have hM:Mod K mg (qjo s₁.heap H):=⟨hKb,nsK hns,⟨mb,nsK hb,hbb⟩,let ⟨mc,h1,h2⟩:=hlim;⟨mc,nsK h1,h2⟩⟩
   have e0:Env0 P w K mg (qjo s₁.heap H) callerA [] s₁ H:=⟨rfl,hM,fun b o e=>qkR e,Nat.le_of_eq (qh7 _ _),trivial,fun b hb=>absurd (show b∈([]:List Addr) from hb) (by simp),hok,.of_eq hg⟩
   refine codeAny_mono ((F _ hKb (nsK hns)).run callerA [] s₁ H ⟨[.ref a],[]⟩ [.ref a] [.ref a] _ _ hr e0 (hbind s₁ (.ref a)) (.cons rfl .nil) (hsp H hO hS)) fun r s' h=>?_
   cases r with
   | error e=>exact(hCX H e s' h).elim
   | ok fl =>
     cases fl with
     | next=>exact False.elim h
     | brk=>exact False.elim h
     | cont=>exact False.elim h
     | ret u =>
       obtain⟨v,H',os,bare,un,hok',r',q⟩:=h;have q':v=.bl true:=q;subst q';obtain rfl:u=Value.bool true:=r';refine⟨rfl,OldK.of_keep fun b o e=>?_,os,bare⟩
       cases q:H b with
       | none=>exact un.keep b o e q (by intro z;exact absurd (show b∈([]:List Addr) from z) (by simp)) (by simp)
       | some u =>
         rcases hO b with z|⟨ob,xs,z⟩
         · rw[q]at z;cases z
         · have z2:=un.frzs b ob _ z;obtain⟨e1,_⟩:=hok b _ z;obtain⟨e2,_⟩:=hok' b _ z2;rw[e]at e1;cases e1;exact e2
 cases hk:K.lookup a with
 | some o =>
   -- the script is one of the module's own objects
   have e:=KX a o hk;rw[ha]at e;cases e;refine core (fun _=>none) (fun _=>.inl rfl) (.inr ⟨_,vs.toArray,_,hk,rfl,rfl,rfl,by rw[List.size_toArray,lenV];exact hl,by simpa using rv⟩) (fun b u z=>by have z':(none:Option HO)=some u:=z;cases z') (fun b z=>absurd rfl z) fun z=>absurd rfl z
 | none =>
   refine core (fun b=>if b=a then some (.frz { cls:=.type "list",data:=.seq vs.toArray } (.lst (ns.map V.int))) else none) (fun b=>?_) (.inl (.inr ⟨{ cls:=.type "list",data:=.seq vs.toArray },if_pos rfl⟩)) (fun b u z=>?_) (fun b z=>?_) fun _=>hk
   · by_cases hb:b=a
     · exact .inr ⟨_,_,if_pos hb⟩
     · exact .inl (if_neg hb)
   · by_cases hb:b=a
     · have z':=(if_pos hb).symm.trans z;cases z';subst hb;exact⟨ha,by rw[List.length_map];exact hl,vs,_,rv,ha⟩
     · have z':=(if_neg hb).symm.trans z;cases z'
   · by_cases hb:b=a
     · exact hb
     · exact absurd (if_neg hb) z
theorem walk_of {l:PySem.W.OpenLaw}{n k:Nat}{q:Program}{loose:List Str}{XP:(Str->Option Value)->Heap->Prop}{YP:World->Heap->Prop}{d:DefRec}{K:Params->Frag}{CX:World->CXT}{sp:World->Sp}{x:Str}
   (hn:l.most=some n) (hn2:n≤sizeLine) (hdf:d.params.defaults=[]) (hr:Room k callerA)
   (hY:∀ (w:World) (h:Heap),YP w h->(K w.params).In h)
   (F:∀ (w:World) (mg:Str->Option Value) (fa:Addr) (h:Heap),(K w.params).In h->h.Ns mainGlobals mg->mg d.name=some (.ref fa) ->
     ∃ fd:FuncData,(∀ (s:Shared) (u:Value),BindsTo s fd ⟨[u],[]⟩ [(x,u)]) ∧
       ∀ base:Heap,(K w.params).In base->base.Ns mainGlobals mg->qy l.prog w (K w.params) mg base (CX w) k fa fd [x] (sp w))
   (hsp:∀ (w:World) (H:Hp) (a:Addr) (ns:List Int),ns.length≤n->qnh H->SqL (K w.params) H a (ns.map V.int)->sp w [.ref a] H (fun v _=>v=.bl true) fun _ _ _=>False)
   (hCX:∀ (w:World) (H:Hp) (s:Shared) (e:Value) (s':Shared),CX w [] H s (fun _ _ _=>False) e s'->False) :
   PySem.W.WalkO q loose XP YP l.row.toRowW d [] (fun f vs=>PySem.call f vs):=by
 refine Att.attach_call hn hdf fun w s₀ s₁ mg mb fa o pm cd doc a vs ns G Y ho hd hcd hmg hobj hints hlen hg=>?_;have KX:=hY w _ Y;obtain⟨fd,hb,hF⟩:=F w mg fa _ KX G.T.g hmg;exact law_call KX G.T.g G.T.b G.T.builtins G.T.nolimit hg hobj hints (Nat.le_trans hlen hn2) hr hF hb (fun H hO hS=>hsp w H a ns hlen hO hS) fun H e s'=>hCX w H s₁ e s'
def qD (s:Stmt) (j:Nat):Stmt:=match s with
 | .ClassDef _ _ _ body _ _ _ _ _ _ _=>body.getD j (.Pass ⟨0,0,0,0⟩)
 | _=>.Pass ⟨0,0,0,0⟩
def QH (s:Stmt):Arguments:=match s with
 | .FunctionDef _ a _ _ _ _ _ _ _ _=>a
 | _=>{ posonlyargs:=[],args:=[],vararg:=none,kwonlyargs:=[],kw_defaults:=[],kwarg:=none,defaults:=[] }
def Qe (s:Stmt):List Stmt:=match s with
 | .FunctionDef _ _ b _ _ _ _ _ _ _=>b
 | _=>[]
def qg (s:Stmt):Scope:=match s with
 | .FunctionDef _ _ _ _ _ _ sc _ _ _=>sc
 | _=>{ kind:=.function,names:=[],isGenerator:=false,isCoroutine:=false }
abbrev CX0:CXT:=fun _ _ _ _ _ _=>False
abbrev E0:XK:=fun _ _ _=>False
theorem qo {X:Cx}:jw CX0 X E0:=fun _ _ _ _ _ _ _ h=>h.elim
structure Fun (K:Frag) (x qual:Str) (st:Stmt) (f:Addr) (fd:FuncData):Prop where
 ex:∃ (oc:Value) (od:Option Addr) (kV doc pm:Value) (an:Option Addr) (cdv ct:Value) (osl:Array (Option Value)),
   fd=fnOf x qual (QH st) (Qe st) (qg st) .none kV doc pm an cdv ct∧K.lookup f=some ⟨oc,od,.func fd,osl⟩∧codeIn K cdv qual=true
 kp:keepIn K (.ref f)=true
section
variable {P:Program}{w:World}{K:Frag}{mg:Str->Option Value}{base:Heap}
theorem Fun.ok {x qual:Str}{st:Stmt}{f:Addr}{fd:FuncData}{N ps:List Str}{k:Nat}{sp:Sp} (F:Fun K x qual st f fd) (S:ql N ps (qg st)) (len:∀ vs H Q E,sp vs H Q E->vs.length=ps.length)
   (hbody:∀ (cdv:Value) (A:Around) (outer:List Env) (s:Shared) (H:Hp) (vs:List V) (Q:VK) (E:XK),Room k (A.deeper (envOfC qual (qg st) s.heap.objs.size f cdv))->sp vs H Q E ->
     ∃ t,PSs (ze CX0 P w K mg base N qual (qg st) f cdv A outer s H E).nox (Qe st) t∧t { nx:=fun _ H'=>Q .non H',rt:=Q } (qcz N vs) H):qy P w K mg base CX0 (k+1) f fd ps sp:=by
 obtain⟨oc,od,kV,doc,pm,an,cdv,ct,osl,rfl,lk,hcd⟩:=F.ex;refine qmr lk hcd S len fun A outer s H vs Q E hr hsp=>?_;obtain⟨t,h,q⟩:=hbody cdv A outer s H vs Q E hr hsp;exact⟨t,h.nox,q⟩
theorem Fun.binds {x qual:Str}{st:Stmt}{f:Addr}{fd:FuncData}{ps:List Str} (F:Fun K x qual st f fd)
   (h:∀ (kV doc pm:Value) (an:Option Addr) (cdv ct:Value) (us:List Value),us.length=ps.length->bindArgs (fnOf x qual (QH st) (Qe st) (qg st) .none kV doc pm an cdv ct) ⟨us,[]⟩=pure (ps.zip us)):Binds K fd ps []:=by
 obtain⟨oc,od,kV,doc,pm,an,cdv,ct,osl,rfl,lk,hcd⟩:=F.ex;exact .all (h kV doc pm an cdv ct)
theorem qf6 {x qual:Str}{st:Stmt}{f:Addr}{oc:Value}{od an:Option Addr}{osl:Array (Option Value)}{kV doc pm cdv ct:Value} (l:K.lookup f=some ⟨oc,od,.func (fnOf x qual (QH st) (Qe st) (qg st) .none kV doc pm an cdv ct),osl⟩)
   (c:codeIn K cdv qual=true) (k:keepIn K (.ref f)=true):Fun K x qual st f (fnOf x qual (QH st) (Qe st) (qg st) .none kV doc pm an cdv ct):=⟨⟨oc,od,kV,doc,pm,an,cdv,ct,osl,rfl,l,c⟩,k⟩
end
theorem qI {A:Around}{k:Nat} (hr:Room k A):A.units+1 < cLine:=Nat.lt_of_le_of_lt (Nat.add_le_add_left (by decide:1≤64) _) hr.units
theorem qw {n:Nat} (h:n≤1000):n < sizeLine:=Nat.lt_of_le_of_lt h (by decide)
section
variable {X:Cx}
theorem pv (i:Nat) {x:Str}{pos:Pos} (hN:X.N[i]?=some x:=by rfl) (hv:Vis X.env.scope x:=by first|exact Or.inl rfl|exact Or.inr (Or.inl rfl)|exact Or.inr (Or.inr rfl)) (hd:(x == ("__debug__":Str))=false:=by decide)
   (hcd:(x == ("__classdict__":Str))=false:=by decide):PE X (.Name x pos) (qmA i):=ql1 hN hv hd hcd
theorem qey:Zk X (.builtin "len") (fun xs H Q=>∃ a kvs,xs=[V.ref a]∧H a=some (.dK kvs)∧Q (.int kvs.length) H):=by
 intro pins s σ H xs us Q I r h;obtain⟨a,kvs,rfl,ha,q⟩:=h;obtain⟨u,rfl,ru⟩:=Jm r;cases ru;exact qnc I (.inl ha) fun t s' I'=>⟨.int kvs.length,H,I',⟨t,rfl⟩,q⟩
end
theorem qgR {A B:Prop} (h:B):if false=true then A else B:=by
 rw[if_neg Bool.false_ne_true];exact h
theorem qgF {A B:Prop} (h:A):if true=true then A else B:=by
 rw[if_pos rfl];exact h
def Same (H H':Hp):Prop:=∀ b o,H b=some o->H' b=some o
theorem Same.refl (H:Hp):Same H H:=fun _ _ h=>h
theorem Same.trans {H H1 H2:Hp} (a:Same H H1) (b:Same H1 H2):Same H H2:=fun c o h=>b c o (a c o h)
theorem Same.seq {K:Frag}{H H':Hp}{a:Addr}{xs:List V} (e:Same H H') (h:SqL K H a xs):SqL K H' a xs:=by
 rcases h with (h|⟨o,h⟩)|h
 · exact .inl (.inl (e _ _ h))
 · exact .inl (.inr ⟨o,e _ _ h⟩)
 · exact .inr h
section
variable {X:Cx}{pins:List (Addr×Obj)}{σ:St}{H:Hp}{s:Shared}{h':Heap}
theorem Inv.turnLaid {ch:List Addr}{a:Addr}{o:HO}{t':Nat} (I:Inv X pins σ H s) (k:∀ b u,b∉ch->s.heap.get? b=some u->h'.get? b=some u) (hf:∀ b∈ch,qgQ X pins H b)
   (hp:s.heap.objs.size≤a) (new:ObjOk X.prog X.w (upd H a o) h' a o):Inv X pins σ (upd H a o) { s with heap:=h',toks:=t' }:=by
 have hn:H a=none:=I.hok.fresh hp;refine I.step (g':=s.gens) (d':=s.drawn) (ch:=ch) (fun b hb=>?_) (fun b u _ _ hc e _=>k b u hc e) (fun b u _ _ hc e _=>⟨u.slots,k b u hc e⟩)
   (fun b u _ e n=>?_) (fun b u hc e=>⟨u,k b u hc e⟩) (fun b xs e=>?_) (fun b u v e=>?_) (fun b ps e=>?_) (fun m hm=>?_) (fun b u e=>?_) I.bare
 · obtain⟨_,f1,_,f3,f4,f5⟩:=hf b hb;exact⟨f3,f1,f4,f5⟩
 · rw[qh (Nat.ne_of_lt (Nat.lt_of_lt_of_le (Heap.lt_size e) hp))];exact n
 · rw[qh (qm e hn)];exact e
 · rw[qh (qm e hn)];exact e
 · exact⟨#[],by rw[qh (qm e hn),e];simp⟩
 · obtain⟨ob,es,ep,ho,r⟩:=hm;exact⟨ob,es,ep,k _ ob (fun z=>(hf _ z).2.1 rfl) ho,r⟩
 · by_cases hb:b=a
   · subst hb;rw[qd]at e;cases e;exact new
   · rw[qh hb]at e;refine(I.hok b u e).stay (fun c v hc q=>k c v ?_ q) (fun c q=>by rw[qh (qm q hn)];exact q) fun c xs q=>by rw[qh (qm q hn)];exact q
     intro z;have zz:=(hf c z).1;rcases hc with rfl|hc
     · rw[e]at zz;cases zz
     · rw[hc]at zz;cases zz
theorem Inv.turnL {ch:List Addr}{t':Nat} (I:Inv X pins σ H s) (k:∀ b u,b∉ch->s.heap.get? b=some u->h'.get? b=some u) (hf:∀ b∈ch,qgQ X pins H b) :
   Inv X pins σ H { s with heap:=h',toks:=t' }:=by
 refine I.step (g':=s.gens) (d':=s.drawn) (ch:=ch) (fun b hb=>?_) (fun b u _ _ hc e _=>k b u hc e) (fun b u _ _ hc e _=>⟨u.slots,k b u hc e⟩)
   (fun b u _ e n=>n) (fun b u hc e=>⟨u,k b u hc e⟩) (fun b xs e=>e) (fun b u v e=>e) (fun b ps e=>⟨#[],by rw[e];simp⟩) (fun m hm=>?_) (fun b u e=>?_) I.bare
 · obtain⟨_,f1,_,f3,f4,f5⟩:=hf b hb;exact⟨f3,f1,f4,f5⟩
 · obtain⟨ob,es,ep,ho,r⟩:=hm;exact⟨ob,es,ep,k _ ob (fun z=>(hf _ z).2.1 rfl) ho,r⟩
 · refine(I.hok b u e).stay (fun c v hc q=>k c v ?_ q) (fun c q=>q) fun c xs q=>q;intro z;have zz:=(hf c z).1;rcases hc with rfl|hc
   · rw[e]at zz;cases zz
   · rw[hc]at zz;cases zz
end
def Ite (K:Frag) (a:Addr):It :=
 ⟨fun i H=>∃ xs x,SqL K H a xs∧xs[i]?=some x,
  fun i H x H'=>∃ p v,H p=none∧x=.ref p∧(∀ xs,SqL K H a xs->xs[i]?=some v)∧H'=upd H p (.tup [.int i,v]),
  fun i H=>∃ xs,SqL K H a xs∧xs.length≤i⟩
theorem qgX {P:Program}{w:World}{K:Frag}{elts:List Expr}{k:Nat}{pos:Pos} (a e it:Addr) (hne:e≠it) :
   qlo P w K (.Tuple elts k pos) (Ite K a) [e,it] e (fun i h=>(∃ old,IsEnum h e it i old)∧h.IsListIter it a i) where
 mem:=by simp
 obj:=fun i h st b hb=>by
   obtain⟨⟨old,he⟩,hit⟩:=st;rcases List.mem_cons.mp hb with rfl|hb
   · exact⟨_,he,fun v z=>by cases z⟩
   · have e1:b=it:=by simpa using hb
     subst e1;obtain⟨o,q,c,d⟩:=hit;exact⟨o,q,fun v z=>by rw[d]at z;cases z⟩
 keep:=fun i h h' st kk=>by
   obtain⟨⟨old,he⟩,hit⟩:=st;exact⟨⟨old,kk e (by simp) _ he⟩,hit.at fun o q=>kk it (by simp) o q⟩
 item:=by
   intro X hP hw hK hc i pins s σ H E I hf st hg;subst hP hw hK;obtain⟨xs,x,hq,hx⟩:=hg;obtain⟨its,rv,p,hz⟩:=I.list hq;obtain⟨u,hu,ru⟩:=rv.get hx;obtain⟨⟨old,he⟩,hit⟩:=st;refine wpAny_pyNext_enum_item he hit p.isList (x:=u) (by simpa using hu) hne fun h1 ho hit1 hT hsz hk=>?_;refine⟨_,rfl,wpAny_letOwnedTupleGo_enum (s:={ s with heap:=h1,toks:=s.toks+1 }) ho fun h2 he2 hs2=>?_⟩;have hel:e < s.heap.objs.size:=Heap.lt_size he;have hil:it < s.heap.objs.size:=by obtain⟨_,q,_⟩:=hit;exact Heap.lt_size q
   have hT2:h2.get? s.heap.objs.size=some { cls:=.type "tuple",data:=.seq #[.int i s.toks,u] }:=(hs2.2 _ (Nat.ne_of_gt hel)).trans hT
   have I1:Inv X pins σ (upd H s.heap.objs.size (.tup [.int i,x])) { s with heap:=h2,toks:=s.toks+1 }:=by
     refine I.turnLaid (ch:=[e,it]) (fun b o hb q=>?_) hf (Nat.le_refl _) ⟨by show 2≤sizeLine;decide,[.int i s.toks,u],.cons ⟨_,rfl⟩ (.cons ru .nil),⟨_,hT2,rfl,_,rfl⟩⟩;have b1:b≠e:=fun z=>hb (by simp[z]);have b2:b≠it:=fun z=>hb (by simp[z]);exact(hs2.2 b b1).trans (hk b o b1 b2 q)
   refine⟨.ref s.heap.objs.size,_,I1,rfl,⟨_,x,I.hok.fresh (Nat.le_refl _),rfl,fun ys hy=>by rw[I.list_inj hy hq];exact hx,rfl⟩,⟨⟨_,by simpa using he2⟩,hit1.at fun o q=>(hs2.2 it hne.symm).trans q⟩,fun b hb=>?_⟩
   have hbl:b < s.heap.objs.size:=by
     rcases List.mem_cons.mp hb with rfl|hb
     · exact hel
     · have e1:b=it:=by simpa using hb
       rw[e1];exact hil
   rw[qh (Nat.ne_of_lt hbl)];exact(hf b hb).1
 done:=by
   intro X hP hw hK hc i pins s σ H E I hf st hg;subst hP hw hK;obtain⟨xs,hq,hx⟩:=hg;obtain⟨its,rv,p,hz⟩:=I.list hq;obtain⟨⟨old,he⟩,hit⟩:=st;have hl:=rv.length;refine wpAny_pyNext_enum_end (I.ok.hd hc) he hit p.isList (by simp;omega) fun h' eb=>⟨rfl,I.turnL (t':=s.toks) (ch:=[e,it]) (fun b o hb q=>eb b o (fun z=>hb (by simp[z])) q) hf⟩
 self:=fun _ _ _ _ _ st h=>by
   obtain⟨⟨old,he⟩,_⟩:=st;exact wpAny_pyIter_enum he h
theorem qix:bootBuiltins "enumerate"=some (.type "enumerate"):=by decide +kernel
inductive qh6 (K:Frag) (R:(It->Hp->Prop)) (vs:List V) (H1:Hp):Prop
 | mk (a:_) (h1:vs=[.ref a]) (h2:(∃ xs,SqL K H1 a xs)) (h3:R (Ite K a) H1):qh6 K R vs H1
def qm7 (K:Frag) (ta:TA):TI:=fun σ H R=>ta σ H fun vs H1=>qh6 K R vs H1
section
variable {X:Cx}
theorem qhv {a:Expr}{ta:TA}{p pos tp:Pos}{elts:List Expr}{kk:Nat} (hg:Gl X "enumerate") (hm:X.mg "enumerate"=none) (ha:PA X [a] ta) (hs:starEach [a] X.env=[(false,eval a X.env)]:=by rfl) :
   PI X (.Tuple elts kk tp) (.Call (.Name "enumerate" p) [a] [] pos) (qm7 X.K ta):=by
 intro pins s σ H R I h;refine Call_ (qab I hg hm qix (PyProof.Rows.callWith_type1 (thn (ha pos pins s σ H _ I h) fun us s1 zz_=>?_) hs rfl));obtain⟨vs,H1,I1,r1,q1⟩:=zz_;obtain⟨l,e,⟨xs,hq⟩,q⟩:=q1;subst e;obtain⟨u,rfl,ru⟩:=Jm r1;cases ru;obtain⟨its,rv,pl,hz⟩:=I1.list hq;refine call_enumerate_list pl.isList fun h' he hit hsz hk=>?_;have I2:Inv X pins σ H1 { s1 with heap:=h' }:=I1.kept (t':=s1.toks) hk;refine wpAny_pyIter_enum he ⟨s1.heap.objs.size+1,[s1.heap.objs.size+1,s1.heap.objs.size],_,Ite X.K l,H1,rfl,I2,qgX l _ _ (Nat.succ_ne_self _),⟨⟨_,he⟩,hit⟩,fun b hb=>?_,q⟩
 have hb1:s1.heap.objs.size≤b:=by
   rcases List.mem_cons.mp hb with e1|hb
   · rw[e1];exact Nat.le_succ _
   · have e1:b=s1.heap.objs.size:=by simpa using hb
     rw[e1];exact Nat.le_refl _
 exact I1.fpOk hb1 (I1.hok.fresh hb1)
end
theorem qf7 {K:Frag}{a:Addr}{xs:List V}{g:TG}{tb:TS}{D:qgS}{σ:St}{H:Hp} (Pv:Nat->St->Hp->Prop) (h0:Pv 0 σ H) (hl:∀ i σ H,i≤xs.length->Pv i σ H->SqL K H a xs)
   (hs:∀ i x σ H p,xs[i]?=some x->Pv i σ H->H p=none->g (.ref p) σ (upd H p (.tup [.int i,x])) fun σ2 H2=>tb { D with nx:=Pv (i+1),ct:=Pv (i+1),bk:=D.nx } σ2 H2) (hd:∀ σ H,Pv xs.length σ H->D.nx σ H) :
   ∃ W:Nat->Nat->St->Hp->Prop,(∃ m,W 0 m σ H)∧∀ i m σ H,W i m σ H ->
     ((Ite K a).stop i H∧D.nx σ H)∨((Ite K a).go i H∧∃ N:St->Hp->Prop,(∀ σ' H',N σ' H'->∃ m',m' < m∧W (i+1) m' σ' H')∧∀ x H',(Ite K a).yld i H x H'->g x σ H' fun σ2 H2=>tb { D with nx:=N,ct:=N,bk:=D.nx } σ2 H2):=by
 refine⟨fun i m σ H=>m=xs.length - i∧i≤xs.length∧Pv i σ H,⟨xs.length,by simp,Nat.zero_le _,h0⟩,?_⟩;rintro i m σ H ⟨rfl,hi,p⟩;have q:=hl i σ H hi p;by_cases hlt:i < xs.length
 · refine .inr ⟨⟨xs,xs[i],q,by simp[hlt]⟩,Pv (i+1),fun σ' H' p'=>⟨xs.length - (i+1),by omega,rfl,hlt,p'⟩,fun x H' y=>?_⟩;obtain⟨t,v,hn,rfl,y,rfl⟩:=y;exact hs i v σ _ t (y xs q) p hn
 · have e:i=xs.length:=by omega
   subst e;exact .inl ⟨⟨xs,q,Nat.le_refl _⟩,hd σ H p⟩
def tyN (H:Hp):V->Option String
 | .non=>some "NoneType"
 | .bl _=>some "bool"
 | .int _=>some "int"
 | .str _=>some "str"
 | .ref a=>match H a with
   | some (.lst _)=>some "list"
   | some (.tup _)=>some "tuple"
   | some (.dK _)=>some "dict"
   | _=>none
 | _=>none
def qm3 (c t:String):Bool:=t == c || (t == "bool" && c == "int")
theorem qiM {K:Frag}{H:Hp}{v:V}{t:String} (h:tyN H v=some t):qdo K H v (.type t):=by
 cases v with
 | non=>cases h;exact .non
 | bl b=>cases h;exact .bl b
 | int b=>cases h;exact .int b
 | str b=>cases h;exact .str b
 | byt b=>cases h
 | flt b=>cases h
 | ty b=>cases h
 | ref a =>
   simp only[tyN]at h;split at h
   · rename_i e;cases h;exact .lst e
   · rename_i e;cases h;exact .tup e
   · rename_i e;cases h;exact .dK e
   · cases h
def qeK:List String:=["NoneType","bool","int","str","list","tuple","dict"]
theorem qko {H:Hp}{v:V}{t:String} (h:tyN H v=some t):t∈qeK:=by
 cases v with
 | non=>cases h;decide
 | bl b=>cases h;decide
 | int b=>cases h;decide
 | str b=>cases h;decide
 | byt b=>cases h
 | flt b=>cases h
 | ty b=>cases h
 | ref a =>
   simp only[tyN]at h;split at h<;>first|(cases h;decide)|cases h
def qdd:List String:=["bool","int","str","list","tuple","dict"]
theorem qmm (K:Frag) {t c:String} (ht:t∈qeK) (hc:c∈qdd):kitOne K (.type t) (.type c)=some (qm3 c t):=by
 simp only[qeK,qdd,List.mem_cons,List.not_mem_nil,or_false]at ht hc;rcases ht with rfl|rfl|rfl|rfl|rfl|rfl|rfl<;>rcases hc with rfl|rfl|rfl|rfl|rfl|rfl<;>(unfold kitOne PySem.W.kitCls;rfl)
inductive qjU (xs:List V) (H:Hp) (Q:VK):Prop
 | mk (x c t:_) (h1:xs=[x,.ty c]) (h2:c∈qdd) (h3:tyN H x=some t) (h4:Q (.bl (qm3 c t)) H):qjU xs H Q
def qnT:List V->Hp->VK->Prop:=fun xs H Q=>qjU xs H Q
section
variable {X:Cx}
theorem zV:Zk X (.builtin "isinstance") qnT:=by
 intro pins s σ H xs us Q I r h;obtain⟨x,c,t,rfl,hc,ht,q⟩:=h;obtain⟨u,w',rfl,ru,rw'⟩:=qgg r;cases (show w'=Value.type c from rw');exact qer I ru (qiM ht) (qmm X.K (qko ht) hc) fun tk=>⟨.bl _,H,I.tok tk,rfl,q⟩
end
mutual
inductive DV (H:Hp):V->PyData->Prop
 | non:DV H .non .none
 | bl (b):DV H (.bl b) (.bool b)
 | int (i):DV H (.int i) (.int i)
 | str (x):DV H (.str x) (.str x)
 | lst {a xs ds}:Rd H a (.lst xs)->DVs H xs ds->DV H (.ref a) (.list ds)
 | tup {a xs ds}:Rd H a (.tup xs)->DVs H xs ds->DV H (.ref a) (.tuple ds)
inductive DVs (H:Hp):List V->List PyData->Prop
 | nil:DVs H [] []
 | cons {x xs d ds}:DV H x d->DVs H xs ds->DVs H (x::xs) (d::ds)
end
theorem Rd.same {H H':Hp} (e:Same H H') {a:Addr}{u:HO} (r:Rd H a u):Rd H' a u:=by
 rcases r with r|⟨o,r⟩
 · exact .inl (e _ _ r)
 · exact .inr ⟨o,e _ _ r⟩
mutual
theorem DV.same {H H':Hp} (e:Same H H'):∀ {v:V}{d:PyData},DV H v d->DV H' v d
 | _,_,.non=>.non
 | _,_,.bl b=>.bl b
 | _,_,.int i=>.int i
 | _,_,.str x=>.str x
 | _,_,.lst r q=>.lst (r.same e) (DVs.same e q)
 | _,_,.tup r q=>.tup (r.same e) (DVs.same e q)
theorem DVs.same {H H':Hp} (e:Same H H'):∀ {v:List V}{d:List PyData},DVs H v d->DVs H' v d
 | _,_,.nil=>.nil
 | _,_,.cons a b=>.cons (DV.same e a) (DVs.same e b)
end
section
variable {P:Program}{w:World}{H:Hp}{h:Heap}
mutual
theorem DV.reads (ok:HOk P w H h):∀ {v:V}{d:PyData}{u:Value},DV H v d->RelV v u->∃ as,Reads h u d as
 | _,_,u,.non,r=>by cases (show u=Value.none from r);exact⟨_,.none⟩
 | _,_,u,.bl b,r=>by cases (show u=Value.bool b from r);exact⟨_,.bool b⟩
 | _,_,u,.int i,r=>by obtain⟨t,q⟩:=(show ∃ t,u=Value.int i t from r);cases q;exact⟨_,.int i t⟩
 | _,_,u,.str x,r=>by obtain⟨t,q⟩:=(show ∃ t,u=Value.str x t from r);cases q;exact⟨_,.str x t⟩
 | _,_,u,.lst (a:=a) rd q,r=>by
   cases (show u=Value.ref a from r);obtain⟨_,its,n,rv,e⟩:=rd.ok ok;obtain⟨as,z⟩:=DVs.reads ok q rv;exact⟨_,.list e rfl rfl z⟩
 | _,_,u,.tup (a:=a) rd q,r=>by
   cases (show u=Value.ref a from r);obtain⟨_,its,rv,ob,e,c,n,d⟩:=rd.ok ok;obtain⟨as,z⟩:=DVs.reads ok q rv;exact⟨_,.tuple e c d z⟩
theorem DVs.reads (ok:HOk P w H h):∀ {vs:List V}{ds:List PyData}{us:List Value},DVs H vs ds->Vals vs us->∃ as,ReadsAll h us ds as
 | _,_,_,.nil,.nil=>⟨_,.nil⟩
 | _,_,_,.cons a b,.cons r t=>by
   obtain⟨as,z⟩:=DV.reads ok a r;obtain⟨bs,y⟩:=DVs.reads ok b t;exact⟨_,.cons z y⟩
end
end
section
variable {X:Cx}
inductive qjW (x:V) (y:V) (H:Hp) (Q:VK):Prop
 | mk (d e:_) (h1:DV H x d) (h2:DV H y e) (h3:SeqAt.shaped d=true) (h4:SeqAt.shaped e=true) (h5:Q (.bl (PyData.eqv d e)) H):qjW x y H Q
def qnu:R2:=fun x y H Q=>qjW x y H Q
inductive qjQ (x:V) (y:V) (H:Hp) (Q:VK):Prop
 | mk (d e:_) (h1:DV H x d) (h2:DV H y e) (h3:SeqAt.shaped d=true) (h4:SeqAt.shaped e=true) (h5:Q (.bl (!PyData.eqv d e)) H):qjQ x y H Q
def qnp:R2:=fun x y H Q=>qjQ x y H Q
theorem ql8 (hu:X.A.units+64 < cLine):OpR X (compareOp .Eq) qnu:=by
 intro pins s σ H x y v u Q I rx ry h;obtain⟨d,e,hd,he,sd,se,q⟩:=h;obtain⟨as,ra⟩:=hd.reads I.hok rx;obtain⟨bs,rb⟩:=he.reads I.hok ry;exact eq_dataH ra rb sd se hu ⟨.bl _,H,I,rfl,q⟩
theorem ql7 (hu:X.A.units+64 < cLine):OpR X (compareOp .NotEq) qnp:=by
 intro pins s σ H x y v u Q I rx ry h;obtain⟨d,e,hd,he,sd,se,q⟩:=h;obtain⟨as,ra⟩:=hd.reads I.hok rx;obtain⟨bs,rb⟩:=he.reads I.hok ry;exact ne_dataH ra rb sd se hu ⟨.bl _,H,I,rfl,q⟩
end
def qno (K:Frag):V->Hp->VK->Prop:=fun x H Q=>∃ a xs,x=.ref a∧SqL K H a xs∧∀ p,H p=none->Q (.ref p) (upd H p (.lst xs.reverse))
def qnK (K:Frag) (te:TE) (ts:TO):TE:=fun σ H Q=>te σ H fun x H1=>ts σ H1 fun k H2=>k=some (-1)∧qno K x H2 Q
section
variable {X:Cx}
theorem ql2 {e st:Expr}{te:TE}{ts:TO}{pos p2:Pos} (he:PE X e te) (hst:PO X (some st) ts):PE X (.Subscript e (.Slice none none (some st) p2) pos) (qnK X.K te ts):=by
 intro pins s σ H Q I h;refine Subscript_ (thn (he pins s σ H _ I h) fun v s1 zz_=>?_);obtain⟨x,H1,I1,r1,q1⟩:=zz_;have q1':qeM σ H1 fun o H2=>o=none∧qeM σ H2 fun o2 H3=>o2=none∧ts σ H3 fun k H4=>k=some (-1)∧qno X.K x H4 Q:=⟨rfl,rfl,q1⟩
 refine wpAny_Slice (thn (ZJ pins s1 σ H1 _ I1 q1') fun vl s2 ⟨l,H2,I2,pl,e2,q2⟩=>thn (ZJ pins s2 σ H2 _ I2 q2) fun vu s3 ⟨u,H3,I3,pu,e3,q3⟩=>thn (hst pins s3 σ H3 _ I3 q3) fun vk s4 zz_=>?_);obtain⟨k,H4,I4,pk,e4,q4⟩:=zz_;subst e2 e3 e4;obtain⟨a,xs,rfl,hx,q⟩:=q4;cases r1;have I5:Inv X pins σ H4 { s4 with heap:=s4.heap.push { cls:=.type "slice",data:=.fields #[vl,vu,vk] } }:=I4.kept (t':=s4.toks) fun b ob q=>Heap.get?_push_of_some _ q;obtain⟨its,r,ht,hz⟩:=I5.list hx;have hlen:=r.length;show wpAny (model X.prog X.w) X.A (subscriptTail e (.Slice none none (some st) p2) (.ref a) (.ref s4.heap.objs.size)) (EP X pins σ Q) X.xe { s4 with heap:=s4.heap.push { cls:=.type "slice",data:=.fields #[vl,vu,vk] } };refine tail_any (ops:=[.ref a,.ref s4.heap.objs.size]) (ht.isList.typeIs (s:={ s4 with heap:=s4.heap.push { cls:=.type "slice",data:=.fields #[vl,vu,vk] } })) slot_list_getitem.lookup
   (wpAny_getItem_list_slice ht.isList (Heap.IsSliceOf.new ..) pl pu pk (by decide) ?_ (by rw[List.size_toArray]<;>omega)) (by with_unfolding_all rfl)
 rw[PySem.W.krv_pick];refine⟨.ref _,_,I5.laid (t':=s4.toks) (o:=.lst xs.reverse) (fun b ob q=>Heap.get?_push_of_some _ q) (Nat.le_refl _) ?_,rfl,q _ (I5.hok.fresh (Nat.le_refl _))⟩;exact⟨by rw[List.length_reverse];exact hz,_,0,r.reverse,Heap.get?_push_size _ rfl⟩
def qmZ:R2:=fun x y H Q=>rI0 (fun i j=>.int (i+j)) x y H Q∨qnv x y H Q∨∃ i j,x=.str i∧y=.str j∧i.length+j.length≤sizeLine∧Q (.str (i++j)) H
theorem Qh:OpR X (binaryOp .Add) qmZ:=op_add.or (op_cat.or qgt)
def qmY:R2:=fun x y H Q=>rEq x y H Q∨qnu x y H Q
def qlS:R2:=fun x y H Q=>rNe x y H Q∨qnp x y H Q
theorem uEq (hU:X.A.units+64 < cLine):OpR X (compareOp .Eq) qmY:=op_eq.or (ql8 hU)
theorem uNe (hU:X.A.units+64 < cLine):OpR X (compareOp .NotEq) qlS:=op_ne.or (ql7 hU)
end
theorem qbD:bootBuiltins "tuple"=some (.type "tuple"):=by decide +kernel
theorem zf:bootBuiltins "list"=some (.type "list"):=by decide +kernel
theorem qeA:bootBuiltins "int"=some (.type "int"):=by decide +kernel
theorem Jy:bootBuiltins "bool"=some (.type "bool"):=by decide +kernel
theorem qez:bootBuiltins "str"=some (.type "str"):=by decide +kernel
theorem qcs:bootBuiltins "dict"=some (.type "dict"):=by decide +kernel
theorem qL:bootBuiltins "len"=some (.builtin "len"):=by decide +kernel
theorem ZT:bootBuiltins "max"=some (.builtin "max"):=by decide +kernel
theorem ZS:bootBuiltins "min"=some (.builtin "min"):=by decide +kernel
theorem qv:bootBuiltins "isinstance"=some (.builtin "isinstance"):=by decide +kernel
structure Df (K:Frag) (mg:Str->Option Value) (x:Str) (st:Stmt) (ps:List Str) (f:Addr) (fd:FuncData):Prop where
 F:Fun K x x st f fd
 b:Binds K fd ps []
 m:mg x=some (.ref f)
 k:keepIn K (.ref f)=true
theorem Same.new {H:Hp}{p:Addr} (o:HO) (h:H p=none):Same H (upd H p o):=fun b u e=>by rw[qh (qm e h)];exact e
theorem Same.then {H H1:Hp} (s:Same H H1) {p:Addr} (o:HO) (h:H1 p=none):Same H (upd H1 p o):=s.trans (Same.new o h)
def But (p:Addr) (H H':Hp):Prop:=∀ b o,H b=some o->b≠p->H' b=some o
theorem But.refl (p:Addr) (H:Hp):But p H H:=fun _ _ h _=>h
theorem But.put {p:Addr}{H H1:Hp} (s:But p H H1) (o:HO):But p H (upd H1 p o):=fun b u e n=>by rw[qh n];exact s b u e n
theorem But.same {p:Addr}{H H1 H2:Hp} (a:But p H H1) (b:Same H1 H2):But p H H2:=fun c o h n=>b c o (a c o h n)
theorem qj {n:Nat} (h:n≤1000):n≤sizeLine:=Nat.le_of_lt (qw h)
theorem qG {b:Bool}{A B:Prop} (e:b=false) (h:B):if b=true then A else B:=by rw[e];exact qgR h
theorem QG {b:Bool}{A B:Prop} (e:b=true) (h:A):if b=true then A else B:=by rw[e];exact qgF h
theorem qm2 {b:Bool}{A B:Prop} (h1:b=true->A) (h2:b=false->B):if b=true then A else B:=by
 cases b
 · exact qgR (h2 rfl)
 · exact qgF (h1 rfl)
theorem jE {c A B:Prop} [Decidable c] (h1:c->A) (h2:¬ c->B):if (decide c)=true then A else B:=by
 by_cases h:c
 · rw[decide_eq_true h];exact qgF (h1 h)
 · rw[decide_eq_false h];exact qgR (h2 h)
theorem qjk {c A B:Prop} [Decidable c] (h1:¬ c->A) (h2:c->B):if (!decide c)=true then A else B:=by
 by_cases h:c
 · rw[decide_eq_true h];exact qgR (h2 h)
 · rw[decide_eq_false h];exact qgF (h1 h)
section
variable {prog:Program}{w:World}{A:Around}{R:Result->Shared->Prop}{s:Shared}
abbrev noE:Value->Shared->Prop:=fun _ _=>False
theorem qbC {elt target iter:Expr}{ifs:List Expr}{scope:Scope}{pos:Pos}{it acc:Value}{env:Env} (I:Nat->Shared->Prop)
   (turn:∀ n s,I n s->wpAny (model prog w) A (pyNext it) (fun r s₁=>match r with
     | none=>R (.ok .next) s₁
     | some v=>wpAny (model prog w) A (letOwnedTupleGo target it v) (fun _ s₀=>wpAny (model prog w) A (assign target env v) (fun _ s₂ =>
         wpAny (model prog w) A (forIn ifs true fun c r=>if r=true then do let ok ← isTrue c env (eval c env);pure (ForInStep.yield ok) else pure (ForInStep.yield r)) (fun ok s₃ =>
           if ok=true then wpAny (model prog w) A (eval elt env) (fun x s₄ =>
             wpAny (model prog w) A (call (.builtin "list.append") [acc,x]) (fun _ s₅=>∃ m,m < n∧I m s₅) noE s₄) noE s₃
           else ∃ m,m < n∧I m s₃) noE s₂) noE s₀) noE s₁) noE s)
   (n:Nat) (h:I n s) :
   codeAny (model prog w) A (.compLoop (.ListComp elt [⟨target,iter,ifs,0⟩] scope pos) 0 it acc env) R s:=by
 refine codeAny_loop rfl I (fun n s hI=>?_) n h;show wpAny _ A ((compTurn (.ListComp elt [⟨target,iter,ifs,0⟩] scope pos) 0 it acc env).onRaise (fun x=>do noteFrame x env;theTreesLotGoes x)) _ _ s;refine wpAny_noted ?_;rw[compTurn_list];refine wpAny_bind (wpAny_standAt (wpAny_bind (wpAny_mono (turn n s hI) (fun r s₁ h₁=>?_) fun _ _ h'=>h'.elim)))
 cases r with
 | none=>exact wpAny_pure h₁
 | some v =>
   refine wpAny_bind (wpAny_mono h₁ (fun _ s₀ h₀=>?_) fun _ _ h'=>h'.elim);refine wpAny_bind (wpAny_mono h₀ (fun _ s₂ h₂=>wpAny_bind (wpAny_mono h₂ (fun ok s₃ h₃=>?_) fun _ _ h'=>h'.elim)) fun _ _ h'=>h'.elim)
   cases ok with
   | false=>exact wpAny_pure ⟨rfl,h₃⟩
   | true =>
     exact wpAny_bind (wpAny_bind (wpAny_mono h₃ (fun x s₄ h₄=>wpAny_bind (wpAny_mono h₄ (fun _ s₅ h₅=>wpAny_pure (wpAny_pure ⟨rfl,h₅⟩)) fun _ _ h'=>h'.elim)) fun _ _ h'=>h'.elim))
end
def zu (X:Cx) (scope:Scope) (N:List Str) (cl:List (Str×Addr)) (C:Addr) (s₀:Shared) (H₀:Hp) (ex:List Addr) (pn:List (Addr×Obj)):Cx where
 prog:=X.prog
 w:=X.w
 K:=X.K
 mg:=X.mg
 base:=X.base
 A:=X.A
 N:=N
 s₀:=s₀
 H₀:=H₀
 env:=compEnvC scope cl C X.env
 outer:=X.stack
 stack:=X.stack
 ex:=ex
 fn:=fun x=>!(cl.lookup x).isSome
 calm:=X.calm
 pn:=pn
 xe:=noE
def st0 (js:List (Option Nat)) (σ:St):St:=js.map fun o=>o.bind fun j=>(σ[j]?).join
def PTs (X:Cx) (ifs:List Expr) (t:TT):Prop :=
 ∀ (pins:List (Addr×Obj)) (s:Shared) (σ:St) (H:Hp) (Q:Bool->Hp->Prop),Inv X pins σ H s->t σ H Q ->
   wpAny (model X.prog X.w) X.A (forIn ifs true fun c r=>if r=true then do let ok ← isTrue c X.env (eval c X.env);pure (ForInStep.yield ok) else pure (ForInStep.yield r)) (TP X pins σ Q) X.xe s
def qnH:TT:=fun _ H Q=>Q true H
theorem zQ {X:Cx}:PTs X [] qnH:=fun _ _ _ H _ I h=>wpAny_tests_nil ⟨H,I,h⟩
theorem Js {X:Cx}{c:Expr}{t:TT} (h:PT X c t):PTs X [c] t:=fun pins s σ H Q I q=>wpAny_tests_one (h pins s σ H Q I q)
def Ji (J:It) (g:TG) (tt:TT) (te:TE) (D:Addr) (Q:VK) (σ0:St) (H0:Hp):Prop :=
 ∃ W:Nat->Nat->St->Hp->Prop,(∃ m,W 0 m σ0 H0)∧∀ i m σ' H',W i m σ' H' ->
   (J.stop i H'∧Q (.ref D) H')∨(J.go i H'∧∃ N:St->Hp->Prop,(∀ σ2 H2,N σ2 H2->∃ m',m' < m∧W (i+1) m' σ2 H2) ∧
     ∀ x H2,J.yld i H' x H2->g x σ' H2 fun σ3 H3=>tt σ3 H3 fun ok H4=>if ok=true then te σ3 H4 fun y H5=>∃ ys,H5 D=some (.lst ys)∧ys.length < sizeLine∧N σ3 (upd H5 D (.lst (ys++[y]))) else N σ3 H4)
def qlH (wi:TI) (g:TG) (tt:TT) (te:TE) (js:List (Option Nat)):TE:=fun σ H Q=>wi σ H fun J H1=>∀ D,H1 D=none->Ji J g tt te D Q (st0 js σ) (upd H1 D (.lst []))
structure CompOk (X:Cx) (scope:Scope) (N:List Str) (cl:List (Str×Addr)) (js:List (Option Nat)):Prop where
 clos:closureFor scope X.env=pure cl
 sub:∀ x c,cl.lookup x=some c->X.env.cells.lookup x=some c
 all:∀ x,((relabel scope X.env).names.lookup x=some .cell∨(relabel scope X.env).names.lookup x=some .free)->∃ c,cl.lookup x=some c
 cell:∀ y∈scope.names,y.2≠.cell
 kind:scope.kind=.function
 names:∀ y∈scope.names,y.2=.local->scope.names.lookup y.1=some .local
 len:js.length=N.length
 fr:∀ (i j:Nat) (x:Str),js[i]?=some (some j)->N[i]?=some x->X.N[j]?=some x∧X.env.kindOf x=some .cell∧((relabel scope X.env).names.lookup x=some .cell∨(relabel scope X.env).names.lookup x=some .free)
section
variable {X:Cx}
theorem qku {js:List (Option Nat)}{σ:St}{i:Nat}{v:V} (h:(st0 js σ)[i]?=some (some v)):∃ j,js[i]?=some (some j)∧σ[j]?=some (some v):=by
 unfold st0 at h;rw[List.getElem?_map]at h
 cases e:js[i]? with
 | none=>rw[e]at h;cases h
 | some o =>
   rw[e]at h
   cases o with
   | none=>cases h
   | some j =>
     refine⟨j,rfl,?_⟩;have h':(σ[j]?).join=some v:=by simpa using h
     cases e2:σ[j]? with
     | none=>rw[e2]at h';cases h'
     | some o2=>rw[e2]at h';cases o2 with
       | none=>cases h'
       | some u=>rw[show u=v by simpa using h']
theorem qlh {pins:List (Addr×Obj)}{σ:St}{H:Hp}{s:Shared}{scope:Scope}{N:List Str}{cl:List (Str×Addr)}{js:List (Option Nat)}{C:Addr}{fp:List Addr} (k:CompOk X scope N cl js) (I:Inv X pins σ H s)
   (hf:∀ b∈fp,qgQ X pins H b) (hfl:∀ b∈fp,b < s.heap.objs.size) (hC:s.heap.objs.size≤C):(zu X scope N cl C s H fp (X.pn++pins)).Ok where
 mod:=I.ok.mod
 kind:=k.kind
 glob:=I.ok.glob
 blt:=I.ok.blt
 above:=hC
 inj:=fun x y c h1 h2=>I.ok.inj x y c (k.sub _ _ h1) (k.sub _ _ h2)
 has:=fun x h=>k.all x h
 cab:=fun x c h1 h2=>by
   have h1':(!(cl.lookup x).isSome)=true:=h1;have h2':cl.lookup x=some c:=h2;rw[h2']at h1';cases h1'
 hd:=I.ok.hd
 frames:=I.ok.frames
 stk:=.inl rfl
 exf:=fun b hb=>⟨Nat.ne_of_lt (Nat.lt_of_lt_of_le (hfl b hb) hC),fun x c h=>(hf b hb).2.2.2.2.1 x c (k.sub _ _ h)⟩
 bs:=I.bs
 bsz:=Nat.le_trans I.ok.bsz I.sz
 noex:=fun b o e hb=>by
   rcases (hf b hb).2.2.2.1 with z|z
   · exact I.ok.noex b o e z
   · exact absurd (Nat.lt_of_lt_of_le (Heap.lt_size e) (Nat.le_trans I.ok.bsz z)) (Nat.lt_irrefl _)
 exfs:=fun b hb z=>by
   rcases List.mem_cons.mp (I.stkSub b z) with e|e
   · exact(hf b hb).2.1 e
   · exact(hf b hb).2.2.1 e
 funs:=I.stack
 frf:=I.stkFree
theorem qge {pins:List (Addr×Obj)}{σ:St}{H:Hp}{s:Shared}{h1:Heap}{t':Nat}{scope:Scope}{N:List Str}{cl:List (Str×Addr)}{js:List (Option Nat)}{C D:Addr}{fp:List Addr}{m:Str->Option Value} (k:CompOk X scope N cl js) (I:Inv X pins σ H s)
   (hf:∀ b∈fp,qgQ X pins H b) (hfl:∀ b∈fp,b < s.heap.objs.size) (hD:s.heap.objs.size≤D) (hC:s.heap.objs.size≤C) (hDC:D≠C)
   (hn:h1.Ns C m) (hl:h1.get? D=some { cls:=.type "list",data:=.seq ([]:List Value).toArray }) (hk:∀ b o,s.heap.get? b=some o->h1.get? b=some o) :
   Inv (zu X scope N cl C s H fp (X.pn++pins)) [] (st0 js σ) (upd H D (.lst [])) { s with heap:=h1,toks:=t' }:=by
 have fD:H D=none:=I.hok.fresh hD;have fC:H C=none:=I.hok.fresh hC;have nC:∀ b,b < s.heap.objs.size->b≠C:=fun b hb=>Nat.ne_of_lt (Nat.lt_of_lt_of_le hb hC);refine⟨qlh k I hf hfl hC,rfl,I.bare,?_,?_,?_,?_,?_,?_,?_,?_⟩
 · exact(Un.laid (fs:=frs X.stack) (ex:=fp) (o:=.lst []) hk hD fD)
 · refine⟨m,hn,fun i x v e1 e2 e3=>?_⟩;obtain⟨j,f1,f2⟩:=qku e2;obtain⟨g1,g2,g3⟩:=k.fr i j x f1 e1;obtain⟨m',hn',hl'⟩:=I.loc;obtain⟨u,ru,lk⟩:=hl' j x v g1 f2 (.inr (.inl g2));refine⟨u,ru,.inr ⟨g3,?_⟩⟩;obtain⟨c,hc⟩:=k.all x g3;rcases lk with ⟨z,_⟩|⟨_,c',hc',ic⟩
   · rw[g2]at z;cases z
   · have e:=k.sub _ _ hc;rw[hc']at e;cases e;obtain⟨o,ho,hd⟩:=ic;exact⟨c,hc,o,hk _ _ ho,hd⟩
 · intro x c h;obtain⟨v,o,ho,hd⟩:=I.cell x c (k.sub _ _ h);exact⟨v,o,hk _ _ ho,hd⟩
 · show (upd H D (.lst [])) C=none;rw[qh hDC.symm];exact fC
 · intro x c h;obtain⟨v,o,ho,hd⟩:=I.cell x c (k.sub _ _ h);rw[qh (Nat.ne_of_lt (Nat.lt_of_lt_of_le (Heap.lt_size ho) hD))];exact I.freeC x c (k.sub _ _ h)
 · intro p hp;have hp':p∈X.pn++pins:=by simpa[zu] using hp
   obtain⟨e,n,ne,nf,d⟩:=I.pin p hp';have lt:=Heap.lt_size e;refine⟨hk _ _ e,by rw[qh (Nat.ne_of_lt (Nat.lt_of_lt_of_le lt hD))];exact n,nC _ lt,fun z=>?_,d⟩;rcases List.mem_cons.mp (I.stkSub _ z) with e|e
   · exact ne e
   · exact nf e
 · exact I.hok.laid hk hD ⟨Nat.zero_le _,[],0,.nil,hl⟩
 · show (st0 js σ).length=N.length;unfold st0;rw[List.length_map];exact k.len
theorem zH {elt iter tg:Expr}{ifs:List Expr}{scope:Scope}{pos:Pos}{wi:TI}{g:TG}{tt:TT}{te:TE}{N:List Str}{cl:List (Str×Addr)}{js:List (Option Nat)} (hc:X.calm=true) (k:CompOk X scope N cl js) (hi:PI X tg iter wi)
   (hg:∀ C s₀ H₀ ex pn,PG (zu X scope N cl C s₀ H₀ ex pn) tg g) (ht:∀ C s₀ H₀ ex pn,PTs (zu X scope N cl C s₀ H₀ ex pn) ifs tt) (he:∀ C s₀ H₀ ex pn,PE (zu X scope N cl C s₀ H₀ ex pn) elt te)
   (hs:∀ x,foldedSetIterable iter X.env x=pure x:=by intro _;rfl) :
   PE X (.ListComp elt [⟨tg,iter,ifs,0⟩] scope pos) (qlH wi g tt te js):=by
 intro pins s σ H Q I h;rw[eval_ListComp];refine wpAny_comprehension_free (use:=none) rfl hs k.clos k.kind k.names ?_;refine thn (hi pins s σ H _ I h) fun v s1 h1=>thn h1 fun itv s2 h2=>?_;obtain⟨it,fp,tn,J,H2,e,I2,T,st2,f2,hD⟩:=h2;subst e;refine wpAny_newObj_type (wpAny_newFunctionEnv k.cell (by intro y hy;simp at hy) (fun h₁ hns₁ hsb₁=>?_) k.kind);dsimp only at hns₁ hsb₁ ⊢;generalize hH2:s2.heap.push { cls:=.type "list",dict:=none,data:=.seq ([]:List Value).toArray }=P2 at hns₁ hsb₁ ⊢;have hC:P2.objs.size=s2.heap.objs.size+1:=by rw[← hH2,Heap.size_push]
 have hDC:s2.heap.objs.size≠P2.objs.size:=by rw[hC];exact Nat.ne_of_lt (Nat.lt_succ_self _)
 have hCle:s2.heap.objs.size≤P2.objs.size:=by rw[hC];exact Nat.le_succ _
 have old:∀ b o,s2.heap.get? b=some o->h₁.get? b=some o:=fun b o e=>hsb₁.extBut b o (Nat.ne_of_lt (Nat.lt_of_lt_of_le (Heap.lt_size e) hCle)) (Heap.get?_push_of_some _ (hH2▸Heap.get?_push_of_some _ e));have hacc:h₁.get? s2.heap.objs.size=some { cls:=.type "list",data:=.seq ([]:List Value).toArray }:=hsb₁.extBut _ _ hDC (Heap.get?_push_of_some _ (hH2▸Heap.get?_push_size _ rfl))
 have hfl:∀ b∈fp,b < s2.heap.objs.size:=fun b hb=>by
   obtain⟨o,e,_⟩:=T.obj _ _ st2 b hb;exact Heap.lt_size e
 have fD:H2 s2.heap.objs.size=none:=I2.hok.fresh (Nat.le_refl _);obtain⟨W,⟨m0,w0⟩,turn⟩:=hD _ fD
 have IX:Inv (zu X scope N cl P2.objs.size s2 H2 fp (X.pn++pins)) [] (st0 js σ) (upd H2 s2.heap.objs.size (.lst [])) { s2 with heap:=h₁,toks:=s2.toks+([]:List (Str×Value)).length } :=
   qge k I2 f2 hfl (Nat.le_refl _) hCle hDC hns₁ hacc old
 have hg':=hg P2.objs.size s2 H2 fp (X.pn++pins);have ht':=ht P2.objs.size s2 H2 fp (X.pn++pins);have he':=he P2.objs.size s2 H2 fp (X.pn++pins)
 have stat:∀ {H':Hp},(∀ b∈fp,H' b=none)->∀ b∈fp,qgQ (zu X scope N cl P2.objs.size s2 H2 fp (X.pn++pins)) [] H' b:=fun hn b hb=>by
   obtain⟨g0,g1,g2,g3,g4,g5⟩:=f2 b hb;refine⟨hn b hb,Nat.ne_of_lt (Nat.lt_of_lt_of_le (hfl b hb) hCle),fun z=>?_,.inl hb,fun x c h=>g4 x c (k.sub _ _ h),fun p hp=>g5 p (by simpa[zu] using hp)⟩;rcases List.mem_cons.mp (I2.stkSub b z) with e|e
   · exact g1 e
   · exact g2 e
 have loop:∀ s₃:Shared,s₃={ s2 with heap:=h₁,toks:=s2.toks+([]:List (Str×Value)).length } ->
     codeAny (model X.prog X.w) X.A (.compLoop (.ListComp elt [⟨tg,iter,ifs,0⟩] scope pos) 0 (.ref it) (.ref s2.heap.objs.size) (compEnvC scope cl P2.objs.size X.env))
       (compPost (model X.prog X.w) X.A X.xe none (EP X pins σ Q) (.ref s2.heap.objs.size) P2.objs.size) s₃:=by
   rintro s₃ rfl;refine qbC (fun n s'=>∃ i σ' H',Inv (zu X scope N cl P2.objs.size s2 H2 fp (X.pn++pins)) [] σ' H' s'∧tn i s'.heap∧(∀ b∈fp,H' b=none)∧W i n σ' H') ?_ m0
     ⟨0,st0 js σ,_,IX,T.keep _ _ _ st2 (fun b hb o e=>old b o e),fun b hb=>by rw[qh (Nat.ne_of_lt (hfl b hb))];exact(f2 b hb).1,w0⟩
   rintro n s3 ⟨i,σ3,H3,I3,st3,fr3,w3⟩;rcases turn i n σ3 H3 w3 with ⟨stop,qn⟩|⟨go,N2,hN,step⟩
   · refine thn (T.done (zu X scope N cl P2.objs.size s2 H2 fp (X.pn++pins)) rfl rfl rfl hc i [] s3 σ3 H3 noE I3 (stat fr3) st3 stop) fun r s4 ⟨hr,I4⟩=>?_;subst hr;obtain⟨m4,hn4,_⟩:=id I4.loc;refine⟨m4,hn4,fun h' hsb=>⟨.ref s2.heap.objs.size,H3,?_,rfl,qn⟩⟩;have u4:Un (frs X.stack) fp H2 H3 s2.heap s4.heap:=I4.base;have ltC:∀ b o,s2.heap.get? b=some o->b≠P2.objs.size:=fun b o e=>Nat.ne_of_lt (Nat.lt_of_lt_of_le (Heap.lt_size e) hCle)
     have u5:Un (frs X.stack) fp H2 H3 s2.heap h' :=
       { keep:=fun b o e n hb hx=>hsb.extBut b o (ltC b o e) (u4.keep b o e n hb hx)
         slot:=fun b o e n hb hx=>by
           obtain⟨sl,q⟩:=u4.slot b o e n hb hx;exact⟨sl,hsb.extBut b _ (ltC b o e) q⟩
         free:=u4.free
         there:=fun b o e hx=>by
           obtain⟨o',q⟩:=u4.there b o e hx;exact⟨o',hsb.extBut b _ (ltC b o e) q⟩
         tups:=u4.tups
         frzs:=u4.frzs
         tbls:=u4.tbls }
     have fC:H3 P2.objs.size=none:=I4.free
     have hok5:HOk X.prog X.w H3 h':=fun b u e=>(I4.hok b u e).stay (fun c v hc' q=>hsb.extBut c v (fun z=>by
       rcases hc' with y|y
       · rw[y]at z;rw[z,fC]at e;cases e
       · rw[z,fC]at y;cases y) q) (fun _ q=>q) fun _ _ q=>q
     exact I2.call' (s':={ s4 with heap:=h' }) I4.os u5 hok5 I4.bare fun b hb=>by
       obtain⟨g0,g1,g2,g3,g4,g5⟩:=f2 b hb;exact⟨g3,g1,g4,g5⟩
   · refine thn (T.item (zu X scope N cl P2.objs.size s2 H2 fp (X.pn++pins)) rfl rfl rfl hc i [] s3 σ3 H3 noE I3 (stat fr3) st3 go) fun r s4 ⟨u,hr,h4⟩=>?_;subst hr;refine thn h4 fun _ s5 zz_=>?_;obtain⟨x,H5,I5,r5,y5,st5,fr5⟩:=zz_;have I5':=I5.pinned (stat fr5) (T.obj _ _ st5);refine thn (hg' _ s5 σ3 H5 x u _ I5' r5 (step x H5 y5)) fun _ s6 zz_=>?_;obtain⟨σ6,H6,I6,q6⟩:=zz_;refine thn (ht' _ s6 σ6 H6 _ I6 q6) fun ok s7 zz_=>?_;obtain⟨H7,I7,q7⟩:=zz_;have again:∀ {s8:Shared}{σ8:St}{H8:Hp},Inv (zu X scope N cl P2.objs.size s2 H2 fp (X.pn++pins)) ([]++qcg fp s5.heap) σ8 H8 s8->N2 σ8 H8 ->
         ∃ m,m < n∧∃ i σ' H',Inv (zu X scope N cl P2.objs.size s2 H2 fp (X.pn++pins)) [] σ' H' s8∧tn i s8.heap∧(∀ b∈fp,H' b=none)∧W i m σ' H':=fun {s8 σ8 H8} I8 n8=>by
       obtain⟨m',hm,w8⟩:=hN σ8 H8 n8;refine⟨m',hm,i+1,σ8,H8,I8.unpinned,T.keep _ _ _ st5 fun b hb o e=>(I8.pin (b,o) (List.mem_append_right _ (List.mem_append_right _ (zY hb e)))).1,fun b hb=>?_,w8⟩;obtain⟨o,e,d⟩:=T.obj _ _ st5 b hb;exact(I8.pin (b,o) (List.mem_append_right _ (List.mem_append_right _ (zY hb e)))).2.1
     cases ok with
     | false=>exact again I7 (by simpa using q7)
     | true =>
       have q7':te σ6 H7 fun y H5=>∃ ys,H5 s2.heap.objs.size=some (.lst ys)∧ys.length < sizeLine∧N2 σ6 (upd H5 s2.heap.objs.size (.lst (ys++[y]))):=by simpa using q7
       refine thn (he' _ s7 σ6 H7 _ I7 q7') fun xv s8 zz_=>?_;obtain⟨y,H8,I8,r8,ys,hy,hlen,n8⟩:=zz_;refine thn (zg (X:=zu X scope N cl P2.objs.size s2 H2 fp (X.pn++pins)) _ s8 σ6 H8 (.ref s2.heap.objs.size) [y] (.ref s2.heap.objs.size) [xv] (fun _ H9=>N2 σ6 H9) I8 rfl (.cons r8 .nil) ⟨_,ys,y,rfl,rfl,hy,hlen,n8⟩) fun _ s9 ⟨_,H9,I9,_,n9⟩=>again I9 n9
 exact codeAny_compStart_list (loop _ rfl) (T.self _ 0 _ _ _ (T.keep _ _ _ st2 (fun b hb o e=>old b o e)) (loop _ rfl))
end
def Its (x:Str):It:=⟨fun i _=>i < x.cps.size,fun i H v H'=>H'=H∧∃ c,x.cps[i]?=some c∧v=.str ⟨#[c]⟩,fun i _=>x.cps.size≤i⟩
theorem qka {M:Model}{A:Around}{E:Value->Shared->Prop}{s:Shared}{tg:Expr}{it:Addr}{y:Str}{t:Tok}{Q:Unit->Shared->Prop} (hQ:Q () s):wpAny M A (letOwnedTupleGo tg (.ref it) (.str y t)) Q E s:=by
 unfold letOwnedTupleGo;cases tg<;>exact wpAny_pure hQ
theorem qiO {P:Program}{w:World}{K:Frag}{tg:Expr} (it:Addr) (x:Str) (t:Tok) (ty:String) (hty:ty="str_ascii_iterator"∨ty="str_iterator") :
   qlo P w K tg (Its x) [it] it (fun i h=>h.IsStrIter it ty x t i) where
 mem:=by simp
 obj:=fun i h st b hb=>by
   have e:b=it:=by simpa using hb
   subst e;obtain⟨o,e,c,d⟩:=st;exact⟨o,e,fun v z=>by rw[d]at z;cases z⟩
 keep:=fun i h h' st k=>by
   obtain⟨o,e,r⟩:=st;exact⟨o,k it (by simp) o e,r⟩
 item:=by
   intro X hP hw hK hc i pins s σ H E I hf st hg;subst hP hw hK;obtain⟨f0,f1,f2,f3,f4,f5⟩:=hf it (by simp);have hi:i < x.cps.size:=hg;rcases hty with rfl|rfl
   · refine wpAny_pyNext_ascii_item st (c:=x.cps[i]) (by simp[hi]) fun h' st' sb=>?_;have I1:Inv X pins σ H { s with heap:=h',toks:=s.toks+1 }:=I.turned (fun b o hb e=>sb.extBut b o hb e) f0 f1 f3 f4 f5;exact⟨_,rfl,qka (s:={ s with heap:=h',toks:=s.toks+1 }) ⟨.str ⟨#[x.cps[i]]⟩,H,I1,⟨_,rfl⟩,⟨rfl,x.cps[i],by simp[hi],rfl⟩,st',fun b hb=>(hf b hb).1⟩⟩
   · refine wpAny_pyNext_wide_item st (c:=x.cps[i]) (by simp[hi]) fun h' st' sb=>?_;have I1:Inv X pins σ H { s with heap:=h',toks:=s.toks+1 }:=I.turned (fun b o hb e=>sb.extBut b o hb e) f0 f1 f3 f4 f5;exact⟨_,rfl,qka (s:={ s with heap:=h',toks:=s.toks+1 }) ⟨.str ⟨#[x.cps[i]]⟩,H,I1,⟨_,rfl⟩,⟨rfl,x.cps[i],by simp[hi],rfl⟩,st',fun b hb=>(hf b hb).1⟩⟩
 done:=by
   intro X hP hw hK hc i pins s σ H E I hf st hg;subst hP hw hK;obtain⟨f0,f1,f2,f3,f4,f5⟩:=hf it (by simp);have hi:x.cps.size≤i:=hg;rcases hty with rfl|rfl
   · exact wpAny_pyNext_ascii_end (I.ok.hd hc) st (by simp[hi]) fun h' eb=>⟨rfl,I.turned (t':=s.toks) (fun b o hb e=>eb b o hb e) f0 f1 f3 f4 f5⟩
   · exact wpAny_pyNext_wide_end (I.ok.hd hc) st (by simp[hi]) fun h' eb=>⟨rfl,I.turned (t':=s.toks) (fun b o hb e=>eb b o hb e) f0 f1 f3 f4 f5⟩
 self:=fun _ _ _ _ _ st h=>by
   rcases hty with rfl|rfl
   · exact wpAny_pyIter_striter_ascii st h
   · exact wpAny_pyIter_striter_wide st h
def qnZ (te:TE):TI:=fun σ H R=>te σ H fun x H1=>∃ z,x=.str z∧R (Its z) H1
section
variable {X:Cx}{tg:Expr}
theorem ql0 {e:Expr}{te:TE} (he:PE X e te):PI X tg e (qnZ te):=by
 intro pins s σ H R I h;refine thn (he pins s σ H _ I h) fun v s1 zz_=>?_;obtain⟨x,H1,I1,r1,q1⟩:=zz_;obtain⟨z,e,q⟩:=q1;subst e;obtain⟨t,rfl⟩:=r1
 have fin:∀ ty,(ty="str_ascii_iterator"∨ty="str_iterator")->PIE X pins σ tg R (.ref s1.heap.objs.size) { s1 with heap:=s1.heap.push { cls:=.type ty,data:=.fields #[.str z t,.int 0 0] } }:=fun ty hty=>by
   refine⟨s1.heap.objs.size,[s1.heap.objs.size],_,_,H1,rfl,I1.kept (t':=s1.toks) fun b o e=>Heap.get?_push_of_some _ e,qiO _ z t ty hty,⟨_,Heap.get?_push_size _ rfl,rfl,rfl⟩,fun b hb=>?_,q⟩;have e:b=s1.heap.objs.size:=by simpa using hb
   subst e;exact I1.fpOk (Nat.le_refl _) (I1.hok.fresh (Nat.le_refl _))
 cases ha:z.cps.all (· < 128)
 · exact wpAny_pyIter_wide ha (fin _ (.inr rfl))
 · exact wpAny_pyIter_ascii ha (fin _ (.inl rfl))
end
theorem qjD {x:Str}{g:TG}{tt:TT}{te:TE}{D:Addr}{Q:VK}{σ:St}{H:Hp} (Pv:Nat->St->Hp->Prop) (h0:Pv 0 σ H)
   (hs:∀ i c σ H,x.cps[i]?=some c->Pv i σ H->g (.str ⟨#[c]⟩) σ H fun σ3 H3=>tt σ3 H3 fun ok H4=>if ok=true then te σ3 H4 fun y H5=>∃ ys,H5 D=some (.lst ys)∧ys.length < sizeLine∧Pv (i+1) σ3 (upd H5 D (.lst (ys++[y]))) else Pv (i+1) σ3 H4)
   (hd:∀ σ H,Pv x.cps.size σ H->Q (.ref D) H) :
   Ji (Its x) g tt te D Q σ H:=by
 refine⟨fun i m σ H=>m=x.cps.size - i∧i≤x.cps.size∧Pv i σ H,⟨x.cps.size,by simp,Nat.zero_le _,h0⟩,?_⟩;rintro i m σ H ⟨rfl,hi,p⟩;by_cases hlt:i < x.cps.size
 · refine .inr ⟨hlt,Pv (i+1),fun σ' H' p'=>⟨x.cps.size - (i+1),by omega,rfl,hlt,p'⟩,fun v H' y=>?_⟩;obtain⟨rfl,c,hc,rfl⟩:=y;exact hs i c σ _ hc p
 · have e:i=x.cps.size:=by omega
   subst e;exact .inl ⟨Nat.le_refl _,hd σ H p⟩
theorem Jx {lo:Int}{n:Nat}{g:TG}{tt:TT}{te:TE}{D:Addr}{Q:VK}{σ:St}{H:Hp} (Pv:Nat->St->Hp->Prop) (h0:Pv 0 σ H)
   (hs:∀ i σ H,i < n->Pv i σ H->g (.int (lo+i)) σ H fun σ3 H3=>tt σ3 H3 fun ok H4=>if ok=true then te σ3 H4 fun y H5=>∃ ys,H5 D=some (.lst ys)∧ys.length < sizeLine∧Pv (i+1) σ3 (upd H5 D (.lst (ys++[y]))) else Pv (i+1) σ3 H4)
   (hd:∀ σ H,Pv n σ H->Q (.ref D) H) :
   Ji (Itr lo n) g tt te D Q σ H:=by
 refine⟨fun i m σ H=>m=n - i∧i≤n∧Pv i σ H,⟨n,by simp,Nat.zero_le _,h0⟩,?_⟩;rintro i m σ H ⟨rfl,hi,p⟩;by_cases hlt:i < n
 · refine .inr ⟨hlt,Pv (i+1),fun σ' H' p'=>⟨n - (i+1),by omega,rfl,hlt,p'⟩,fun v H' y=>?_⟩;obtain⟨rfl,rfl⟩:=y;exact hs i σ _ hlt p
 · have e:i=n:=by omega
   subst e;exact .inl ⟨Nat.le_refl _,hd σ H p⟩
theorem zh {K:Frag}{a:Addr}{xs:List V}{g:TG}{tt:TT}{te:TE}{D:Addr}{Q:VK}{σ:St}{H:Hp} (Pv:Nat->St->Hp->Prop) (h0:Pv 0 σ H) (hl:∀ i σ H,i≤xs.length->Pv i σ H->SqL K H a xs)
   (hs:∀ i x σ H,xs[i]?=some x->Pv i σ H->g x σ H fun σ3 H3=>tt σ3 H3 fun ok H4=>if ok=true then te σ3 H4 fun y H5=>∃ ys,H5 D=some (.lst ys)∧ys.length < sizeLine∧Pv (i+1) σ3 (upd H5 D (.lst (ys++[y]))) else Pv (i+1) σ3 H4)
   (hd:∀ σ H,Pv xs.length σ H->Q (.ref D) H) :
   Ji (Itl K a) g tt te D Q σ H:=by
 refine⟨fun i m σ H=>m=xs.length - i∧i≤xs.length∧Pv i σ H,⟨xs.length,by simp,Nat.zero_le _,h0⟩,?_⟩;rintro i m σ H ⟨rfl,hi,p⟩;have q:=hl i σ H hi p;by_cases hlt:i < xs.length
 · refine .inr ⟨⟨xs,xs[i],q,by simp[hlt]⟩,Pv (i+1),fun σ' H' p'=>⟨xs.length - (i+1),by omega,rfl,hlt,p'⟩,fun v H' y=>?_⟩;obtain⟨e,y⟩:=y;subst e;exact hs i v σ _ (y xs q) p
 · have e:i=xs.length:=by omega
   subst e;exact .inl ⟨⟨xs,q,Nat.le_refl _⟩,hd σ H p⟩
theorem qiz:∀ {bs:List Bool}{us:List Value},Vals (bs.map V.bl) us->us=bs.map Value.bool
 | [],_,r=>by cases r;rfl
 | b::bs,_,r=>by
   cases r with
   | cons r t =>
     cases r;rw[qiz t];rfl
section
variable {X:Cx}
def qnV (K:Frag):List V->Hp->VK->Prop:=fun xs H Q=>∃ (p:Addr) (bs:List Bool),xs=[.ref p]∧SqL K H p (bs.map V.bl)∧Q (.bl (bs.all id)) H
theorem qeF {α:Type} (f:α->Bool) (d:α):∀ l:List α,(List.range l.length).all (fun i=>f (l.getD i d))=l.all f
 | []=>rfl
 | a::l=>by
   rw[List.length_cons,List.range_succ_eq_map,List.all_cons,List.all_map,List.all_cons,← qeF f d l];rfl
theorem qit (hc:X.calm=true):Zk X (.builtin "all") (qnV X.K):=by
 intro pins s σ H xs us Q I r h;obtain⟨p,bs,rfl,hq,q⟩:=h;obtain⟨u,rfl,ru⟩:=Jm r;cases ru;obtain⟨its,rv,pl,hz⟩:=I.list hq;have eits:=qiz rv;subst eits;have hlt:p < s.heap.objs.size:=by obtain⟨_,_,e,_⟩:=pl;exact Heap.lt_size e
 refine call_all_walk (wpAny_pyIter_list pl.isList ?_);have W:=Walks.list (prog:=X.prog) (w:=X.w) (A:=X.A.in1) (I.ok.hd hc) s.heap.objs.size p (Nat.ne_of_lt hlt) (bs.map Value.bool).toArray;refine⟨_,_,_,_,_,_,(fun i=>(bs.getD i true)),rfl,W,⟨⟨_,Heap.get?_push_size _ rfl,rfl,rfl⟩,pl.isList.push _⟩,?_,?_⟩
 · intro i v s' Q' E' hP hQ;have hv:(bs.map Value.bool)[i]?=some v:=by simpa using hP
   rw[List.getElem?_map]at hv
   cases e:bs[i]? with
   | none=>rw[e]at hv;cases hv
   | some b =>
     rw[e]at hv;cases hv;have e2:bs.getD i true=b:=by rw[List.getD_eq_getElem?_getD,e];rfl
     have hQ:Q' (bs.getD i true) s':=hQ;rw[e2]at hQ;exact wpAny_truthy_bool hQ
 · intro h' tk hk;have es:(bs.map Value.bool).toArray.size=bs.length:=by simp
   have ea:(List.range (bs.map Value.bool).toArray.size).all (fun i=>bs.getD i true)=bs.all id:=by rw[es];exact qeF id true bs
   refine⟨.bl _,H,?_,by rw[ea];rfl,q⟩;exact I.kept (t':=tk) fun b o e=>hk b o (by simp;exact Nat.ne_of_lt (Heap.lt_size e)) (Heap.get?_push_of_some _ e)
end
theorem qiy:bootBuiltins "all"=some (.builtin "all"):=by decide +kernel
section
variable {X:Cx}
def qnm:V->Option Int->Option Int->Hp->VK->Prop:=fun x lo hi H Q=>∃ z,x=.str z∧z.length≤sizeLine∧Q (.str (Txt.slice z lo hi)) H
theorem qlK:SlR X qnm:=by
 intro pins s σ H x v vl vu lo hi sl Q I rx hs pl pu h;obtain⟨z,rfl,hz,q⟩:=h;obtain⟨t,rfl⟩:=rx;refine⟨"str",_,F.slot_str_getitem.lookup,typeIs_str _ _ _,?_⟩;have fin:∀ t' k,EP X pins σ Q (.str (Txt.slice z lo hi) t') { s with toks:=k }:=fun t' k=>⟨.str _,H,I.tok k,⟨_,rfl⟩,q⟩
 obtain⟨o,e1,e2,e3⟩:=hs
 cases pl with
 | none =>
   cases pu with
   | none=>exact wpAny_getItem_str_slice (l:=none) (u:=none) (st:=none) ⟨o,e1,e2,e3⟩ rfl (post_val_or_str ⟨Nat.le_trans (Txt.slice_le z _ _) hz,fin⟩)
   | int j u=>exact wpAny_getItem_str_slice (l:=none) (u:=some (j,u)) (st:=none) ⟨o,e1,e2,e3⟩ rfl (post_val_or_str ⟨Nat.le_trans (Txt.slice_le z _ _) hz,fin⟩)
 | int i ui =>
   cases pu with
   | none=>exact wpAny_getItem_str_slice (l:=some (i,ui)) (u:=none) (st:=none) ⟨o,e1,e2,e3⟩ rfl (post_val_or_str ⟨Nat.le_trans (Txt.slice_le z _ _) hz,fin⟩)
   | int j u=>exact wpAny_getItem_str_slice (l:=some (i,ui)) (u:=some (j,u)) (st:=none) ⟨o,e1,e2,e3⟩ rfl (post_val_or_str ⟨Nat.le_trans (Txt.slice_le z _ _) hz,fin⟩)
theorem uSl:SlR X (fun x lo hi H Q=>qnn X.K x lo hi H Q∨qnm x lo hi H Q):=sl_list.or qlK
theorem qd3:OpR X (compareOp .LtE) (fun x y H Q=>∃ i j,x=.str i∧y=.str j∧Q (.bl (!decide (j.cps.toList < i.cps.toList))) H):=by
 intro pins s σ H x y v u Q I rx ry h;obtain⟨i,j,rfl,rfl,q⟩:=h;obtain⟨t,rfl⟩:=rx;obtain⟨t',rfl⟩:=ry;exact P.le_str ⟨.bl _,H,I,rfl,q⟩
def qlI (Ok:Addr->Sp->Prop) (tv:TE) (t:TA):TE:=fun σ H Q=>tv σ H fun fv H1=>∃ f sp,fv=.ref f∧Ok f sp∧t σ H1 fun vs H2=>sp (vs++[]) H2 Q E0
theorem qi8 {x:Str}{p pos:Pos}{e:Expr}{es:List Expr}{t:TA}{tv:TE}{k:Nat}{Ok:Addr->Sp->Prop} (hv:PE X (.Name x p) tv) (hr:Room k X.A)
   (hO:∀ f sp,Ok f sp->∃ fd ps,qy X.prog X.w X.K X.mg X.base CX0 k f fd ps sp∧keepIn X.K (.ref f)=true∧Binds X.K fd ps [])
   (ha:PA X (e::es) t) (he:starEach (e::es) X.env=(false,eval e X.env)::starEach es X.env:=by rfl) (hpl:(backTo pos (starEach es X.env)).any (·.1)=false:=by rfl) :
   PE X (.Call (.Name x p) (e::es) [] pos) (qlI Ok tv t):=by
 intro pins s σ H Q I h;refine wpAny_Call_Name_kw (thn (hv pins s σ H _ I h) fun v s1 zz_=>?_);obtain⟨fv,H1,I1,r1,q1⟩:=zz_;obtain⟨f,sp,rfl,ok,q⟩:=q1;cases r1;obtain⟨fd,ps,F,hk,hb⟩:=hO f sp ok;refine PySem.W.callWith_K (h₀:=X.base) I1.ok.mod.kin hk (thn (ha pos pins s1 σ H1 _ I1 q) fun us s2 ⟨vs,H2,I2,r2,q2⟩=>⟨I2.kIn,?_⟩) he hpl;exact qdU F hr hb .nil qo I2 r2 q2
end
def Jj (cells:List (Str×Addr)):List (Str×NameKind)->List (Str×Addr)->List (Str×Addr)
 | [],acc=>acc
 | (n,k)::r,acc=>Jj cells r (if k == .free then (n,(cells.lookup n).getD 0)::acc else acc)
def qkf (env:Env) (x:Str×NameKind) (cs:List (Str×Addr)):Sem (ForInStep (List (Str×Addr))):=match x with
 | (name,kind)=>if (kind == NameKind.free)=true then (do let a ← cellOf env name;pure (ForInStep.yield ((name,a)::cs))) else pure (ForInStep.yield cs)
theorem qio {env:Env}{n:Str}{k:NameKind}{acc:List (Str×Addr)} (h:k=.free->∃ c,env.cells.lookup n=some c) :
   qkf env (n,k) acc=pure (ForInStep.yield (if k == .free then (n,(env.cells.lookup n).getD 0)::acc else acc)):=by
 by_cases hk:k=.free
 · subst hk;obtain⟨c,hc⟩:=h rfl;show (do let a ← cellOf env n;pure (ForInStep.yield ((n,a)::acc)))=(pure (ForInStep.yield ((n,(env.cells.lookup n).getD 0)::acc)):Sem _);unfold cellOf;rw[hc];rfl
 · cases k<;>first|exact absurd rfl hk|rfl
theorem qcq {env:Env}:∀ (names:List (Str×NameKind)) (acc:List (Str×Addr)),(∀ y∈names,y.2=.free->∃ c,env.cells.lookup y.1=some c) ->
   (forIn names acc (qkf env))=(pure (Jj env.cells names acc):Sem (List (Str×Addr)))
 | [],acc,_=>rfl
 | (n,k)::r,acc,h=>by
   rw[List.forIn_cons,qio fun e=>h (n,k) List.mem_cons_self e];exact qcq (env:=env) r _ fun y hy=>h y (List.mem_cons_of_mem _ hy)
theorem qgK {scope:Scope}{env:Env} (h:∀ y∈scope.names,y.2=.free->∃ c,env.cells.lookup y.1=some c):closureFor scope env=pure (Jj env.cells scope.names []):=by
 unfold closureFor;exact(congrArg (fun (m:Sem (List (Str×Addr)))=>m >>= fun cs=>pure cs) (qcq (env:=env) scope.names [] h)).trans rfl
theorem Qk {cells:List (Str×Addr)}{x:Str}:∀ (names:List (Str×NameKind)) (acc:List (Str×Addr)),(∀ y∈names,y.2=.free->∃ c,cells.lookup y.1=some c)->(∀ c,acc.lookup x=some c->cells.lookup x=some c) ->
   (∀ c,(Jj cells names acc).lookup x=some c->cells.lookup x=some c)∧(((x,NameKind.free)∈names∨(acc.lookup x).isSome=true)->((Jj cells names acc).lookup x).isSome=true)
 | [],acc,_,ha=>⟨ha,fun h=>h.elim (fun z=>nomatch z) id⟩
 | (n,k)::r,acc,h,ha=>by
   unfold Jj;have hr:∀ y∈r,y.2=.free->∃ c,cells.lookup y.1=some c:=fun y hy=>h y (List.mem_cons_of_mem _ hy)
   cases hk:(k == NameKind.free) with
   | false =>
     obtain⟨i1,i2⟩:=Qk (cells:=cells) (x:=x) r acc hr ha;refine⟨by simpa using i1,fun z=>?_⟩
     have:((Jj cells r acc).lookup x).isSome=true:=i2 (by
       rcases z with z|z
       · rcases List.mem_cons.mp z with e|e
         · cases e;cases hk
         · exact .inl e
       · exact .inr z)
     simpa using this
   | true =>
     obtain⟨c,hc⟩:=h (n,k) List.mem_cons_self (by simpa using hk);have hc:cells.lookup n=some c:=hc;have ek:k=NameKind.free:=by simpa using hk
     subst ek
     have ha':∀ c',((n,(cells.lookup n).getD 0)::acc).lookup x=some c'->cells.lookup x=some c':=fun c' z=>by
       rw[List.lookup_cons]at z
       cases e:x == n with
       | true =>
         rw[e]at z;have e':x=n:=by simpa using e
         rw[e',hc]at *;simpa using z
       | false=>rw[e]at z;exact ha c' z
     obtain⟨i1,i2⟩:=Qk (cells:=cells) (x:=x) r _ hr ha';refine⟨i1,fun z=>i2 ?_⟩;by_cases e:x=n
     · right;rw[List.lookup_cons,e];simp
     · rcases z with z|z
       · rcases List.mem_cons.mp z with q|q
         · cases q;exact absurd rfl e
         · exact .inl q
       · right;rw[List.lookup_cons]
         have:(x == n)=false:=by simpa using e
         rw[this];exact z
theorem ZY {x:Str}{k:NameKind}:∀ {names:List (Str×NameKind)},names.lookup x=some k->(x,k)∈names
 | [],h=>by cases h
 | (n,j)::r,h=>by
   rw[List.lookup_cons]at h
   cases e:x == n with
   | true =>
     rw[e]at h;have e':x=n:=by simpa using e
     cases h;rw[e'];exact List.mem_cons_self
   | false=>rw[e]at h;exact List.mem_cons_of_mem _ (ZY h)
theorem qa9 {scope:Scope}{env:Env}{x:Str}{k:NameKind} (h:(x,k)∈(relabel scope env).names):(x,k)∈scope.names∨(k=.cell∧(x,NameKind.free)∈scope.names):=by
 have h':(x,k)∈scope.names.map fun (n,k)=>if (k == .free && env.scope.kind == .function && env.kindOf n == some .cell) then (n,.cell) else (n,k):=h
 obtain⟨⟨n,j⟩,hm,e⟩:=List.mem_map.mp h';simp only at e;split at e
 · rename_i c
   cases e
   have:j=.free:=by
     have c1:=(Bool.and_eq_true_iff.mp (Bool.and_eq_true_iff.mp c).1).1;simpa using c1
   subst this;exact .inr ⟨rfl,hm⟩
 · cases e;exact .inl hm
theorem Qu {env:Env}{x:Str} (hX:env.scope.kind=.function) (g3:env.kindOf x=some .cell):∀ {names:List (Str×NameKind)},names.lookup x=some .free ->
   (names.map fun (n,k)=>if (k == NameKind.free && env.scope.kind == .function && env.kindOf n == some .cell) then (n,NameKind.cell) else (n,k)).lookup x=some .cell
 | [],h=>by cases h
 | (n,k)::r,h=>by
   have ih:=Qu hX g3 (names:=r);show List.lookup x ((if (k == NameKind.free && env.scope.kind == .function && env.kindOf n == some .cell)=true then (n,NameKind.cell) else (n,k))::_)=_;rw[List.lookup_cons]at h
   cases e:x == n with
   | true =>
     rw[e]at h;have e':x=n:=by simpa using e
     have ek:k=.free:=by simpa using h
     rw[ek,← e',if_pos (show (NameKind.free == NameKind.free && env.scope.kind == .function && env.kindOf x == some .cell)=true by rw[hX,g3];decide),List.lookup_cons];simp
   | false =>
     rw[e]at h;by_cases hc:(k == NameKind.free && env.scope.kind == .function && env.kindOf n == some .cell)=true
     · rw[if_pos hc,List.lookup_cons,e];exact ih h
     · rw[if_neg hc,List.lookup_cons,e];exact ih h
theorem CompOk.of {X:Cx}{scope:Scope}{N:List Str}{js:List (Option Nat)} (hkind:scope.kind=.function) (hcell:∀ y∈scope.names,y.2≠.cell) (hnames:∀ y∈scope.names,y.2=.local->scope.names.lookup y.1=some .local)
   (hX:X.env.scope.kind=.function) (hfree:∀ y∈scope.names,y.2=.free->X.env.kindOf y.1=some .cell∧∃ c,X.env.cells.lookup y.1=some c) (len:js.length=N.length)
   (hfr:∀ (i j:Nat) (x:Str),js[i]?=some (some j)->N[i]?=some x->X.N[j]?=some x∧scope.names.lookup x=some .free) :
   CompOk X scope N (Jj X.env.cells scope.names []) js where
 clos:=qgK fun y hy z=>(hfree y hy z).2
 sub:=fun x c h=>(Qk scope.names [] (fun y hy z=>(hfree y hy z).2) (fun c h=>by cases h)).1 c h
 all:=fun x h=>by
   have hm:(x,NameKind.free)∈scope.names:=by
     rcases h with h|h
     · rcases qa9 (ZY h) with z|⟨_,z⟩
       · exact absurd rfl (hcell _ z)
       · exact z
     · rcases qa9 (ZY h) with z|⟨e,_⟩
       · exact z
       · cases e
   have:=(Qk (cells:=X.env.cells) (x:=x) scope.names [] (fun y hy z=>(hfree y hy z).2) (fun c h=>by cases h)).2 (.inl hm)
   exact Option.isSome_iff_exists.mp this
 cell:=hcell
 kind:=hkind
 names:=hnames
 len:=len
 fr:=fun i j x h1 h2=>by
   obtain⟨g1,g2⟩:=hfr i j x h1 h2;obtain⟨g3,_⟩:=hfree (x,.free) (ZY g2) rfl;refine⟨g1,g3,.inl ?_⟩;exact Qu hX g3 g2
def qmq (sc:Scope) (N0 N:List Str) (js:List (Option Nat)):Bool:=(js.zip N).all fun p=>match p.1 with
 | none=>true
 | some j=>N0[j]? == some p.2 && sc.names.lookup p.2 == some .free
theorem qju {sc:Scope}{N0:List Str}:∀ {js:List (Option Nat)}{N:List Str},qmq sc N0 N js=true->∀ (i j:Nat) (x:Str),js[i]?=some (some j)->N[i]?=some x->N0[j]?=some x∧sc.names.lookup x=some .free:=by
 intro js N h i j x h1 h2
 have hm:(some j,x)∈js.zip N:=by
   refine List.mem_of_getElem? (i:=i) ?_;rw[List.getElem?_zip_eq_some];exact⟨h1,h2⟩
 have:=List.all_eq_true.mp h _ hm
 simpa using this
theorem CompOk.def {CX:CXT}{P:Program}{w:World}{K:Frag}{mg:Str->Option Value}{base:Heap}{N0:List Str}{qual:Str}{sc0:Scope}{f:Addr}{cd:Value}{A:Around}{outer:List Env}{s:Shared}{H:Hp}{E:XK}{scope:Scope}
   (N:List Str) (js:List (Option Nat)) (hk0:sc0.kind=.function:=by rfl) (hk:scope.kind=.function:=by rfl) (hcell:∀ y∈scope.names,y.2≠.cell:=by decide +kernel) (hnames:∀ y∈scope.names,y.2=.local->scope.names.lookup y.1=some .local:=by decide +kernel)
   (hfr0:∀ y∈scope.names,y.2=.free->sc0.names.lookup y.1=some .cell:=by decide +kernel) (len:js.length=N.length:=by rfl) (hfr:qmq scope N0 N js=true:=by decide +kernel) :
   CompOk (ze CX P w K mg base N0 qual sc0 f cd A outer s H E).nox scope N (Jj (ze CX P w K mg base N0 qual sc0 f cd A outer s H E).nox.env.cells scope.names []) js :=
 CompOk.of hk hcell hnames hk0 (fun y hy z=>⟨hfr0 y hy z,Option.isSome_iff_exists.mp (PySem.W.cellsFrom_some _ _ _ (.inl (hfr0 y hy z)))⟩) len (qju hfr)
inductive qfO (K:Frag) (x:V) (y:V) (H:Hp) (Q:VK):Prop
 | mk (p b xs:_) (h1:x=.ref p) (h2:y=.ref b) (h3:SqL K H p xs) (h4:SqL K H b []) (h5:Q (.bl xs.isEmpty) H):qfO K x y H Q
def qlV (K:Frag):R2:=fun x y H Q=>qfO K x y H Q
theorem qfT {X:Cx} (hu:X.A.units+64 < cLine):OpR X (compareOp .Eq) (qlV X.K):=by
 intro pins s σ H x y v u Q I rx ry h;obtain⟨p,b,xs,rfl,rfl,hp,hb,q⟩:=h;cases rx;cases ry;obtain⟨its,rv,pl,_⟩:=I.list hp;obtain⟨its2,rv2,pl2,_⟩:=I.list hb;cases rv2;have hl:=rv.length
 cases xs with
 | nil =>
   cases rv;exact SeqAt.eq_listAt (e:=fun _=>true) pl.isList pl2.isList rfl (by omega) (fun j h1 h2=>by simp at h1) ⟨.bl true,H,I,rfl,q⟩
 | cons a r=>exact SeqAt.eq_list_lengthsAt pl.isList pl2.isList (by simp;intro z;rw[z]at hl;cases hl) (by omega) ⟨.bl false,H,I,rfl,q⟩
section
variable {prog:Program}{w:World}{A:Around}{E:Value->Shared->Prop}{s:Shared}
theorem qjd {j u:Addr}{k:Nat}{xs:Array Value}{x:Value}{Q:Value->Shared->Prop} (a:s.heap.IsTupleIter j u k) (b:s.heap.IsTuple u xs) (e:xs[k]?=some x)
   (q:∀ h',h'.IsTupleIter j u (k+1)->Heap.SameBut j s.heap h'->Q x { s with heap:=h' }):wpAny (model prog w) A (Builtin.SmallTypes.nextOf (.ref j)) Q E s:=by
 obtain⟨oj,gj,cj,dj⟩:=id a;obtain⟨ou,gu,_,nu,du⟩:=b;unfold Builtin.SmallTypes.nextOf;refine wpAny_bind (wpAny_callSpecial?_slot (name:=Str.ofString "__next__") a.typeIs F.slot_tuple_iterator_next (wpAny_call_entry F.slot_tuple_iterator_next a.typeIs F.entry_tuple_iterator_next ?_ (F.args_tuple_iterator_next_1 _)));show wpAny _ _ (field (.ref j) 0 >>= _) _ _ s;refine wpAny_bind (wpAny_field gj dj (x:=.ref u) rfl ?_);show wpAny _ _ (if (Value.ref u == Value.none)=true then _ else _) _ _ s;rw[if_neg (show ¬ ((Value.ref u == Value.none)=true) from Bool.false_ne_true)];show wpAny _ _ (field (.ref j) 1 >>= _) _ _ s;refine wpAny_bind (wpAny_field gj dj (x:=.int k 0) rfl ?_);show wpAny _ _ (seqItems? (.ref u) >>= _) _ _ s;refine wpAny_bind (wpAny_seqItems gu du ?_);simp only[Int.toNat_natCast,e];refine wpAny_bind (wpAny_setField gj dj (by simp) (wpAny_pure ⟨x,rfl,wpAny_pure (q _ ?_ (Heap.SameBut.update ..))⟩));refine⟨_,Heap.get?_update_self _ gj (Obj.isFreed_of_fields (Obj.data_mapFields dj _)),(Obj.cls_mapFields ..).trans cj,?_⟩;rw[Obj.data_mapFields dj];simp[rawInt]
theorem qkS {j u:Addr}{k:Nat}{xs:Array Value}{Q:Value->Shared->Prop} (hd:A.handled=none) (a:s.heap.IsTupleIter j u k) (b:s.heap.IsTuple u xs) (e:xs[k]?=none)
   (q:∀ h' z,Heap.ExtBut j s.heap h'->(∃ o,h'.get? z=some o∧o.cls=.type "StopIteration")->E (.ref z) { s with heap:=h' }):wpAny (model prog w) A (Builtin.SmallTypes.nextOf (.ref j)) Q E s:=by
 obtain⟨oj,gj,cj,dj⟩:=id a;obtain⟨ou,gu,_,nu,du⟩:=b;unfold Builtin.SmallTypes.nextOf;refine wpAny_bind (wpAny_callSpecial?_slot (name:=Str.ofString "__next__") a.typeIs F.slot_tuple_iterator_next (wpAny_call_entry F.slot_tuple_iterator_next a.typeIs F.entry_tuple_iterator_next ?_ (F.args_tuple_iterator_next_1 _)));show wpAny _ _ (field (.ref j) 0 >>= _) _ _ s;refine wpAny_bind (wpAny_field gj dj (x:=.ref u) rfl ?_);show wpAny _ _ (if (Value.ref u == Value.none)=true then _ else _) _ _ s;rw[if_neg (show ¬ ((Value.ref u == Value.none)=true) from Bool.false_ne_true)];show wpAny _ _ (field (.ref j) 1 >>= _) _ _ s;refine wpAny_bind (wpAny_field gj dj (x:=.int k 0) rfl ?_);show wpAny _ _ (seqItems? (.ref u) >>= _) _ _ s;refine wpAny_bind (wpAny_seqItems gu du ?_);simp only[Int.toNat_natCast,e];refine wpAny_bind (wpAny_rule (wpAny_bind (wpAny_setField gj dj (by simp) ?_)));show wpAny _ _ (newExc (.type "StopIteration") [] >>= _) _ _ { s with heap:=_ };refine wpAny_bind ?_;simp only[newExc,newTuple];refine wpAny_bind (wpAny_newObj_type ?_ (by size_fits));refine wpAny_bind (m:=firstArgMember _ _) (wpAny_of_eq (a:=Value.none) (by first|rfl|(simp only[firstArgMember];rfl)) (wpAny_newObj_type ?_ (by size_fits)));simp only[raiseNew];refine wpAny_bind (wpAny_handled ?_)
 first|rw[show A.in1.handled=none from hd]|rw[hd]
 exact wpAny_bind (wpAny_pure (wpAny_throw (q _ _ (((Heap.SameBut.update ..).extBut.push _).push _) ⟨_,Heap.get?_push_size _ rfl,rfl⟩)))
def itK:Bool->Heap->Addr->Addr->Nat->Prop
 | false,h,j,u,k=>h.IsListIter j u k
 | true,h,j,u,k=>h.IsTupleIter j u k
def sqK:Bool->Heap->Addr->Array Value->Prop
 | false,h,u,xs=>h.IsList u xs
 | true,h,u,xs=>h.IsTuple u xs
theorem itK.at {t:Bool}{h h':Heap}{j u:Addr}{k:Nat} (x:itK t h j u k) (e:∀ o,h.get? j=some o->h'.get? j=some o):itK t h' j u k:=by
 cases t with
 | false=>exact Heap.IsListIter.at x e
 | true=>obtain⟨o,g,r⟩:=x;exact⟨o,e o g,r⟩
theorem itK.get {t:Bool}{h:Heap}{j u:Addr}{k:Nat} (x:itK t h j u k):∃ o,h.get? j=some o∧o.data=.fields #[.ref u,.int k 0]:=by
 cases t with
 | false=>obtain⟨o,g,_,d⟩:=x;exact⟨o,g,d⟩
 | true=>obtain⟨o,g,_,d⟩:=x;exact⟨o,g,d⟩
theorem sqK.at {t:Bool}{h h':Heap}{u:Addr}{xs:Array Value} (x:sqK t h u xs) (e:∀ o,h.get? u=some o->h'.get? u=some o):sqK t h' u xs:=by
 cases t with
 | false=>exact Heap.IsList.at x e
 | true=>obtain⟨o,g,r⟩:=x;exact⟨o,e o g,r⟩
theorem sqK.lt {t:Bool}{h:Heap}{u:Addr}{xs:Array Value} (x:sqK t h u xs):u < h.objs.size:=by
 cases t with
 | false=>obtain⟨o,g,_⟩:=x;exact Heap.lt_size g
 | true=>obtain⟨o,g,_⟩:=x;exact Heap.lt_size g
theorem qc5 {t:Bool}{j u:Addr}{k:Nat}{xs:Array Value}{x:Value}{Q:Value->Shared->Prop} (a:itK t s.heap j u k) (b:sqK t s.heap u xs) (e:xs[k]?=some x)
   (q:∀ h',itK t h' j u (k+1)->Heap.SameBut j s.heap h'->Q x { s with heap:=h' }):wpAny (model prog w) A (Builtin.SmallTypes.nextOf (.ref j)) Q E s:=by
 cases t with
 | false=>exact wpAny_nextOf_list_item a b e q
 | true=>exact qjd a b e q
theorem qhN {t:Bool}{j u:Addr}{k:Nat}{xs:Array Value}{Q:Value->Shared->Prop} (hd:A.handled=none) (a:itK t s.heap j u k) (b:sqK t s.heap u xs) (e:xs[k]?=none)
   (q:∀ h' z,Heap.ExtBut j s.heap h'->(∃ o,h'.get? z=some o∧o.cls=.type "StopIteration")->E (.ref z) { s with heap:=h' }):wpAny (model prog w) A (Builtin.SmallTypes.nextOf (.ref j)) Q E s:=by
 cases t with
 | false=>exact wpAny_nextOf_list_end hd a b e q
 | true=>exact qkS hd a b e q
theorem qki {t:Bool}{z TI TO i1 i2 l1 l2:Addr}{k:Nat}{xs ys:Array Value}{x y a b:Value}{Q:Value->Shared->Prop} (D:ZipApart z TI TO i1 i2 l1 l2)
   (gz:IsZip s.heap z TI TO .none) (gI:IsPair s.heap TI (.ref i1) (.ref i2)) (gO:IsPair s.heap TO a b) (j1:itK t s.heap i1 l1 k) (j2:itK t s.heap i2 l2 k) (m1:sqK t s.heap l1 xs) (m2:sqK t s.heap l2 ys) (ex:xs[k]?=some x) (ey:ys[k]?=some y)
   (q:∀ h',IsZip h' z TI TO (rawInt s.heap.objs.size)->IsPair h' TO x y->itK t h' i1 l1 (k+1)->itK t h' i2 l2 (k+1)->IsPair h' s.heap.objs.size x y ->
     (∀ c o,c≠z->c≠TO->c≠i1->c≠i2->s.heap.get? c=some o->h'.get? c=some o)->Q (.ref s.heap.objs.size) { s with heap:=h' }) :
   wpAny (model prog w) A (Builtin.«zip.__next__» ⟨[.ref z],[]⟩) (fun fin s'=>∃ v,fin=.done (.ret v)∧Q v s') E s:=by
 show wpAny _ _ (field (.ref z) 2 >>= _) _ _ s;refine wpAny_bind (wpAny_field gz rfl (x:=.bool false) rfl ?_);show wpAny _ _ (field (.ref z) 3 >>= _) _ _ s;refine wpAny_bind (wpAny_field gz rfl (x:=.ref TI) rfl (wpAny_bind (wpAny_seqItems gI rfl ?_)));show wpAny _ _ (Builtin.SmallTypes.ownedTupleIsFree (.ref z) >>= _) _ _ s;refine wpAny_bind ?_;unfold Builtin.SmallTypes.ownedTupleIsFree;refine wpAny_bind (wpAny_field gz rfl (x:=.none) rfl (wpAny_pure ?_));simp only[if_true];refine wpAny_bind (wpAny_rule (wpAny_bind (wpAny_field gz rfl (x:=.ref TO) rfl (wpAny_bind (wpAny_setField_rec gz (by simp) fun g1 z1 n1=>?_)))));replace z1:IsZip g1 z TI TO .ellipsis:=z1;refine wpAny_bind ?_;simp only[List.zipIdx_cons,List.zipIdx_nil,List.forIn_cons,List.forIn_nil];refine wpAny_bind (wpAny_bind (wpAny_onRaise ?_));show wpAny _ _ (Builtin.SmallTypes.nextOf (.ref i1) >>= _) _ _ { s with heap:=g1 };refine wpAny_bind (qc5 (t:=t) (s:={ s with heap:=g1 }) (j1.at fun o e=>n1.extBut _ o D.i1z e) (m1.at fun o e=>n1.extBut _ o D.l1z e) ex fun g2 j12 n2=>wpAny_pure ?_);have O2:IsPair g2 TO a b:=n2.extBut _ _ D.TOi1 (n1.extBut _ _ D.TOz gO);refine wpAny_bind (wpAny_seqItems O2 rfl (wpAny_bind (wpAny_updateSeq_pair O2 fun g3 O3 n3=>?_)));replace O3:IsPair g3 TO x b:=O3;refine wpAny_bind (wpAny_letGo (wpAny_pure (wpAny_bind (wpAny_bind (wpAny_onRaise ?_)))));show wpAny _ _ (Builtin.SmallTypes.nextOf (.ref i2) >>= _) _ _ { s with heap:=g3 };have k3:∀ c o,c≠z->c≠i1->c≠TO->s.heap.get? c=some o->g3.get? c=some o:=fun c o c1 c2 c3 e=>n3.extBut _ _ c3 (n2.extBut _ _ c2 (n1.extBut _ _ c1 e));refine wpAny_bind (qc5 (t:=t) (s:={ s with heap:=g3 }) (j2.at fun o e=>k3 _ o D.i2z D.i12.symm D.TOi2.symm e) (m2.at fun o e=>k3 _ o D.l2z D.l2i1 D.l2TO e) ey fun g4 j24 n4=>wpAny_pure ?_);have O4:IsPair g4 TO x b:=n4.extBut _ _ D.TOi2 O3;refine wpAny_bind (wpAny_seqItems O4 rfl (wpAny_bind (wpAny_updateSeq_pair O4 fun g5 O5 n5=>?_)));replace O5:IsPair g5 TO x y:=O5;refine wpAny_bind (wpAny_letGo (wpAny_pure (wpAny_pure (wpAny_bind (wpAny_seqItems O5 rfl (wpAny_bind (wpAny_newTuple ?_)))))));have sz:g5.objs.size=s.heap.objs.size:=by rw[n5.1,n4.1,n3.1,n2.1,n1.1]
 have z5:IsZip g5 z TI TO .ellipsis:=n5.extBut _ _ D.TOz.symm (n4.extBut _ _ D.i2z.symm (n3.extBut _ _ D.TOz.symm (n2.extBut _ _ D.i1z.symm z1)));have k5:∀ c o,c≠z->c≠TO->c≠i1->c≠i2->s.heap.get? c=some o->g5.get? c=some o:=fun c o c1 c2 c3 c4 e=>n5.extBut _ _ c2 (n4.extBut _ _ c4 (k3 c o c1 c3 c2 e));have p1:itK t g5 i1 l1 (k+1):=((j12.at fun o e=>n3.extBut _ o D.TOi1.symm e).at fun o e=>n4.extBut _ o D.i12 e).at fun o e=>n5.extBut _ o D.TOi1.symm e;have p2:itK t g5 i2 l2 (k+1):=j24.at fun o e=>n5.extBut _ o D.TOi2.symm e;have lz:z < g5.objs.size:=Heap.lt_size z5;show wpAny _ _ (Builtin.SmallTypes.ownedTupleHandOut (.ref z) (.ref g5.objs.size) >>= _) _ _ { s with heap:=_ };refine wpAny_bind ?_;unfold Builtin.SmallTypes.ownedTupleHandOut;have z6:IsZip (g5.push { cls:=.type "tuple",data:=.seq #[x,y] }) z TI TO .ellipsis:=Heap.get?_push_of_some _ z5;refine wpAny_bind (wpAny_setField_rec z6 (by simp) fun g7 z7 n7=>?_);replace z7:IsZip g7 z TI TO (rawInt g5.objs.size):=z7;refine wpAny_setField_rec z7 (by simp) fun g8 z8 n8=>?_;replace z8:IsZip g8 z TI TO (rawInt g5.objs.size):=z8;have up:∀ c o,c≠z->g5.get? c=some o->g8.get? c=some o:=fun c o c1 e=>n8.extBut _ _ c1 (n7.extBut _ _ c1 (Heap.get?_push_of_some _ e));have T8:IsPair g8 g5.objs.size x y:=n8.extBut _ _ (Nat.ne_of_gt lz) (n7.extBut _ _ (Nat.ne_of_gt lz) (Heap.get?_push_size _ rfl));rw[sz]at z8 T8;refine wpAny_pure ⟨_,rfl,?_⟩;show Q (.ref g5.objs.size) { s with heap:=g8 };rw[sz];exact q g8 z8 (up _ _ D.TOz O5) (p1.at fun o e=>up _ o D.i1z e) (p2.at fun o e=>up _ o D.i2z e) T8 fun c o c1 c2 c3 c4 e=>up c o c1 (k5 c o c1 c2 c3 c4 e)
theorem qlq {t:Bool}{z TI TO i1 i2 l1 l2:Addr}{k:Nat}{xs ys:Array Value}{a b:Value}{Q:Fin->Shared->Prop} (hd:A.handled=none) (D:ZipApart z TI TO i1 i2 l1 l2)
   (gz:IsZip s.heap z TI TO .none) (gI:IsPair s.heap TI (.ref i1) (.ref i2)) (gO:IsPair s.heap TO a b) (j1:itK t s.heap i1 l1 k) (j2:itK t s.heap i2 l2 k) (m1:sqK t s.heap l1 xs) (m2:sqK t s.heap l2 ys) (en:xs[k]?=none∨ys[k]?=none)
   (q:∀ h' v,(∀ c o,c≠z->c≠TO->c≠i1->c≠i2->s.heap.get? c=some o->h'.get? c=some o)->(∃ o,h'.get? v=some o∧o.cls=.type "StopIteration")->E (.ref v) { s with heap:=h' }) :
   wpAny (model prog w) A (Builtin.«zip.__next__» ⟨[.ref z],[]⟩) Q E s:=by
 show wpAny _ _ (field (.ref z) 2 >>= _) _ _ s;refine wpAny_bind (wpAny_field gz rfl (x:=.bool false) rfl ?_);show wpAny _ _ (field (.ref z) 3 >>= _) _ _ s;refine wpAny_bind (wpAny_field gz rfl (x:=.ref TI) rfl (wpAny_bind (wpAny_seqItems gI rfl ?_)));show wpAny _ _ (Builtin.SmallTypes.ownedTupleIsFree (.ref z) >>= _) _ _ s;refine wpAny_bind ?_;unfold Builtin.SmallTypes.ownedTupleIsFree;refine wpAny_bind (wpAny_field gz rfl (x:=.none) rfl (wpAny_pure ?_));simp only[if_true];refine wpAny_bind (wpAny_rule (wpAny_bind (wpAny_field gz rfl (x:=.ref TO) rfl (wpAny_bind (wpAny_setField_rec gz (by simp) fun g1 z1 n1=>?_)))));replace z1:IsZip g1 z TI TO .ellipsis:=z1;refine wpAny_bind ?_;simp only[List.zipIdx_cons,List.zipIdx_nil,List.forIn_cons,List.forIn_nil];refine wpAny_bind (wpAny_bind (wpAny_onRaise ?_));show wpAny _ _ (Builtin.SmallTypes.nextOf (.ref i1) >>= _) _ _ { s with heap:=g1 };have a1:itK t g1 i1 l1 k:=j1.at fun o e=>n1.extBut _ o D.i1z e;have b1:sqK t g1 l1 xs:=m1.at fun o e=>n1.extBut _ o D.l1z e
 cases ex:xs[k]? with
 | none =>
   refine wpAny_bind (qhN (t:=t) (s:={ s with heap:=g1 }) hd a1 b1 ex fun g2 v n2 sv=>?_);obtain⟨ov,gv,cv⟩:=sv;have z2:IsZip g2 z TI TO .ellipsis:=n2 _ _ D.i1z.symm z1;have vz:v≠z:=fun e=>by subst e;rw[z2]at gv;cases gv;simp at cv
   exact wpAny_setField_rec z2 (by simp) fun g3 _ n3=>q g3 v (fun c o c1 _ c3 _ e=>n3.extBut _ _ c1 (n2 _ _ c3 (n1.extBut _ _ c1 e))) ⟨ov,n3.extBut _ _ vz gv,cv⟩
 | some x =>
   have ey:ys[k]?=none:=en.resolve_left fun e=>by rw[ex]at e;cases e
   refine wpAny_bind (qc5 (t:=t) (s:={ s with heap:=g1 }) a1 b1 ex fun g2 j12 n2=>wpAny_pure ?_);have O2:IsPair g2 TO a b:=n2.extBut _ _ D.TOi1 (n1.extBut _ _ D.TOz gO);refine wpAny_bind (wpAny_seqItems O2 rfl (wpAny_bind (wpAny_updateSeq_pair O2 fun g3 O3 n3=>?_)));refine wpAny_bind (wpAny_letGo (wpAny_pure (wpAny_bind (wpAny_bind (wpAny_onRaise ?_)))));show wpAny _ _ (Builtin.SmallTypes.nextOf (.ref i2) >>= _) _ _ { s with heap:=g3 };have k3:∀ c o,c≠z->c≠i1->c≠TO->s.heap.get? c=some o->g3.get? c=some o:=fun c o c1 c2 c3 e=>n3.extBut _ _ c3 (n2.extBut _ _ c2 (n1.extBut _ _ c1 e));refine wpAny_bind (qhN (t:=t) (s:={ s with heap:=g3 }) hd (j2.at fun o e=>k3 _ o D.i2z D.i12.symm D.TOi2.symm e) (m2.at fun o e=>k3 _ o D.l2z D.l2i1 D.l2TO e) ey fun g4 v n4 sv=>?_);obtain⟨ov,gv,cv⟩:=sv;have z4:IsZip g4 z TI TO .ellipsis:=n4 _ _ D.i2z.symm (n3.extBut _ _ D.TOz.symm (n2.extBut _ _ D.i1z.symm z1));have vz:v≠z:=fun e=>by subst e;rw[z4]at gv;cases gv;simp at cv
   exact wpAny_setField_rec z4 (by simp) fun g5 _ n5=>q g5 v (fun c o c1 c2 c3 c4 e=>n5.extBut _ _ c1 (n4 _ _ c4 (k3 c o c1 c3 c2 e))) ⟨ov,n5.extBut _ _ vz gv,cv⟩
theorem qi2 {t:Bool}{z TI TO i1 i2 l1 l2:Addr}{k:Nat}{xs ys:Array Value}{x y a b:Value}{Q:Option Value->Shared->Prop} (D:ZipApart z TI TO i1 i2 l1 l2)
   (gz:IsZip s.heap z TI TO .none) (gI:IsPair s.heap TI (.ref i1) (.ref i2)) (gO:IsPair s.heap TO a b) (j1:itK t s.heap i1 l1 k) (j2:itK t s.heap i2 l2 k) (m1:sqK t s.heap l1 xs) (m2:sqK t s.heap l2 ys) (ex:xs[k]?=some x) (ey:ys[k]?=some y)
   (q:∀ h',IsZip h' z TI TO (rawInt s.heap.objs.size)->IsPair h' TO x y->itK t h' i1 l1 (k+1)->itK t h' i2 l2 (k+1)->IsPair h' s.heap.objs.size x y ->
     (∀ c o,c≠z->c≠TO->c≠i1->c≠i2->s.heap.get? c=some o->h'.get? c=some o)->Q (some (.ref s.heap.objs.size)) { s with heap:=h' }) :
   wpAny (model prog w) A (pyNext (.ref z)) Q E s:=by
 have T:s.TypeIs (.ref z) "zip":=⟨_,gz,rfl⟩
 unfold pyNext
 exact wpAny_bind (wpAny_attempt (wpAny_callSpecial?_slot (name:=Str.ofString "__next__") T F.slot_zip_next (wpAny_call_entry F.slot_zip_next T F.entry_zip_next
   (qki D gz gI gO j1 j2 m1 m2 ex ey fun h' c1 c2 c3 c4 c5 c6=>wpAny_pure (q h' c1 c2 c3 c4 c5 c6)) (F.args_zip_next_1 _))))
theorem qkK {t:Bool}{z TI TO i1 i2 l1 l2:Addr}{k:Nat}{xs ys:Array Value}{a b:Value}{Q:Option Value->Shared->Prop} (hd:A.handled=none) (D:ZipApart z TI TO i1 i2 l1 l2)
   (gz:IsZip s.heap z TI TO .none) (gI:IsPair s.heap TI (.ref i1) (.ref i2)) (gO:IsPair s.heap TO a b) (j1:itK t s.heap i1 l1 k) (j2:itK t s.heap i2 l2 k) (m1:sqK t s.heap l1 xs) (m2:sqK t s.heap l2 ys) (en:xs[k]?=none∨ys[k]?=none)
   (q:∀ h',(∀ c o,c≠z->c≠TO->c≠i1->c≠i2->s.heap.get? c=some o->h'.get? c=some o)->Q none { s with heap:=h' }):wpAny (model prog w) A (pyNext (.ref z)) Q E s:=by
 have T:s.TypeIs (.ref z) "zip":=⟨_,gz,rfl⟩
 unfold pyNext
 refine wpAny_bind (wpAny_attempt (wpAny_callSpecial?_slot (name:=Str.ofString "__next__") T F.slot_zip_next (wpAny_call_entry F.slot_zip_next T F.entry_zip_next
   (qlq hd D gz gI gO j1 j2 m1 m2 en fun h' v hk sv=>?_) (F.args_zip_next_1 _))))
 obtain⟨o,go,co⟩:=sv;exact wpAny_bind (wpAny_isInstance (T:="StopIteration") (b:=true) ⟨o,go,co⟩ isSubtype_stop (wpAny_pure (q _ hk)))
end
def itN:Bool->String
 | false=>"list_iterator"
 | true=>"tuple_iterator"
abbrev zk1 (t:Bool) (h:Heap) (u:Addr):Heap:=h.push { cls:=.type (itN t),data:=.fields #[.ref u,.int 0 0] }
abbrev zk3 (t:Bool) (h:Heap) (u v:Addr):Heap:=(zk1 t (zk1 t h u) v).push { cls:=.type "tuple",data:=.seq #[.ref h.objs.size,.ref (zk1 t h u).objs.size] }
abbrev zk4 (t:Bool) (h:Heap) (u v:Addr):Heap:=(zk3 t h u v).push { cls:=.type "tuple",data:=.seq #[.none,.none] }
abbrev zk5 (t:Bool) (h:Heap) (u v:Addr):Heap:=(zk4 t h u v).push { cls:=.type "zip",data:=.fields #[.none,.bool false,.bool false,.ref (zk1 t (zk1 t h u) v).objs.size,.ref (zk3 t h u v).objs.size] }
theorem qlp (t:Bool) (u v:Addr) (xs ys:Array Value):Meets (Builtin.«zip.__new__» ⟨[.type "zip",.ref u,.ref v],[]⟩) (fun _ R s=>sqK t s.heap u xs∧sqK t s.heap v ys ∧
     R (.ok (.ret (.ref (zk4 t s.heap u v).objs.size))) { s with heap:=zk5 t s.heap u v }) :=
 .of_wp fun prog w A R s h=>by
   obtain⟨hp,g,d,tk,os⟩:=s;obtain⟨m1,m2,h⟩:=h;have hsub:=sub_zip
   cases t with
   | false =>
     have L1:Heap.IsList (Shared.heap ⟨hp,g,d,tk,os⟩) u xs:=m1;have L2:Heap.IsList (Shared.heap ⟨hp.push { cls:=.type "list_iterator",data:=.fields #[.ref u,.int 0 0] },g,d,tk,os⟩) v ys:=Heap.IsList.push m2 _
     wp_walk using wpAny_pyIter_list L1,wpAny_pyIter_list L2
     exact⟨_,rfl,h⟩
   | true =>
     have L1:Heap.IsTuple (Shared.heap ⟨hp,g,d,tk,os⟩) u xs:=m1;have L2:Heap.IsTuple (Shared.heap ⟨hp.push { cls:=.type "tuple_iterator",data:=.fields #[.ref u,.int 0 0] },g,d,tk,os⟩) v ys:=Heap.IsTuple.push m2 _
     wp_walk using wpAny_pyIter_tuple L1,wpAny_pyIter_tuple L2
     exact⟨_,rfl,h⟩
section
variable {prog:Program}{w:World}{A:Around}{E:Value->Shared->Prop}{s:Shared}
theorem itK.new {t:Bool}{h:Heap}{j u:Addr} (g:h.get? j=some { cls:=.type (itN t),data:=.fields #[.ref u,.int 0 0] }):itK t h j u 0:=by
 cases t with
 | false=>exact⟨_,g,rfl,rfl⟩
 | true=>exact⟨_,g,rfl,rfl⟩
theorem qiq {t:Bool}{u v:Addr}{xs ys:Array Value}{Q:Value->Shared->Prop} (m1:sqK t s.heap u xs) (m2:sqK t s.heap v ys)
   (q:∀ h',IsZip h' (s.heap.objs.size+4) (s.heap.objs.size+2) (s.heap.objs.size+3) .none->IsPair h' (s.heap.objs.size+2) (.ref s.heap.objs.size) (.ref (s.heap.objs.size+1)) ->
     IsPair h' (s.heap.objs.size+3) .none .none->itK t h' s.heap.objs.size u 0->itK t h' (s.heap.objs.size+1) v 0->(∀ c o,s.heap.get? c=some o->h'.get? c=some o)->Q (.ref (s.heap.objs.size+4)) { s with heap:=h' }) :
   wpAny (model prog w) A (call (.type "zip") [.ref u,.ref v]) Q E s:=by
 refine callType_new F.called_zip (by decide) (F.typeCall_zip_2 _ _) (F.newCall_zip_2 _ _) (fun obj=>F.args_object_init_3 obj _ _) F.entry_zip_new (qlp t u v xs ys) ⟨m1,m2,?_⟩;have y1:(zk1 t s.heap u).objs.size=s.heap.objs.size+1:=Heap.size_push ..;have y2:(zk1 t (zk1 t s.heap u) v).objs.size=s.heap.objs.size+2:=by rw[Heap.size_push,y1]
 have y3:(zk3 t s.heap u v).objs.size=s.heap.objs.size+3:=by rw[Heap.size_push,y2]
 have y4:(zk4 t s.heap u v).objs.size=s.heap.objs.size+4:=by rw[Heap.size_push,y3]
 have f5:(zk5 t s.heap u v).get? (zk4 t s.heap u v).objs.size=some _:=Heap.get?_push_size _ rfl;have f4:(zk5 t s.heap u v).get? (zk3 t s.heap u v).objs.size=some _:=Heap.get?_push_of_some _ (Heap.get?_push_size _ rfl);have f3:(zk5 t s.heap u v).get? (zk1 t (zk1 t s.heap u) v).objs.size=some _:=Heap.get?_push_of_some _ (Heap.get?_push_of_some _ (Heap.get?_push_size _ rfl));have f2:(zk5 t s.heap u v).get? (zk1 t s.heap u).objs.size=some _:=Heap.get?_push_of_some _ (Heap.get?_push_of_some _ (Heap.get?_push_of_some _ (Heap.get?_push_size _ rfl)));have f1:(zk5 t s.heap u v).get? s.heap.objs.size=some _:=Heap.get?_push_of_some _ (Heap.get?_push_of_some _ (Heap.get?_push_of_some _ (Heap.get?_push_of_some _ (Heap.get?_push_size _ rfl))));show _∧_;rw[y2,y3,y4]at f5;rw[y1,y2]at f3;rw[y3]at f4;rw[y1]at f2;rw[y4];exact⟨⟨_,f5,rfl⟩,q _ f5 f3 f4 (.new f1) (.new f2) fun c o e=>Heap.get?_push_of_some _ (Heap.get?_push_of_some _ (Heap.get?_push_of_some _ (Heap.get?_push_of_some _ (Heap.get?_push_of_some _ e))))⟩
end
def SqK (K:Frag):Bool->Hp->Addr->List V->Prop
 | false=>SqL K
 | true=>SqT K
def Itz (K:Frag) (t:Bool) (a b:Addr):It :=
 ⟨fun i H=>∃ xs ys x y,SqK K t H a xs∧SqK K t H b ys∧xs[i]?=some x∧ys[i]?=some y,
  fun i H v H'=>∃ p x y,H p=none∧v=.ref p∧(∀ xs ys,SqK K t H a xs->SqK K t H b ys->xs[i]?=some x∧ys[i]?=some y)∧H'=upd H p (.tup [x,y]),
  fun i H=>∃ xs ys,SqK K t H a xs∧SqK K t H b ys∧(xs.length≤i∨ys.length≤i)⟩
section
variable {X:Cx}{pins:List (Addr×Obj)}{σ:St}{H:Hp}{s:Shared}
theorem Inv.seqK {t:Bool}{a:Addr}{xs:List V} (I:Inv X pins σ H s) (h:SqK X.K t H a xs):∃ its:List Value,Vals xs its∧sqK t s.heap a its.toArray∧xs.length≤sizeLine:=by
 cases t with
 | false =>
   obtain⟨its,rv,p,z⟩:=I.list h;exact⟨its,rv,p.isList,z⟩
 | true=>exact I.tuple h
theorem Inv.seqK_inj {t:Bool}{a:Addr}{xs ys:List V} (I:Inv X pins σ H s) (h:SqK X.K t H a xs) (h':SqK X.K t H a ys):xs=ys:=by
 cases t with
 | false=>exact I.list_inj h h'
 | true=>exact I.tuple_inj h h'
end
structure ZSt (t:Bool) (z TI TO i1 i2 a b:Addr) (i:Nat) (h:Heap):Prop where
 gz:IsZip h z TI TO .none
 gI:IsPair h TI (.ref i1) (.ref i2)
 gO:∃ u v,IsPair h TO u v
 j1:itK t h i1 a i
 j2:itK t h i2 b i
theorem qiN {P:Program}{w:World}{K:Frag}{elts:List Expr}{k:Nat}{pos:Pos}{t:Bool} (z TI TO i1 i2 a b:Addr) (D:ZipApart z TI TO i1 i2 a b) :
   qlo P w K (.Tuple elts k pos) (Itz K t a b) [z,TI,TO,i1,i2] z (ZSt t z TI TO i1 i2 a b) where
 mem:=by simp
 obj:=fun i h st c hc=>by
   obtain⟨gz,gI,⟨u,v,gO⟩,j1,j2⟩:=st;simp only[List.mem_cons,List.not_mem_nil,or_false]at hc;rcases hc with rfl|rfl|rfl|rfl|rfl
   · exact⟨_,gz,fun v e=>by cases e⟩
   · exact⟨_,gI,fun v e=>by cases e⟩
   · exact⟨_,gO,fun v e=>by cases e⟩
   · obtain⟨o,g,d⟩:=j1.get;exact⟨o,g,fun v e=>by rw[d]at e;cases e⟩
   · obtain⟨o,g,d⟩:=j2.get;exact⟨o,g,fun v e=>by rw[d]at e;cases e⟩
 keep:=fun i h h' st kk=>by
   obtain⟨gz,gI,⟨u,v,gO⟩,j1,j2⟩:=st;exact⟨kk z (by simp) _ gz,kk TI (by simp) _ gI,⟨u,v,kk TO (by simp) _ gO⟩,j1.at fun o e=>kk i1 (by simp) o e,j2.at fun o e=>kk i2 (by simp) o e⟩
 item:=by
   intro X hP hw hK hc i pins s σ H E I hf st hg;subst hP hw hK;obtain⟨xs,ys,x,y,hq,hq2,hx,hy⟩:=hg;obtain⟨its,rv,p,hz⟩:=I.seqK hq;obtain⟨its2,rv2,p2,hz2⟩:=I.seqK hq2;obtain⟨u,hu,ru⟩:=rv.get hx;obtain⟨u2,hu2,ru2⟩:=rv2.get hy;obtain⟨gz,gI,⟨_,_,gO⟩,j1,j2⟩:=st;refine qi2 (t:=t) D gz gI gO j1 j2 p p2 (x:=u) (y:=u2) (by simpa using hu) (by simpa using hu2) fun h1 w1 w2 w3 w4 w5 hk=>?_;refine⟨_,rfl,wpAny_letOwnedTupleGo_zip (s:={ s with heap:=h1 }) w1 fun h2 gz2 hs2=>?_⟩;have lz:z < s.heap.objs.size:=Heap.lt_size gz;have lI:TI < s.heap.objs.size:=Heap.lt_size gI;have lO:TO < s.heap.objs.size:=Heap.lt_size gO;have l1:i1 < s.heap.objs.size:=by obtain⟨o,g,_⟩:=j1.get;exact Heap.lt_size g
   have l2:i2 < s.heap.objs.size:=by obtain⟨o,g,_⟩:=j2.get;exact Heap.lt_size g
   have T2:h2.get? s.heap.objs.size=some { cls:=.type "tuple",data:=.seq #[u,u2] }:=(hs2.2 _ (Nat.ne_of_gt lz)).trans w5
   have I1:Inv X pins σ (upd H s.heap.objs.size (.tup [x,y])) { s with heap:=h2,toks:=s.toks }:=by
     refine I.turnLaid (ch:=[z,TI,TO,i1,i2]) (fun c o hc q=>?_) hf (Nat.le_refl _) ⟨by show 2≤sizeLine;decide,[u,u2],.cons ru (.cons ru2 .nil),⟨_,T2,rfl,_,rfl⟩⟩;have c1:c≠z:=fun e=>hc (by simp[e]);exact(hs2.2 c c1).trans (hk c o c1 (fun e=>hc (by simp[e])) (fun e=>hc (by simp[e])) (fun e=>hc (by simp[e])) q)
   refine⟨.ref s.heap.objs.size,_,I1,rfl,⟨_,x,y,I.hok.fresh (Nat.le_refl _),rfl,fun ys1 ys2 q1 q2=>by rw[I.seqK_inj q1 hq,I.seqK_inj q2 hq2];exact⟨hx,hy⟩,rfl⟩,?_,fun c hc=>?_⟩
   · exact⟨gz2,(hs2.2 _ D.TIz).trans (hk _ _ D.TIz D.TITO D.TIi1 D.TIi2 gI),⟨_,_,(hs2.2 _ D.TOz).trans w2⟩,w3.at fun o e=>(hs2.2 _ D.i1z).trans e,w4.at fun o e=>(hs2.2 _ D.i2z).trans e⟩
   · have hcl:c < s.heap.objs.size:=by
       simp only[List.mem_cons,List.not_mem_nil,or_false]at hc;rcases hc with rfl|rfl|rfl|rfl|rfl<;>assumption
     rw[qh (Nat.ne_of_lt hcl)];exact(hf c hc).1
 done:=by
   intro X hP hw hK hc i pins s σ H E I hf st hg;subst hP hw hK;obtain⟨xs,ys,hq,hq2,hx⟩:=hg;obtain⟨its,rv,p,hz⟩:=I.seqK hq;obtain⟨its2,rv2,p2,hz2⟩:=I.seqK hq2;obtain⟨gz,gI,⟨_,_,gO⟩,j1,j2⟩:=st;have e1:=rv.length;have e2:=rv2.length;refine qkK (t:=t) (I.ok.hd hc) D gz gI gO j1 j2 p p2 (by simp;omega) fun h' hk=>⟨rfl,I.turnL (t':=s.toks) (ch:=[z,TI,TO,i1,i2]) (fun c o hc q=>hk c o (fun e=>hc (by simp[e])) (fun e=>hc (by simp[e])) (fun e=>hc (by simp[e])) (fun e=>hc (by simp[e])) q) hf⟩
 self:=fun _ _ _ _ _ st h=>wpAny_pyIter_zip st.gz h
theorem qiv:bootBuiltins "zip"=some (.type "zip"):=by decide +kernel
inductive qj8 (K:Frag) (R:(It->Hp->Prop)) (vs:List V) (H1:Hp):Prop
 | mk (t a b:_) (h1:vs=[.ref a,.ref b]) (h2:(∃ xs,SqK K t H1 a xs)) (h3:(∃ ys,SqK K t H1 b ys)) (h4:R (Itz K t a b) H1):qj8 K R vs H1
def qnY (K:Frag) (ta:TA):TI:=fun σ H R=>ta σ H fun vs H1=>qj8 K R vs H1
section
variable {X:Cx}
theorem qlZ {e1 e2:Expr}{ta:TA}{p pos tp:Pos}{elts:List Expr}{kk:Nat} (hg:Gl X "zip") (hm:X.mg "zip"=none) (ha:PA X [e1,e2] ta) (hs:starEach [e1,e2] X.env=(false,eval e1 X.env)::starEach [e2] X.env:=by rfl)
   (hpl:(backTo pos (starEach [e2] X.env)).any (·.1)=false:=by rfl):PI X (.Tuple elts kk tp) (.Call (.Name "zip" p) [e1,e2] [] pos) (qnY X.K ta):=by
 intro pins s σ H R I h;refine Call_ (qab I hg hm qiv (PyProof.Rows.callWith_type1 (thn (ha pos pins s σ H _ I h) fun us s1 zz_=>?_) hs hpl));obtain⟨vs,H1,I1,r1,q1⟩:=zz_;obtain⟨t,a,b,e,⟨xs,hq⟩,⟨ys,hq2⟩,q⟩:=q1;subst e;obtain⟨u,v,rfl,ru,rv⟩:=qgg r1;cases ru;cases rv;obtain⟨its,rv,pl,hz⟩:=I1.seqK hq;obtain⟨its2,rv2,pl2,hz2⟩:=I1.seqK hq2;refine qiq (t:=t) pl pl2 fun h' gz gI gO j1 j2 hk=>?_;have I2:Inv X pins σ H1 { s1 with heap:=h' }:=I1.kept (t':=s1.toks) hk;have la:=pl.lt;have lb:=pl2.lt
 have D:ZipApart (s1.heap.objs.size+4) (s1.heap.objs.size+2) (s1.heap.objs.size+3) s1.heap.objs.size (s1.heap.objs.size+1) a b:=by
   constructor<;>(intro h;have h':=@id (@Eq Nat _ _) h;clear h;revert la lb h';exact fun (la:@LT.lt Nat _ _ _) (lb:@LT.lt Nat _ _ _) h'=>by omega)
 refine wpAny_pyIter_zip gz ⟨s1.heap.objs.size+4,_,_,Itz X.K t a b,H1,rfl,I2,qiN _ _ _ _ _ _ _ D,⟨gz,gI,⟨_,_,gO⟩,j1,j2⟩,fun c hc=>?_,q⟩
 have hc1:s1.heap.objs.size≤c:=by
   simp only[List.mem_cons,List.not_mem_nil,or_false]at hc;rcases hc with rfl|rfl|rfl|rfl|rfl<;>omega
 exact I1.fpOk hc1 (I1.hok.fresh hc1)
end
theorem qjC {K:Frag}{t:Bool}{a b:Addr}{xs ys:List V}{g:TG}{tt:TT}{te:TE}{D:Addr}{Q:VK}{σ0:St}{H0:Hp} (Pv:Nat->St->Hp->Prop) (he:xs.length=ys.length) (h0:Pv 0 σ0 H0)
   (hl:∀ i σ H,i≤xs.length->Pv i σ H->SqK K t H a xs∧SqK K t H b ys)
   (hs:∀ i x y σ H p,xs[i]?=some x->ys[i]?=some y->Pv i σ H->H p=none->g (.ref p) σ (upd H p (.tup [x,y])) fun σ3 H3=>tt σ3 H3 fun ok H4=>if ok=true then te σ3 H4 fun v H5=>∃ zs,H5 D=some (.lst zs)∧zs.length < sizeLine∧Pv (i+1) σ3 (upd H5 D (.lst (zs++[v]))) else Pv (i+1) σ3 H4)
   (hd:∀ σ H,Pv xs.length σ H->Q (.ref D) H):Ji (Itz K t a b) g tt te D Q σ0 H0:=by
 refine⟨fun i m σ H=>m=xs.length - i∧i≤xs.length∧Pv i σ H,⟨xs.length,by simp,Nat.zero_le _,h0⟩,?_⟩;rintro i m σ H ⟨rfl,hi,p⟩;obtain⟨q1,q2⟩:=hl i σ H hi p;by_cases hlt:i < xs.length
 · have hlt2:i < ys.length:=by omega
   refine .inr ⟨⟨xs,ys,xs[i],ys[i],q1,q2,by simp[hlt],by simp[hlt2]⟩,Pv (i+1),fun σ' H' p'=>⟨xs.length - (i+1),by omega,rfl,hlt,p'⟩,fun x H' y=>?_⟩;obtain⟨c,u,v,hn,rfl,z,rfl⟩:=y;obtain⟨z1,z2⟩:=z xs ys q1 q2;exact hs i u v σ _ c z1 z2 p hn
 · have e:i=xs.length:=by omega
   subst e;exact .inl ⟨⟨xs,ys,q1,q2,.inl (Nat.le_refl _)⟩,hd σ H p⟩
theorem Same.put {G H:Hp}{p:Addr} (s:Same G H) (n:G p=none) (o:HO):Same G (upd H p o):=fun c u e=>by rw[qh (qm e n)];exact s c u e
theorem Same.none {G H:Hp}{p:Addr} (s:Same G H) (n:H p=none):G p=none:=by
 cases e:G p with
 | none=>rfl
 | some o=>rw[s p o e]at n;cases n
theorem But.none {H H':Hp}{p q:Addr} (b:But p H H') (n:H' q=none) (h:q≠p):H q=none:=by
 cases e:H q with
 | none=>rfl
 | some o=>rw[b q o e h]at n;cases n
def ButL (ts:List Addr) (H H':Hp):Prop:=∀ b o,H b=some o->b∉ts->H' b=some o
theorem qcA {α:Type}{xs:List α}{x y:α}{i:Nat} (h:(xs++[x])[i]?=some y):xs[i]?=some y∨(i=xs.length∧y=x):=by
 rw[List.getElem?_append]at h;by_cases hi:i < xs.length
 · rw[if_pos hi]at h;exact .inl h
 · rw[if_neg hi]at h
   have e:i - xs.length=0:=by
     cases n:i - xs.length with
     | zero=>rfl
     | succ k=>rw[n]at h;simp at h
   rw[e]at h;exact .inr ⟨by omega,by simpa using h.symm⟩
theorem qll {xs:List V}{i:Int} (h0:0≤i) (h1:i < xs.length):∃ v,atI xs i=some v∧v∈xs:=by
 obtain⟨n,rfl⟩:=Int.eq_ofNat_of_zero_le h0;have hn:n < xs.length:=by omega
 exact⟨xs[n],qT (List.getElem?_eq_getElem hn),List.getElem_mem hn⟩
def qiU (K:Frag):List V->Hp->VK->Prop:=fun xs H Q=>∃ p ys,xs=[.ref p]∧(SqL K H p ys∨SqT K H p ys)∧∀ l,H l=none->Q (.ref l) (upd H l (.lst ys))
section
variable {X:Cx}
theorem qcR {i:Nat}{x:Str}{pos' pos:Pos}{elt iter tg:Expr}{ifs:List Expr}{scope:Scope}{cpos:Pos}{wi:TI}{g:TG}{tt:TT}{te:TE}{N:List Str}{cl:List (Str×Addr)}{js:List (Option Nat)} (hN:X.N.Nodup) (hi0:X.N[i]?=some x) (hx:Loc X.env.scope x)
   (hc:X.calm=true) (k:CompOk X scope N cl js) (hi:PI X tg iter wi)
   (hg:∀ C s₀ H₀ ex pn,PG (zu X scope N cl C s₀ H₀ ex pn) tg g) (ht:∀ C s₀ H₀ ex pn,PTs (zu X scope N cl C s₀ H₀ ex pn) ifs tt) (he:∀ C s₀ H₀ ex pn,PE (zu X scope N cl C s₀ H₀ ex pn) elt te)
   (hsw:swapsWith (.ListComp elt [⟨tg,iter,ifs,0⟩] scope cpos) (some (.Name x pos')) pos.line X.env=pure true:=by rfl)
   (hf:X.fn x=true∨X.env.scope.names.lookup x=some .local:=by first|exact .inl rfl|exact .inr rfl|assumption)
   (hs:∀ x,foldedSetIterable iter X.env x=pure x:=by intro _;rfl) :
   PS X (.Assign [.Name x pos'] (.ListComp elt [⟨tg,iter,ifs,0⟩] scope cpos) pos) (qmC (qlH wi g tt te js) (qjt i)):=by
 intro pins s σ H D0 I h;rw[exec_Assign_Name_used _ _ _ _ hsw];refine wpAny_bind (wpAny_standAt (wpAny_bind ?_));show wpAny _ X.A (do let _ ← comprehension (.ListComp elt [⟨tg,iter,ifs,0⟩] scope cpos) scope X.env _ (newList []) false (eval iter X.env) (some (assign (.Name x pos') X.env))) _ _ s;refine wpAny_bind (wpAny_mono (wpAny_comprehension_free (use:=some (assign (.Name x pos') X.env)) (Q:=fun _ s'=>∃ σ' H',Inv X pins σ' H' s'∧D0.nx σ' H') rfl hs k.clos k.kind k.names ?_) (fun _ s' hq=>wpAny_pure (wpAny_pure hq)) fun _ _ e=>e);refine thn (hi pins s σ H _ I h) fun v s1 h1=>thn h1 fun itv s2 h2=>?_;obtain⟨it,fp,tn,J,H2,e,I2,T,st2,f2,hD⟩:=h2;subst e;refine wpAny_newObj_type (wpAny_newFunctionEnv k.cell (by intro y hy;simp at hy) (fun h₁ hns₁ hsb₁=>?_) k.kind);dsimp only at hns₁ hsb₁ ⊢;generalize hH2:s2.heap.push { cls:=.type "list",dict:=none,data:=.seq ([]:List Value).toArray }=P2 at hns₁ hsb₁ ⊢;have hC:P2.objs.size=s2.heap.objs.size+1:=by rw[← hH2,Heap.size_push]
 have hDC:s2.heap.objs.size≠P2.objs.size:=by rw[hC];exact Nat.ne_of_lt (Nat.lt_succ_self _)
 have hCle:s2.heap.objs.size≤P2.objs.size:=by rw[hC];exact Nat.le_succ _
 have old:∀ b o,s2.heap.get? b=some o->h₁.get? b=some o:=fun b o e=>hsb₁.extBut b o (Nat.ne_of_lt (Nat.lt_of_lt_of_le (Heap.lt_size e) hCle)) (Heap.get?_push_of_some _ (hH2▸Heap.get?_push_of_some _ e));have hacc:h₁.get? s2.heap.objs.size=some { cls:=.type "list",data:=.seq ([]:List Value).toArray }:=hsb₁.extBut _ _ hDC (Heap.get?_push_of_some _ (hH2▸Heap.get?_push_size _ rfl))
 have hfl:∀ b∈fp,b < s2.heap.objs.size:=fun b hb=>by
   obtain⟨o,e,_⟩:=T.obj _ _ st2 b hb;exact Heap.lt_size e
 have fD:H2 s2.heap.objs.size=none:=I2.hok.fresh (Nat.le_refl _);obtain⟨W,⟨m0,w0⟩,turn⟩:=hD _ fD
 have IX:Inv (zu X scope N cl P2.objs.size s2 H2 fp (X.pn++pins)) [] (st0 js σ) (upd H2 s2.heap.objs.size (.lst [])) { s2 with heap:=h₁,toks:=s2.toks+([]:List (Str×Value)).length } :=
   qge k I2 f2 hfl (Nat.le_refl _) hCle hDC hns₁ hacc old
 have hg':=hg P2.objs.size s2 H2 fp (X.pn++pins);have ht':=ht P2.objs.size s2 H2 fp (X.pn++pins);have he':=he P2.objs.size s2 H2 fp (X.pn++pins)
 have stat:∀ {H':Hp},(∀ b∈fp,H' b=none)->∀ b∈fp,qgQ (zu X scope N cl P2.objs.size s2 H2 fp (X.pn++pins)) [] H' b:=fun hn b hb=>by
   obtain⟨g0,g1,g2,g3,g4,g5⟩:=f2 b hb;refine⟨hn b hb,Nat.ne_of_lt (Nat.lt_of_lt_of_le (hfl b hb) hCle),fun z=>?_,.inl hb,fun x c h=>g4 x c (k.sub _ _ h),fun p hp=>g5 p (by simpa[zu] using hp)⟩;rcases List.mem_cons.mp (I2.stkSub b z) with e|e
   · exact g1 e
   · exact g2 e
 have loop:∀ s₃:Shared,s₃={ s2 with heap:=h₁,toks:=s2.toks+([]:List (Str×Value)).length } ->
     codeAny (model X.prog X.w) X.A (.compLoop (.ListComp elt [⟨tg,iter,ifs,0⟩] scope cpos) 0 (.ref it) (.ref s2.heap.objs.size) (compEnvC scope cl P2.objs.size X.env))
       (compPost (model X.prog X.w) X.A X.xe (some (assign (.Name x pos') X.env)) (fun _ s'=>∃ σ' H',Inv X pins σ' H' s'∧D0.nx σ' H') (.ref s2.heap.objs.size) P2.objs.size) s₃:=by
   rintro s₃ rfl;refine qbC (fun n s'=>∃ i σ' H',Inv (zu X scope N cl P2.objs.size s2 H2 fp (X.pn++pins)) [] σ' H' s'∧tn i s'.heap∧(∀ b∈fp,H' b=none)∧W i n σ' H') ?_ m0
     ⟨0,st0 js σ,_,IX,T.keep _ _ _ st2 (fun b hb o e=>old b o e),fun b hb=>by rw[qh (Nat.ne_of_lt (hfl b hb))];exact(f2 b hb).1,w0⟩
   rintro n s3 ⟨i,σ3,H3,I3,st3,fr3,w3⟩;rcases turn i n σ3 H3 w3 with ⟨stop,qn⟩|⟨go,N2,hN,step⟩
   · refine thn (T.done (zu X scope N cl P2.objs.size s2 H2 fp (X.pn++pins)) rfl rfl rfl hc i [] s3 σ3 H3 noE I3 (stat fr3) st3 stop) fun r s4 ⟨hr,I4⟩=>?_;subst hr;obtain⟨m4,hn4,_⟩:=id I4.loc;have u4:Un (frs X.stack) fp H2 H3 s2.heap s4.heap:=I4.base;have fC:H3 P2.objs.size=none:=I4.free
     have I6:Inv X pins σ H3 s4:=I2.call' (s':=s4) I4.os u4 I4.hok I4.bare fun b hb=>by
       obtain⟨g0,g1,g2,g3,g4,g5⟩:=f2 b hb;exact⟨g3,g1,g4,g5⟩
     have fpC:qgQ X pins H3 P2.objs.size:=I2.fpOk hCle fC;have hn4':s4.heap.Ns P2.objs.size m4:=hn4;obtain⟨oC,esC,epC,gC,rC⟩:=id hn4';have I7:=I6.pinned (fp:=[P2.objs.size]) (fun b hb=>by rw[show b=P2.objs.size by simpa using hb];exact fpC) (fun b hb=>⟨oC,by rw[show b=P2.objs.size by simpa using hb];exact gC,fun v z=>by rw[rC.1]at z;cases z⟩);show wpAny _ X.A (assign (.Name x pos') X.env (.ref s2.heap.objs.size)) _ _ s4;refine wpAny_assign_Name (jG I7 hN hi0 hx (v:=.ref s2.heap.objs.size) rfl (fun s5 I8=>?_) hf);have g5:=(I8.pin (P2.objs.size,oC) (List.mem_append_right _ (List.mem_append_right _ (zY (by simp) gC)))).1;refine⟨m4,hn4'.at' (fun o e=>by rw[gC]at e;cases e;exact g5),fun h' hsb=>⟨_,H3,?_,qn⟩⟩;exact I8.unpinned.turnL (t':=s5.toks) (ch:=[P2.objs.size]) (fun b o hb e=>hsb.extBut b o (fun z=>hb (by simp[z])) e) (fun b hb=>by rw[show b=P2.objs.size by simpa using hb];exact fpC)
   · refine thn (T.item (zu X scope N cl P2.objs.size s2 H2 fp (X.pn++pins)) rfl rfl rfl hc i [] s3 σ3 H3 noE I3 (stat fr3) st3 go) fun r s4 ⟨u,hr,h4⟩=>?_;subst hr;refine thn h4 fun _ s5 zz_=>?_;obtain⟨x,H5,I5,r5,y5,st5,fr5⟩:=zz_;have I5':=I5.pinned (stat fr5) (T.obj _ _ st5);refine thn (hg' _ s5 σ3 H5 x u _ I5' r5 (step x H5 y5)) fun _ s6 zz_=>?_;obtain⟨σ6,H6,I6,q6⟩:=zz_;refine thn (ht' _ s6 σ6 H6 _ I6 q6) fun ok s7 zz_=>?_;obtain⟨H7,I7,q7⟩:=zz_;have again:∀ {s8:Shared}{σ8:St}{H8:Hp},Inv (zu X scope N cl P2.objs.size s2 H2 fp (X.pn++pins)) ([]++qcg fp s5.heap) σ8 H8 s8->N2 σ8 H8 ->
         ∃ m,m < n∧∃ i σ' H',Inv (zu X scope N cl P2.objs.size s2 H2 fp (X.pn++pins)) [] σ' H' s8∧tn i s8.heap∧(∀ b∈fp,H' b=none)∧W i m σ' H':=fun {s8 σ8 H8} I8 n8=>by
       obtain⟨m',hm,w8⟩:=hN σ8 H8 n8;refine⟨m',hm,i+1,σ8,H8,I8.unpinned,T.keep _ _ _ st5 fun b hb o e=>(I8.pin (b,o) (List.mem_append_right _ (List.mem_append_right _ (zY hb e)))).1,fun b hb=>?_,w8⟩;obtain⟨o,e,d⟩:=T.obj _ _ st5 b hb;exact(I8.pin (b,o) (List.mem_append_right _ (List.mem_append_right _ (zY hb e)))).2.1
     cases ok with
     | false=>exact again I7 (by simpa using q7)
     | true =>
       have q7':te σ6 H7 fun y H5=>∃ ys,H5 s2.heap.objs.size=some (.lst ys)∧ys.length < sizeLine∧N2 σ6 (upd H5 s2.heap.objs.size (.lst (ys++[y]))):=by simpa using q7
       refine thn (he' _ s7 σ6 H7 _ I7 q7') fun xv s8 zz_=>?_;obtain⟨y,H8,I8,r8,ys,hy,hlen,n8⟩:=zz_;refine thn (zg (X:=zu X scope N cl P2.objs.size s2 H2 fp (X.pn++pins)) _ s8 σ6 H8 (.ref s2.heap.objs.size) [y] (.ref s2.heap.objs.size) [xv] (fun _ H9=>N2 σ6 H9) I8 rfl (.cons r8 .nil) ⟨_,ys,y,rfl,rfl,hy,hlen,n8⟩) fun _ s9 ⟨_,H9,I9,_,n9⟩=>again I9 n9
 exact codeAny_compStart_list (loop _ rfl) (T.self _ 0 _ _ _ (T.keep _ _ _ st2 (fun b hb o e=>old b o e)) (loop _ rfl))
end
theorem qO {t u:TS}{D:qgS}{σ:St}{H:Hp} (Post:St->Hp->Prop) (h1:∀ N:St->Hp->Prop,(∀ σ' H',Post σ' H'->N σ' H')->t { D with nx:=N } σ H) (h2:∀ σ' H',Post σ' H'->u D σ' H'):qmK t u D σ H:=h1 (u D) h2
inductive qmu {β:Type} (f:β->List V) (H:Hp) (ps:List β) (i:Nat) (z:V):Prop
 | mk (p:β) (t:Addr) (h1:ps[i]?=some p) (h2:z=.ref t) (h3:H t=some (.tup (f p))):qmu f H ps i z
inductive qmv {β:Type} (f:β->List V) (H:Hp) (zs:List V) (i:Nat) (p:β):Prop
 | mk (t:Addr) (h1:zs[i]?=some (.ref t)) (h2:H t=some (.tup (f p))):qmv f H zs i p
def TupL {β:Type} (f:β->List V) (H:Hp) (zs:List V) (ps:List β):Prop:=zs.length=ps.length∧∀ (i:Nat) z p,zs[i]?=some z->ps[i]?=some p->∃ t,z=.ref t∧H t=some (.tup (f p))
section
variable {β:Type}{f:β->List V}{H H':Hp}{zs:List V}{ps:List β}
theorem TupL.nil:TupL f H [] []:=⟨rfl,fun i z p e=>by simp at e⟩
theorem TupL.same (h:TupL f H zs ps) (s:Same H H'):TupL f H' zs ps:=⟨h.1,fun i z p e1 e2=>by
 obtain⟨t,e,q⟩:=h.2 i z p e1 e2
 exact⟨t,e,s _ _ q⟩⟩
theorem TupL.put {q:Addr}{xs ys:List V} (h:TupL f H zs ps) (hq:H q=some (.lst xs)):TupL f (upd H q (.lst ys)) zs ps:=⟨h.1,fun i z y e1 e2=>by
 obtain⟨t,e,r⟩:=h.2 i z y e1 e2
 exact⟨t,e,by rw[qh (zI r hq (by intro z;cases z))];exact r⟩⟩
theorem TupL.snoc {t:Addr}{p:β} (h:TupL f H zs ps) (q:H t=some (.tup (f p))):TupL f H (zs++[.ref t]) (ps++[p]):=⟨by rw[List.length_append,List.length_append,h.1];rfl,fun i z y e1 e2=>by
 rcases qcA e1 with e|⟨ei,e⟩
 · rcases qcA e2 with e'|⟨ei',_⟩
   · exact h.2 i z y e e'
   · have:=(List.getElem?_eq_some_iff.mp e).1
     rw[ei',← h.1]at this;exact absurd this (Nat.lt_irrefl _)
 · rcases qcA e2 with e'|⟨_,e'⟩
   · have:=(List.getElem?_eq_some_iff.mp e').1
     rw[ei,h.1]at this;exact absurd this (Nat.lt_irrefl _)
   · exact⟨t,e,e'▸q⟩⟩
theorem TupL.at_ (h:TupL f H zs ps) {i:Nat}{p:β} (e:ps[i]?=some p):qmv f H zs i p:=by
 have hi:i < zs.length:=by rw[h.1];exact(List.getElem?_eq_some_iff.mp e).1
 obtain⟨t,et,q⟩:=h.2 i _ p (List.getElem?_eq_getElem hi) e;exact⟨t,by rw[List.getElem?_eq_getElem hi,et],q⟩
theorem TupL.of (h:TupL f H zs ps) {i:Nat}{z:V} (e:zs[i]?=some z):qmu f H ps i z:=by
 have hi:i < ps.length:=by rw[← h.1];exact(List.getElem?_eq_some_iff.mp e).1
 obtain⟨t,et,q⟩:=h.2 i z _ e (List.getElem?_eq_getElem hi);exact⟨_,t,List.getElem?_eq_getElem hi,et,q⟩
end
theorem qie {H:Hp}:∀ (ns:List Int),DVs H (ns.map V.int) (ns.map PyData.int)
 | []=>.nil
 | n::r=>.cons (.int n) (qie r)
theorem qf0:∀ (ns:List Int),PyData.canLayAll0 (ns.map PyData.int)=true∧PyData.depthAll (ns.map PyData.int)≤1
 | []=>⟨rfl,by simp[PyData.depthAll]⟩
 | n::r=>by
   obtain⟨h1,h2⟩:=qf0 r;refine⟨by simp[PyData.canLayAll0,PyData.canLay0,h1],?_⟩;simp only[List.map_cons,PyData.depthAll,PyData.depth];omega
theorem qid {β:Type}{g:β->List Int}{H:Hp}:∀ {zs:List V}{ps:List β},TupL (fun p=>(g p).map V.int) H zs ps->DVs H zs (ps.map fun p=>PyData.tuple ((g p).map PyData.int))
 | [],[],_=>.nil
 | z::zs,p::ps,h=>by
   obtain⟨t,e,q⟩:=h.2 0 z p rfl rfl;subst e;refine .cons (.tup (.inl q) (qie _)) (qid ⟨by simpa using h.1,fun i z p e1 e2=>h.2 (i+1) z p (by simpa using e1) (by simpa using e2)⟩)
 | [],_::_,h=>by simp[TupL]at h
 | _::_,[],h=>by simp[TupL]at h
theorem qfZ {β:Type}{g:β->List Int}:∀ (ps:List β),PyData.canLayAll0 (ps.map fun p=>PyData.tuple ((g p).map PyData.int))=true∧PyData.depthAll (ps.map fun p=>PyData.tuple ((g p).map PyData.int))≤2
 | []=>⟨rfl,by simp[PyData.depthAll]⟩
 | p::r=>by
   obtain⟨h1,h2⟩:=qfZ (g:=g) r;obtain⟨h3,h4⟩:=qf0 (g p);refine⟨?_,?_⟩
   · simp only[List.map_cons,PyData.canLayAll0,PyData.canLay0,h1,h3];rfl
   · simp only[List.map_cons,PyData.depthAll,PyData.depth];omega
end L2
namespace L2
open PySem PySem.Spec PyProof.Rows PySem.Builtin.Str PySem.NumText
theorem qks {x y:Str} (h:x.cps.toList=y.cps.toList):x=y:=by
 obtain⟨a⟩:=x;obtain⟨b⟩:=y
 have:a=b:=by
   have:=congrArg List.toArray h
   simpa using this
 rw[this]
end L2
namespace KC
open PySem L2 PySem.NumText PyProof.Rows
end KC
namespace L2
open PySem PySem.Spec PyProof.Rows
open PySem.W (Frag InstAt hasDictIn findIn isFn Looks looks_clsIn typeIn looks_findIn keepIn specialIn takesIn mroIn callWith_K clsIn notCls looks_mroIn check_slot findObj looks_find findCls subIn isClsIn)
def ExO (ea C:Addr) (dx:Option Addr) (tb:Value):Heap->Prop:=fun h =>
 ∃ o vs,h.get? ea=some o∧o.cls=.ref C∧o.dict=dx∧o.data=.fields vs∧vs.size=6∧vs[1]?=some tb
def TbO (T:Addr):Heap->Prop:=fun h=>∃ o ts,h.get? T=some o∧o.data=.fields ts∧ts[3]?=some Value.none
def XAt (H:Hp) (ea C:Addr) (dx:Option Addr):Prop :=
 ∃ tb,H ea=some (.ext (ExO ea C dx tb))∧(tb=.none∨∃ T,tb=.ref T∧H T=some (.ext (TbO T))∧T≠ea)
theorem qf8 {P:Program}{w:World}{H:Hp}{h:Heap}{ea C:Addr}{dx:Option Addr}{tb:Value} (x:ExO ea C dx tb h):ObjOk P w H h ea (.ext (ExO ea C dx tb)):=by
 obtain⟨o,vs,e,r⟩:=id x;exact⟨x,⟨o,e⟩,fun h1 h2 ⟨o',vs',e',r'⟩ k=>⟨o',vs',k _ e',r'⟩⟩
theorem qly {P:Program}{w:World}{H:Hp}{h:Heap}{T:Addr} (x:TbO T h):ObjOk P w H h T (.ext (TbO T)):=by
 obtain⟨o,vs,e,r⟩:=id x;exact⟨x,⟨o,e⟩,fun h1 h2 ⟨o',vs',e',r'⟩ k=>⟨o',vs',k _ e',r'⟩⟩
section
variable {M:Model}{A:Around}{E:Value->Shared->Prop}{s:Shared}
structure qiD (L:List Addr) (e:Addr) (oe:Obj) (h h':Heap) (T:Addr) (fl:Value):Prop where
 new:T=h.objs.size
 keep:∀ b o,b≠e->b∉L->h.get? b=some o->h'.get? b=some o
 slot:∀ b o,b≠e->h.get? b=some o->∃ sl,h'.get? b=some { o with slots:=sl }
 exc:h'.get? e=some (oe.mapFields (·.setIfInBounds 1 (.ref T)))
 tb:∃ oT ts,h'.get? T=some oT∧oT.data=.fields ts∧ts[3]?=some fl
theorem qcp {base:Heap}{env:Env}{outer:List Env}{L e:Addr}{oe:Obj}{vs:Array Value}{head:Value}{hadNext:Bool}{Q:Unit->Shared->Prop}
   (hfr:A.frames=some (env::outer)) (hl:s.heap.FunFrames base (env::outer)) (hf:env.frame=some L)
   (he:s.heap.get? e=some oe) (hd:oe.data=.fields vs) (hsz:1 < vs.size)
   (h:∀ h' T,qiD (frs (env::outer)) e oe s.heap h' T (rawInt L)->Q () { s with heap:=h' }) :
   wpAny M A (do
     let a ← frameOf env;let pl ← entryPlaceOf L hadNext;let b ← EntryCells.newEntry head a .none (rawInt L) .none pl
     setField (.ref e) 1 b) Q E s:=by
 have hene:e∉(env::outer).filterMap (·.frame):=fun hm=>by
   obtain⟨_,o,ho,hnf⟩:=hl.mem hm;rw[he]at ho;cases ho;exact hnf vs hd
 refine wpAny_bind (wpAny_frameOf_fun hfr hl hf fun g1 hs1=>?_);refine wpAny_bind (wpAny_entryPlaceOf fun pl hpl=>?_);unfold EntryCells.newEntry newFields;refine wpAny_bind (wpAny_newObj_type ?_ (hpl.sizeOk5 _ _ _ _ _));have he1:g1.get? e=some oe:=(hs1.2.1 e hene).trans he;generalize hob:({ cls:=.type "traceback",dict:=none,data:=.fields ([head,.ref L,.none,rawInt L,.none]++(if pl.isEmpty then List.replicate 6 Value.none else pl)).toArray }:Obj)=ob;have hobd:ob.data=.fields ([head,.ref L,.none,rawInt L,.none]++(if pl.isEmpty then List.replicate 6 Value.none else pl)).toArray:=by rw[← hob]
 have hof:ob.isFreed=false:=by rw[← hob];rfl
 have he2:=Heap.get?_push_of_some (h:=g1) ob he1;refine wpAny_setField he2 hd hsz (h _ g1.objs.size ?_);have hTe:g1.objs.size≠e:=Nat.ne_of_gt (Heap.lt_size he1);have hd3:=Obj.data_mapFields hd (·.setIfInBounds 1 (Value.ref g1.objs.size))
 have keep:∀ b o,b≠e->g1.get? b=some o->((g1.push ob).update e (Obj.mapFields (·.setIfInBounds 1 (Value.ref g1.objs.size)))).get? b=some o:=fun b o hbe hb=>by
   rw[Heap.get?_update_other _ _ (Ne.symm hbe)];exact Heap.get?_push_of_some _ hb
 refine⟨hs1.1,fun b o hbe hbL hb=>keep b o hbe ((hs1.2.1 b hbL).trans hb),fun b o hbe hb=>?_,Heap.get?_update_self _ he2 (Obj.isFreed_of_fields hd3),ob,_,?_,hobd,?_⟩
 · obtain⟨sl,q⟩:=hs1.2.2 b o hb;exact⟨sl,keep b _ hbe q⟩
 · rw[Heap.get?_update_other _ _ (Ne.symm hTe)];exact Heap.get?_push_size g1 hof
 · simp
theorem qhO {base:Heap}{env:Env}{outer:List Env}{L e:Addr}{oe:Obj}{vs:Array Value}{tb:Value}{Q:Unit->Shared->Prop}
   (hfr:A.frames=some (env::outer)) (hl:s.heap.FunFrames base (env::outer)) (hf:env.frame=some L)
   (he:s.heap.get? e=some oe) (hd:oe.data=.fields vs) (h1:vs[1]?=some tb) (ht:tb=.none∨∃ T,tb=.ref T∧TbO T s.heap)
   (h:∀ h' T,qiD (frs (env::outer)) e oe s.heap h' T (rawInt L)->Q () { s with heap:=h' }):wpAny M A (noteFrame (.ref e) env) Q E s:=by
 unfold noteFrame;simp only[hf];refine wpAny_bind (wpAny_field he hd h1 ?_);have hsz:=(Array.getElem?_eq_some_iff.mp h1).1;rcases ht with rfl|⟨T,rfl,oT,ts,hT,hdT,h3⟩
 · rw[if_neg (by decide)];exact qcp hfr hl hf he hd hsz h
 · rw[if_pos (show (Value.ref T != Value.none)=true from by simp)];refine wpAny_bind (wpAny_field hT hdT h3 ?_);rw[if_neg (show ¬ ((Value.none == rawInt L)=true) from by simp[rawInt])];refine wpAny_bind (wpAny_setField hT hdT (Array.getElem?_eq_some_iff.mp h3).1 ?_);rw[Heap.update_setField_same s.heap T oT ts 3 Value.none hT hdT h3];exact qcp hfr hl hf he hd hsz h
theorem qhU {base:Heap}{env:Env}{outer:List Env}{L e:Addr}{oe:Obj}{vs:Array Value}{tb:Value}{Q:Unit->Shared->Prop}
   (hfr:A.frames=some (env::outer)) (hl:s.heap.FunFrames base (env::outer)) (hf:env.frame=some L)
   (he:s.heap.get? e=some oe) (hd:oe.data=.fields vs) (h1:vs[1]?=some tb) (ht:tb=.none∨∃ T,tb=.ref T∧TbO T s.heap)
   (h:∀ h' T,qiD (frs (env::outer)) e oe s.heap h' T .none->Q () { s with heap:=h' }) :
   wpAny M A (noteFrame (.ref e) env) (fun _ s2=>wpAny M A (setFlight (.ref e) none) Q E s2) E s:=by
 refine qhO hfr hl hf he hd h1 ht fun h' T K=>?_;obtain⟨k1,k2,k3,k4,oT,ts,k5,k6,k7⟩:=K;have hsz:=(Array.getElem?_eq_some_iff.mp h1).1;have h3:3 < ts.size:=(Array.getElem?_eq_some_iff.mp k7).1;have hTe:e≠T:=by rw[k1];exact Nat.ne_of_lt (Heap.lt_size he)
 unfold setFlight;refine wpAny_bind (wpAny_field k4 (Obj.data_mapFields hd _) (x:=.ref T) (by simp[hsz]) ?_);rw[if_pos (show (Value.ref T != Value.none)=true from by simp)];refine wpAny_setField k5 k6 h3 (h _ T ⟨k1,fun b o hbe hbL hb=>?_,fun b o hbe hb=>?_,?_,_,_,Heap.get?_update_self _ k5 (Obj.isFreed_of_fields (Obj.data_mapFields k6 _)),Obj.data_mapFields k6 _,by simp[h3]⟩)
 · have:T≠b:=by rw[k1];exact Nat.ne_of_gt (Heap.lt_size hb)
   rw[Heap.get?_update_other _ _ this];exact k2 b o hbe hbL hb
 · have:T≠b:=by rw[k1];exact Nat.ne_of_gt (Heap.lt_size hb)
   rw[Heap.get?_update_other _ _ this];exact k3 b o hbe hb
 · rw[Heap.get?_update_other _ _ (Ne.symm hTe)];exact k4
end
section
variable {X:Cx}{pins:List (Addr×Obj)}{σ:St}{H:Hp}{s:Shared}{ea C:Addr}{dx:Option Addr}
def Zj (H:Hp) (ea C:Addr) (dx:Option Addr) (T:Addr):Hp:=upd (upd H ea (.ext (ExO ea C dx (.ref T)))) T (.ext (TbO T))
theorem qbn {T:Addr}{b:Addr}{o:HO} (hT:H T=none) (hb:b≠ea) (e:H b=some o):Zj H ea C dx T b=some o:=by
 unfold Zj;rw[qh (qm e hT),qh hb];exact e
theorem qhV {T:Addr} (hT:H T=none) (hne:T≠ea):XAt (Zj H ea C dx T) ea C dx:=by
 refine⟨.ref T,?_,.inr ⟨T,rfl,?_,hne⟩⟩
 · unfold Zj;rw[qh (Ne.symm hne),qd]
 · unfold Zj;rw[qd]
theorem qhT {M:Model}{A:Around}{E:Value->Shared->Prop}{Q:Unit->Shared->Prop} (I:Inv X pins σ H s) (hst:X.stack=X.env::X.outer) (hf:X.env.frame=some X.env.locals) (hfr:A.frames=some X.stack) (x:XAt H ea C dx)
   (h:∀ s' T,H T=none->T≠ea->Inv X pins σ (Zj H ea C dx T) s'->Q () s') :
   wpAny M A (noteFrame (.ref ea) X.env) (fun _ s2=>wpAny M A (setFlight (.ref ea) none) Q E s2) E s:=by
 obtain⟨tb,e1,e2⟩:=x;obtain⟨⟨oe,vs,he,hc,hdx,hd,hz,h1⟩,_,_⟩:=(show ObjOk X.prog X.w H s.heap ea (.ext (ExO ea C dx tb)) from I.hok ea _ e1)
 have ht:tb=.none∨∃ T,tb=.ref T∧TbO T s.heap:=by
   rcases e2 with e2|⟨T,e2,e3,_⟩
   · exact .inl e2
   · obtain⟨q,_,_⟩:=(show ObjOk X.prog X.w H s.heap T (.ext (TbO T)) from I.hok T _ e3)
     exact .inr ⟨T,e2,q⟩
 have hl:=I.stack;rw[hst]at hl hfr;have hea:ea∉frs X.stack:=fun z=>by have:=I.stkFree ea z;rw[e1]at this;cases this
 refine qhU hfr hl hf he hd h1 ht fun h' T K=>?_;obtain⟨k1,k2,k3,k4,oT,ts,k5,k6,k7⟩:=K;rw[← hst]at k2;have hT:H T=none:=I.hok.fresh (by rw[k1];exact Nat.le_refl _);have hTe:T≠ea:=by rw[k1];exact Nat.ne_of_gt (Heap.lt_size he)
 have nT:∀ b ob,s.heap.get? b=some ob->b≠T:=fun b ob e=>by rw[k1];exact Nat.ne_of_lt (Heap.lt_size e)
 have trk:∀ b u,H b=some u->b∉frs X.stack:=fun b u e z=>by have:=I.stkFree b z;rw[e]at this;cases this
 have nex:∀ b u,H b=some u->(∀ φ,u≠.ext φ)->b≠ea:=fun b u e n z=>by subst z;rw[e1]at e;cases e;exact n _ rfl
 have old:∀ b u,H b=some u->(∀ φ,u≠.ext φ)->Zj H ea C dx T b=some u:=fun b u e n=>qbn hT (nex b u e n) e
 have un:Un (frs X.stack) [] H (Zj H ea C dx T) s.heap h':=by
   refine⟨fun b o e n hb _=>k2 b o (fun z=>by subst z;rw[e1]at n;cases n) hb e,fun b o e n hb _=>k3 b o (fun z=>by subst z;rw[e1]at n;cases n) e,fun b o e n _=>?_,fun b o e _=>?_,
     fun b xs e=>old b _ e fun φ z=>(nomatch z),fun b o u e=>old b _ e fun φ z=>(nomatch z),fun b ps e=>⟨#[],by rw[old b _ e fun φ z=>(nomatch z)];simp⟩⟩
   · unfold Zj;rw[qh (nT b o e),qh fun z=>by subst z;rw[e1]at n;cases n];exact n
   · by_cases z:b=ea
     · subst z;exact⟨_,k4⟩
     · obtain⟨sl,q⟩:=k3 b o z e;exact⟨_,q⟩
 have hok:HOk X.prog X.w (Zj H ea C dx T) h':=fun b u e=>by
   by_cases z:b=T
   · subst z;unfold Zj at e;rw[qd]at e;cases e;exact qly ⟨oT,ts,k5,k6,k7⟩
   · by_cases z2:b=ea
     · subst z2;unfold Zj at e;rw[qh z,qd]at e;cases e;refine qf8 ⟨_,_,k4,(Obj.cls_mapFields _ _).trans hc,?_,Obj.data_mapFields hd _,by simp[hz],by simp[hz]⟩;rw[← hdx];obtain⟨oc,od,odt,osl⟩:=oe;have hd':odt=.fields vs:=hd;subst hd';rfl
     · have e':H b=some u:=by
         unfold Zj at e;rw[qh z,qh z2]at e;exact e
       refine(I.hok b u e').stay (fun c v hc q=>?_) (fun c q=>old c _ q fun φ z=>(nomatch z)) fun c xs q=>old c _ q fun φ z=>(nomatch z)
       rcases hc with hc|hc
       · subst hc;exact k2 c v z2 (trk c u e') q
       · exact k2 c v (nex c _ hc fun φ z=>(nomatch z)) (trk c _ hc) q
 exact h _ T hT hTe (I.call' (s':={ s with heap:=h' }) rfl un hok I.bare fun b z=>absurd z (by simp))
def Sure (E:XK) (C ea:Addr) (dx:Option Addr) (H:Hp):Prop:=∀ H',(∀ b o,b≠ea->H b=some o->H' b=some o)->XAt H' ea C dx->E (.ref C) (some ea) H'
theorem Sure.look {E:XK}{T:Addr} (h:Sure E C ea dx H) (hT:H T=none):Sure E C ea dx (Zj H ea C dx T):=fun H' k x=>h H' (fun b o hb e=>k b o hb (qbn hT hb e)) x
inductive qmx (P:Program) (w:World) (outer:List Env) (H:Hp) (s:Shared) (E:XK) (e:Value) (s':Shared):Prop
 | mk (ea C dx H':_) (h1:e=.ref ea) (h2:s'.os=s.os) (h3:AllBare s'.gens) (h4:Un (frs outer) [] H H' s.heap s'.heap) (h5:HOk P w H' s'.heap) (h6:XAt H' ea C dx) (h7:Sure E C ea dx H'):qmx P w outer H s E e s'
def CX1 (P:Program) (w:World):CXT:=fun outer H s E e s'=>qmx P w outer H s E e s'
def Throws (X:Cx) (E:XK):Prop:=∀ (pins:List (Addr×Obj)) (σ:St) (H:Hp) (s:Shared) (ea C:Addr) (dx:Option Addr),Inv X pins σ H s->XAt H ea C dx->Sure E C ea dx H->X.xe (.ref ea) s
theorem Throws.passes {E:XK} (t:Throws X E):jw (CX1 X.prog X.w) X E:=by
 intro pins σ H s e s' I ⟨ea,C,dx,H',e1,os,bare,un,hok,x,q⟩;subst e1;exact t pins σ H' s' ea C dx (I.call' os un hok bare fun b z=>absurd z (by simp)) x q
theorem throws_cx {P:Program}{w:World}{K:Frag}{mg:Str->Option Value}{base:Heap}{N:List Str}{qual:Str}{scope:Scope}{f:Addr}{cd:Value}{A:Around}{outer:List Env}{s₀:Shared}{H₀:Hp}{E:XK} :
   Throws (ze (CX1 P w) P w K mg base N qual scope f cd A outer s₀ H₀ E) E:=by
 intro pins σ H s ea C dx I x q;show wpAny _ _ (leaving _ _) _ _ _;unfold leaving;refine wpAny_bind (qhT I rfl rfl I.ok.frames x fun s' T hT hne J=>?_);exact⟨ea,C,dx,_,rfl,J.os,J.bare,J.base,J.hok,qhV hT hne,q.look hT⟩
end
def tyS:Value->String
 | .type a=>a
 | _=>""
theorem qlu {v:Value}{s:String} (h:tyS v=s) (n:s≠""):v=.type s:=by
 cases v with
 | type a=>exact congrArg _ h
 | _=>exact absurd h.symm n
theorem qkn {l:List Value}:∀ {ss:List String},l.map tyS=ss->(∀ s∈ss,s≠"")->l=ss.map Value.type:=by
 induction l with
 | nil=>intro ss h _;rw[← h];rfl
 | cons v l ih =>
   intro ss h n
   cases ss with
   | nil=>cases h
   | cons s ss =>
     have h1:tyS v=s:=(List.cons.inj h).1;have h2:l.map tyS=ss:=(List.cons.inj h).2;rw[qlu h1 (n s List.mem_cons_self),ih h2 fun x m=>n x (List.mem_cons_of_mem _ m)];rfl
def qac:List Value->Bool
 | []=>false
 | x::r=>match x with
   | .ref _=>qac r
   | _=>(x::r).map tyS == ["ValueError","Exception","BaseException","object"]
theorem qaq {l:List Value} (e:qac l=true):(∃ c r,l=.ref c::r∧qac r=true)∨l=[.type "ValueError",.type "Exception",.type "BaseException",.type "object"]:=by
 cases l with
 | nil=>cases e
 | cons x r =>
   unfold qac at e;split at e
   · exact .inl ⟨_,r,rfl,e⟩
   · exact .inr (qkn (eq_of_beq e) (by decide))
theorem Ql {T:String}{v:Bool} (h4:([.type "ValueError",.type "Exception",.type "BaseException",.type "object"]:List Value).contains (.type T)=v) {l:List Value}:qac l=true->l.contains (.type T)=v:=by
 induction l with
 | nil=>intro e;cases e
 | cons x r ih =>
   intro e;rcases qaq e with ⟨c,r',h,e'⟩|h
   · cases h;rw[List.contains_cons,ih e',show (Value.type T == Value.ref c)=false from rfl,Bool.false_or]
   · rw[h];exact h4
inductive qkh (K:Frag) (C:Addr):Prop
 | mk (nm qn:Str) (N:Addr) (bs bm:List Value) (sn:List Str) (sub:List Value) (ab:Bool) (col:Option Bool) (dd:Option Addr) (k0 k1 k2 k3 k5:Option Value) (h1:K.lookup C=some (excClassObj nm qn C N bs bm true sn sub ab col dd k0 k1 k2 k3 k5 "ValueError.__new__")) (h2:qac bm=true):qkh K C
def qne (K:Frag) (C:Addr):Prop:=qkh K C
noncomputable def xIn (K:Frag) (C:Addr):Bool:=@decide (qne K C) (Classical.propDecidable _)
theorem xIn_iff {K:Frag}{C:Addr}:xIn K C=true↔qne K C:=@decide_eq_true_iff (qne K C) (Classical.propDecidable _)
theorem qmz {K:Frag}{h:Heap}{C:Addr} (X:K.In h) (q:xIn K C=true):∃ nm qn N bs bm sn sub ab col dd k0 k1 k2 k3 k5,
   h.get? C=some (excClassObj nm qn C N bs bm true sn sub ab col dd k0 k1 k2 k3 k5 "ValueError.__new__")∧qac bm=true:=by
 obtain⟨nm,qn,N,bs,bm,sn,sub,ab,col,dd,k0,k1,k2,k3,k5,ho,hx⟩:=xIn_iff.mp q;exact⟨nm,qn,N,bs,bm,sn,sub,ab,col,dd,k0,k1,k2,k3,k5,X _ _ ho,hx⟩
section
variable {M:Model}{A:Around}{E:Value->Shared->Prop}{h:Heap}{g:Array GenState}{d:Drawn}{t:Nat}{os:OsState}
variable {nm q:Str}{C N:Addr}{bs bm bmB:List Value}{sn:List Str}{sub:List Value}{ab:Bool}{col:Option Bool}{dd:Option Addr}{k0 k1 k2 k3 k5:Option Value}{B newId initId:String}
theorem qeI (F:ExcBaseFacts B newId initId bmB) {rest:List Value}{Q:Unit->Shared->Prop} (hC:h.get? C=some (excClassObj nm q C N bs bm true sn sub ab col dd k0 k1 k2 k3 k5 newId))
   (hcont:(Value.ref C::bm).contains (.type B)=true) (hq:Q () ⟨h,g,d,t,os⟩):wpAny M A (checkBuiltinCall newId ⟨.ref C::rest,[]⟩) Q E ⟨h,g,d,t,os⟩:=by
 have hstar:=F.noStar;simp only[checkBuiltinCall,F.newKind,F.newSplit,F.newRow]
 repeat (first
   | refine wpAny_loadPart_at hC ?_
   | (refine wpAny_isSubtype_exc hC ?_;rw[hcont])
   | refine wpAny_staticBase_exc hC ?_
   | refine wpAny_madeBy_exc hC ?_
   | simp only[bne_self_eq_false,Bool.false_eq_true,if_false]
   | wp_step)
 exact hq
end
section
variable {prog:Program}{w:World}{A:Around}{R:Result->Shared->Prop}{E:Value->Shared->Prop}{h:Heap}{g:Array GenState}{d:Drawn}{t:Nat}{os:OsState}
variable {nm q:Str}{C N:Addr}{bs bm bmB:List Value}{sn:List Str}{sub:List Value}{ab:Bool}{col:Option Bool}{dd:Option Addr}{k0 k1 k2 k3 k5:Option Value}{B newId initId:String}
abbrev jv (C:Addr) (t:Addr):Obj:={ cls:=.ref C,data:=.fields #[.ref t,.none,.none,.none,.bool false,.none] }
theorem qmG (F:ExcBaseFacts B newId initId bmB) {rest:List Value} (hC:h.get? C=some (excClassObj nm q C N bs bm true sn sub ab col dd k0 k1 k2 k3 k5 newId))
   (hcB:(Value.ref C::bm).contains (.type B)=true) (hcA:(Value.ref C::bm).contains (.type "AttributeError")=false) (hcN:(Value.ref C::bm).contains (.type "NameError")=false)
   (hq:R (.ok (.ret (.ref (h.objs.size+1)))) ⟨(h.push { cls:=.type "tuple",data:=.seq rest.toArray }).push (jv C h.objs.size),g,d,t,os⟩) (hrest:rest.length≤sizeLine) :
   codeAny (model prog w) A (.builtin newId ⟨.ref C::rest,[]⟩) R ⟨h,g,d,t,os⟩:=by
 have hends:=F.ends;refine codeAny_builtinAt F.entry ?_;unfold Builtin.«BaseException.__new__»;refine PySem.wpAt_bind ?_;show PySem.wpAt _ _ _ (stack >>= _) _ _ _;refine PySem.wpAt_bind (PySem.wpAt_stack fun p below=>PySem.wpAt_of_wpAny ?_)
 wp_walk
 refine PySem.wpAt_of_wpAny ?_;rw[F.owner]
 repeat (first
   | with_reducible refine wpAny_madeHere_exc F.canon hC ?_
   | with_reducible refine wpAny_loadPart_at hC ?_
   | (with_reducible refine wpAny_isSubtype_exc hC ?_;first|rw[hcB]|rw[hcA]|rw[hcN])
   | wp_step)
 show R _ _;rw[Heap.size_push];exact hq
theorem qlr {K:Frag}{rest:List Value}{fI:Addr}{Q:Value->Shared->Prop} (X:K.In h) (xi:xIn K C=true)
   (hi:findIn K (.ref C) "__init__"=some (some (.ref fI))) (hf:typeIn K (.ref fI)=some (.type "function"))
   (hq:wpAny (model prog w) (A.under (.builtin "type.__call__" ⟨.ref C::rest,[]⟩)) (call (.ref fI) (.ref (h.objs.size+1)::rest)) (fun r s'=>r=.none∧Q (.ref (h.objs.size+1)) s') E
     ⟨(h.push { cls:=.type "tuple",data:=.seq rest.toArray }).push (jv C h.objs.size),g,d,t,os⟩) (hrest:rest.length≤sizeLine) :
   wpAny (model prog w) A (call (.ref C) rest) Q E ⟨h,g,d,t,os⟩:=by
 obtain⟨nm,qn,N,bs,bm,sn,sub,ab,col,dd,k0,k1,k2,k3,k5,hC,hx⟩:=qmz X xi;have F:=PySem.F.excBase_ValueError;have f1:=tc_lookup;have f2:=tc_bind (.ref C);have hT:(⟨h,g,d,t,os⟩:Shared).TypeIs (.ref C) "type":=⟨_,hC,rfl⟩
 have hcB:(Value.ref C::bm).contains (.type "ValueError")=true:=by rw[List.contains_cons,Ql (v:=true) (by decide +kernel) hx,Bool.or_true]
 have hcA:(Value.ref C::bm).contains (.type "AttributeError")=false:=by rw[List.contains_cons,Ql (v:=false) (by decide +kernel) hx];rfl
 have hcN:(Value.ref C::bm).contains (.type "NameError")=false:=by rw[List.contains_cons,Ql (v:=false) (by decide +kernel) hx];rfl
 refine wpAny_call (codeAny_of_tree ?_);show wpAny _ _ (callAny (.ref C) _) _ _ _
 repeat (any_goals (first
   | assumption
   | with_reducible refine wpAny_loadPart_at hC ?_
   | wp_step))
 refine⟨rfl,?_⟩;refine codeAny_call_builtin_at (Code.quiet_builtin _ (by decide +kernel)) entry_typeCall (wpAny_check_type_call_sub hC ?_)
 repeat (first
   | with_reducible refine wpAny_loadPart_at hC ?_
   | with_reducible refine wpAny_madeBy_exc hC ?_
   | wp_step)
 refine codeAny_call_builtin_code (Code.quiet_builtin _ F.quiet) (qeI F hC hcB ?_);refine qmG F hC hcB hcA hcN ?_ hrest;show wpAny _ _ _ _ _ (⟨(h.push { cls:=.type "tuple",data:=.seq rest.toArray }).push (jv C h.objs.size),g,d,t,os⟩:Shared);have kp:∀ b o,h.get? b=some o->((h.push { cls:=.type "tuple",data:=.seq rest.toArray }).push (jv C h.objs.size)).get? b=some o:=fun b o e=>Heap.get?_push_of_some _ (Heap.get?_push_of_some _ e);have hC1:=kp _ _ hC;have X1:=X.keeps kp;have hget:((h.push { cls:=.type "tuple",data:=.seq rest.toArray }).push (jv C h.objs.size)).get? (h.objs.size+1)=some (jv C h.objs.size):=by heap_get
 have hcC:(Value.ref C::bm).contains (.ref C)=true:=by simp
 unfold isInstance
 repeat (first
   | with_reducible refine wpAny_loadPart_at hget ?_
   | (show wpAny _ _ (isSubtype (.ref C) _) _ _ _;with_reducible refine wpAny_isSubtype_exc hC1 ?_;rw[hcC])
   | wp_step)
 show wpAny _ _ (typeLookup (.ref C) _) _ _ _;refine(looks_findIn X1 hi).at ?_;refine wpAny_holding (wpAny_bind ((PySem.W.bind_fn X1 _ hf).at ?_));refine wpAny_bind (wpAny_mono hq (fun r s' hr=>?_) fun _ _ x=>x);obtain⟨rfl,hQ⟩:=hr
 wp_walk
 exact hQ
end
theorem xcd {K:Frag}{C:Addr} (q:xIn K C=true):∃ cd bm,clsIn K C=some cd∧cd.mro=.ref C::bm∧qac bm=true∧cd.hasDict=true:=by
 obtain⟨nm,qn,N,bs,bm,sn,sub,ab,col,dd,k0,k1,k2,k3,k5,ho,hx⟩:=xIn_iff.mp q
 have e:∃ cd,clsIn K C=some cd∧cd.mro=.ref C::bm∧cd.hasDict=true:=by
   unfold clsIn;rw[ho];exact⟨_,rfl,rfl,rfl⟩
 obtain⟨cd,h1,h2,h3⟩:=e;exact⟨cd,bm,h1,h2,hx,h3⟩
theorem qmy {K:Frag}{C:Addr}{T:String} (q:xIn K C=true) (h4:([.type "ValueError",.type "Exception",.type "BaseException",.type "object"]:List Value).contains (.type T)=true):mroIn K C (.type T)=some true:=by
 obtain⟨cd,bm,h1,h2,h3,_⟩:=xcd q;unfold mroIn;rw[h1,Option.bind_some,h2,if_neg (by simp),List.contains_cons,Ql h4 h3,Bool.or_true]
section
variable {M:Model}{A:Around}{E:Value->Shared->Prop}{s:Shared}{env:Env}
theorem qkj {x:Sem Value}{Q:Flow->Shared->Prop} (hh:A.handled=none)
   (h:wpAny M A x (fun v s1=>∃ (ea C:Addr) (o:Obj) (vs:Array Value) (K:Frag),v=.ref ea∧K.In s1.heap∧xIn K C=true∧s1.heap.get? ea=some o∧o.cls=.ref C∧o.data=.fields vs∧vs[1]?=some .none∧E (.ref ea) s1) E s) :
   wpAny M A (raiseStmt env (some x) none) Q E s:=by
 unfold raiseStmt;refine wpAny_bind (wpAny_mono h (fun v s1 h1=>?_) fun _ _ x=>x);obtain⟨ea,C,o,vs,K,rfl,X,xi,he,hc,hd,hv,hE⟩:=h1;obtain⟨nm,qn,N,bs,bm,sn,sub,ab,col,dd,k0,k1,k2,k3,k5,hC,hx⟩:=qmz X xi;have hcB:(Value.ref C::bm).contains (.type "BaseException")=true:=by rw[List.contains_cons,Ql (v:=true) (by decide +kernel) hx,Bool.or_true]
 obtain⟨oc,od,odt,osl⟩:=o;dsimp only at hc hd;subst hc hd;obtain⟨hp,g,d,tk,os⟩:=s1
 repeat (first
   | with_reducible refine wpAny_field he rfl hv ?_
   | with_reducible refine wpAny_loadPart_at he ?_
   | with_reducible refine wpAny_loadPart_at hC ?_
   | (with_reducible refine wpAny_isSubtype_exc hC ?_;rw[hcB])
   | wp_step)
 exact wpAny_raiseNew_none hh hE
end
section
variable {prog:Program}{w:World}{A:Around}{E:Value->Shared->Prop}{s:Shared}{K:Frag}{C x:Addr}{ox:Obj}{name:Str}{v:Value}
theorem qkl {rest:List Value}{vs:Array Value}{Q:Value->Shared->Prop} (X:K.In s.heap) (xi:xIn K C=true) (hx:s.heap.get? x=some ox) (hc:ox.cls=.ref C) (hd:ox.data=.fields vs) (hz:vs.size=6) (hl:rest.length≤sizeLine)
   (h:∀ h' tp,(∀ b o,b≠x->s.heap.get? b=some o->h'.get? b=some o)->h'.get? x=some (ox.mapFields (·.setIfInBounds 0 tp))->Q .none { s with heap:=h' }) :
   wpAny (model prog w) A (call (.builtin "ValueError.__init__") (.ref x::rest)) Q E s:=by
 obtain⟨hp,g,d,tk,os⟩:=s;have F:=PySem.F.excBase_ValueError;obtain⟨nm,qn,N,bs,bm,sn,sub,ab,col,dd,k0,k1,k2,k3,k5,hC,hxt⟩:=qmz X xi;have hcB:(Value.ref C::bm).contains (.type "ValueError")=true:=by rw[List.contains_cons,Ql (v:=true) (by decide +kernel) hxt,Bool.or_true]
 have hshort:=F.noStar
 have chk:wpAny (model prog w) A.in1 (checkBuiltinCall "ValueError.__init__" ⟨.ref x::rest,[]⟩) (fun _ s'=>s'=⟨hp,g,d,tk,os⟩) (fun _ _=>False) ⟨hp,g,d,tk,os⟩:=by
   simp only[checkBuiltinCall,F.initKind,F.initSplit,F.initRow]
   repeat (first
     | (with_reducible refine wpAny_loadPart_at hx ?_;rw[hc])
     | with_reducible refine wpAny_loadPart_at hC ?_
     | (with_reducible refine wpAny_isSubtype_exc hC ?_;rw[hcB])
     | wp_step)
   refine wpAny_onRaise ?_
   rw[show ∀ (a b:String) (n:Nat),Bind.check ⟨.positional,"*","ValueError",.self,[⟨"args",.varPos,false⟩]⟩ a b n (List.map (fun x=>x.fst) ({ pos:=Value.ref x::rest }:Args).kw)=pure () from
     fun a b n=>check_star_args _ _ _ _ _ _]
   exact wpAny_pure rfl
 refine wpAny_call (codeAny_call_builtin F.init.plain F.initEntry (wpAny_mono chk (fun _ s1 e=>?_) fun _ _ z=>z.elim));subst e;unfold Builtin.«BaseException.__init__»
 repeat (first
   | with_reducible refine wpAny_loadPart_at hx ?_
   | wp_step)
 obtain⟨a0,h0⟩:∃ a0,vs[0]?=some a0:=⟨_,Array.getElem?_eq_getElem (by omega)⟩
 rw[hd];refine wpAny_pure ?_;rw[h0];refine wpAny_pure ?_;have hx1:(hp.push { cls:=.type "tuple",data:=.seq rest.toArray }).get? x=some ox:=Heap.get?_push_of_some _ hx;refine wpAny_bind (wpAny_setField hx1 hd (by omega) ?_)
 have fin:=h ((hp.push { cls:=.type "tuple",data:=.seq rest.toArray }).update x (Obj.mapFields (·.setIfInBounds 0 (.ref hp.objs.size)))) (.ref hp.objs.size) (fun b o hb e=>by
   rw[Heap.get?_update_other _ _ (Ne.symm hb)]
   exact Heap.get?_push_of_some _ e) (Heap.get?_update_self _ hx1 (Obj.isFreed_of_fields (Obj.data_mapFields hd _)))
 cases a0<;>(repeat wp_step)<;>exact fin
end
theorem qiH (self:Value) {l:List Value}:qac l=true->refuseLoop self "__setattr__" l=pure ():=by
 induction l with
 | nil=>intro e;cases e
 | cons x r ih =>
   intro e;rcases qaq e with ⟨c,r',h,e'⟩|h
   · cases h;rw[refuseLoop_ref];exact ih e'
   · rw[h];exact PySem.F.store_ValueError.passes self
section
variable {prog:Program}{w:World}{A:Around}{E:Value->Shared->Prop}{s:Shared}{K:Frag}{C x:Addr}{ox:Obj}{name:Str}{v:Value}
theorem qmF {vs:Array Value}{Q:Unit->Shared->Prop} (X:K.In s.heap) (xi:xIn K C=true) (hx:s.heap.get? x=some ox) (hc:ox.cls=.ref C) (hd:ox.data=.fields vs) (hdn:ox.dict=none)
   (hs:findIn K (.ref C) "__setattr__"=some (some (.builtin "object.__setattr__"))) (ha:findIn K (.ref C) name=some none)
   (h:∀ h' dx,s.heap.objs.size≤dx->h'.get? x=some { ox with dict:=some dx }->h'.Ns1 dx (fun y=>if y=name then some v else none)->(∀ b o,b≠x->s.heap.get? b=some o->h'.get? b=some o) ->
     Q () { s with heap:=h',toks:=s.toks+2 }) :
   wpAny (model prog w) A (setAttr (.ref x) name v) Q E s:=by
 have SF:=PySem.F.store_object;obtain⟨cd,bm,hcd,hmro,hxt,hdict⟩:=xcd xi;have I:InstAt s.heap x ox C none:=⟨hx,hc,by unfold notCls;rw[hd],by rw[hdn];exact True.intro⟩
 refine PySem.W.set_plain X I hs ?_;have sub:Looks (model prog w) s.heap (isInstance (.ref x) (.type "object")) true:=I.type.andThen (looks_mroIn X (qmy xi (by decide +kernel)));refine codeAny_call_builtin SF.slot.plain SF.entry (@check_slot (model prog w) _ _ { s with toks:=s.toks+1 } "object.__setattr__" "object" "__setattr__" (.ref x) [.str name s.toks,v] [] _ SF.kind SF.split sub (SF.args (.ref x) (.str name s.toks) v) ?_);have hm:Looks (model prog w) s.heap (mroOf (.ref C)) cd.mro:=(looks_clsIn X hcd).andThen .now;rw[PySem.W.osa_eq,refuse_eq];refine wpAny_bind (wpAny_bind (I.type.here (s:={ s with toks:=s.toks+1 }) (wpAny_bind (hm.here (s:={ s with toks:=s.toks+1 }) ?_))));rw[hmro,refuseLoop_ref,qiH _ hxt];refine wpAny_pure (wpAny_bind (I.type.here (s:={ s with toks:=s.toks+1 }) (wpAny_bind ((looks_findIn X ha).here (s:={ s with toks:=s.toks+1 }) (wpAny_bind (wpAny_pure ?_))))));dsimp only;unfold PySem.Builtin.ObjectAttr.storeInOwnDict;refine wpAny_bind (wpAny_pure ?_);rw[if_neg (by simp)];refine wpAny_bind (wpAny_bind (wpAny_loadPart hx ?_));rw[hc];dsimp only;refine wpAny_bind ((looks_clsIn X hcd).here (s:={ s with toks:=s.toks+1 }) ?_);rw[hdict,hdn,if_neg (by decide)];dsimp only;rw[if_neg (by simp[typeHasDict]),hd];dsimp only;have hx1:(s.heap.push { cls:=.type "dict",data:=.dict #[] }).get? x=some ox:=Heap.get?_push_of_some _ hx;have hxs:x≠s.heap.objs.size:=Nat.ne_of_lt (Heap.lt_size hx);refine wpAny_bind (wpAny_alloc' ?_);refine wpAny_bind (wpAny_update' hx1 ?_);refine wpAny_pure (a:=some s.heap.objs.size) ?_;generalize hg:((s.heap.push { cls:=.type "dict",data:=.dict #[] }).update x fun o=>{ cls:=o.cls,dict:=some s.heap.objs.size,data:=o.data,slots:=o.slots })=g1
 have hgd:g1.get? s.heap.objs.size=some { cls:=.type "dict",data:=.dict #[] }:=by
   rw[← hg];exact(Heap.get?_update_ne _ _ _ _ hxs.symm).trans (Heap.get?_push_at rfl rfl)
 have hnd:g1.Ns s.heap.objs.size (fun _=>none):=⟨_,#[],_,hgd,rfl,fun e he=>absurd he (by simp),fun _=>rfl⟩
 have hgx:g1.get? x=some { ox with dict:=some s.heap.objs.size }:=by
   rw[← hg];refine Heap.get?_update_self _ hx1 ?_;have hfr:=(Heap.get?_some_iff.mp hx).2;obtain⟨oc,od,odt,osl⟩:=ox;cases odt<;>first|rfl|exact hfr
 have hgo:∀ b o,b≠x->s.heap.get? b=some o->g1.get? b=some o:=fun b o hb e=>by
   rw[← hg];exact(Heap.get?_update_ne _ _ _ _ hb).trans (Heap.get?_push_of_some _ e)
 show wpAny _ _ (PySem.Builtin.ObjectAttr.storeInDict s.heap.objs.size (.str name s.toks) name v) _ _ _;unfold PySem.Builtin.ObjectAttr.storeInDict PySem.Builtin.ObjectAttr.newKeyGuard;refine wpAny_bind (wpAny_pure (wpAny_bind (wpAny_nsSet1 (Heap.Ns1.of_empty hnd) fun h' hn' hs'=>?_)));obtain⟨oD,esD,epD,hoD,hdD,hcD⟩:=hn'.count (Within.cons name v Within.nil);refine wpAny_bind (wpAny_lookBehind hoD (by rw[hdD];exact pastItsLine_dict (Nat.le_trans hcD (by rw[List.length_cons,List.length_nil,sizeLine_eq];omega))) ?_);refine wpAny_pure (h h' s.heap.objs.size (Nat.le_refl _) ((hs'.2 x hxs).trans hgx) hn' fun b o hb e=>(hs'.2 b (Nat.ne_of_lt (Heap.lt_size e))).trans (hgo b o hb e))
end
section
variable {prog:Program}{w:World}{A:Around}{E:Value->Shared->Prop}{s:Shared}{K:Frag}{C x:Addr}{ox:Obj}{od:Option Obj}{name:Str}{v:Value}
theorem qgU {tk:Tok}{fill expr:Bool}{Q:Value->Shared->Prop} (X:K.In s.heap) (I:InstAt s.heap x ox C od) (xi:xIn K C=true)
   (hga:findIn K (.ref C) "__getattribute__"=some (some (.builtin "BaseException.__getattribute__"))) (hna:findIn K (.ref C) "__getattr__"=some none)
   (h:wpAny (model prog w) A.in1 (Builtin.«object.__getattribute__» ⟨[.ref x,.str name tk],[]⟩) (fun fin s'=>match fin with|.done (.ret v)=>wpAny (model prog w) A (handedOut v) Q E s'|_=>False) (fun _ _=>False) s) :
   wpAny (model prog w) A (getAttrBy (.ref x) (.str name tk) fill expr) Q E s:=by
 have hx2:(Value.builtin "BaseException.__getattribute__" == Value.builtin "object.__getattribute__")=false:=by decide +kernel
 unfold getAttrBy;refine wpAny_holding (wpAny_bind (I.type.here (wpAny_bind ((looks_findIn X hga).here ?_))));dsimp only;rw[hx2,Bool.and_false,if_neg (by decide)];unfold getAttrByItsOwn;refine wpAny_bind ((PySem.W.looks_hook X (r:=none) (by rw[if_pos (by rfl)];exact hna)).here (wpAny_bind (wpAny_attempt (wpAny_holding ?_))));unfold callGetattribute;rw[show (expr && onTheHeap (Value.builtin "BaseException.__getattribute__"))=false from by cases expr<;>rfl,if_neg (by decide)];unfold boundAndCalled;rw[PySem.F.excAttr_ValueError.ga.bind];refine wpAny_bind (wpAny_pure ?_);show wpAny _ _ (call (.builtin "BaseException.__getattribute__") [.ref x,.str name tk]) _ _ _;refine wpAny_call (codeAny_call_builtin PySem.F.excAttr_ValueError.ga.plain PySem.F.entry_bexc_ga ?_);refine @check_slot (model prog w) _ _ s "BaseException.__getattribute__" "BaseException" "__getattribute__" (.ref x) [.str name tk] [] _ (by decide +kernel) (by decide +kernel) (I.type.andThen (looks_mroIn X (qmy xi (by decide +kernel)))) (PySem.F.args_bexc_ga (.ref x) (.str name tk)) ?_;refine wpAny_mono h (fun fin s' z=>?_) fun _ _ z=>z.elim;rcases fin with (_|_|_|_)|_<;>first|exact z|exact z.elim
theorem qmH {expr:Bool}{Q:Value->Shared->Prop} (X:K.In s.heap) (I:InstAt s.heap x ox C od) (xi:xIn K C=true)
   (hga:findIn K (.ref C) "__getattribute__"=some (some (.builtin "BaseException.__getattribute__"))) (hna:findIn K (.ref C) "__getattr__"=some none)
   (hf:findObj K C od name=some (.value v)) (hh:PySem.W.handedIn v=true) (h:Q v { s with toks:=s.toks+1 }):wpAny (model prog w) A (getAttr (.ref x) name expr) Q E s:=by
 unfold getAttr;refine wpAny_bind (wpAny_mkText (qgU (s:={ s with toks:=s.toks+1 }) X I xi hga hna ?_));have L1:=looks_find (M:=model prog w) X I hf;unfold Builtin.«object.__getattribute__»;refine wpAny_bind (wpAny_pure (wpAny_bind (wpAny_pure (wpAny_bind (I.type.here (s:={ s with toks:=s.toks+1 }) (wpAny_bind (L1.here (s:={ s with toks:=s.toks+1 }) ?_)))))));refine wpAny_pure ?_;show wpAny _ _ (handedOut v) _ _ _;rw[PySem.W.handedOut_of hh];exact wpAny_pure h
end
structure XC (K:Frag) (C:Addr):Prop where
 xi:xIn K C=true
 ga:findIn K (.ref C) "__getattribute__"=some (some (.builtin "BaseException.__getattribute__"))
 na:findIn K (.ref C) "__getattr__"=some none
 sa:findIn K (.ref C) "__setattr__"=some (some (.builtin "object.__setattr__"))
 cl:findIn K (.ref C) "__class__"=some (some (.builtin "object.__class__"))
 gt:specialIn K (.builtin "object.__class__") "__get__"=some (some (.builtin "getset_descriptor.__get__"))
 tk:takesIn K (.builtin "object.__class__")=some true
section
variable {prog:Program}{w:World}{A:Around}{E:Value->Shared->Prop}{s:Shared}{K:Frag}{C x:Addr}{ox:Obj}{od:Option Obj}
theorem qkk {Q:Option Value->Shared->Prop} (X:K.In s.heap) (I:InstAt s.heap x ox C od) (c:XC K C) (hn:specialIn K (.builtin "object.__class__") "__get__"=some (some (.builtin "getset_descriptor.__get__")))
   (htk:takesIn K (.builtin "object.__class__")=some true) (h:Q (some (.ref C)) { s with toks:=s.toks+1 }):wpAny (model prog w) A (getAttr? (.ref x) "__class__") Q E s:=by
 obtain⟨cd,bm,hcd,hmro,hxt,hdict⟩:=xcd c.xi
 have hf:findObj K C od "__class__"=some (.bind (.builtin "getset_descriptor.__get__") (.builtin "object.__class__")):=by
   unfold findObj;rw[hcd,Option.bind_some,c.cl,Option.bind_some];simp[hn,htk]
 have L1:=looks_find (M:=model prog w) X I hf;unfold getAttr? getAttrBy?;refine wpAny_bind (wpAny_mkText (wpAny_bind (wpAny_attempt (qgU (s:={ s with toks:=s.toks+1 }) X I c.xi c.ga c.na ?_))));unfold Builtin.«object.__getattribute__»;refine wpAny_bind (wpAny_pure (wpAny_bind (wpAny_pure (wpAny_bind (I.type.here (s:={ s with toks:=s.toks+1 }) (wpAny_bind (L1.here (s:={ s with toks:=s.toks+1 }) ?_)))))));show wpAny _ _ (holding [.builtin "object.__class__"] (call (.builtin "getset_descriptor.__get__") [.builtin "object.__class__",.ref x,.ref C]) >>= ret) _ _ _;refine wpAny_bind (wpAny_holding (wpAny_call (PySem.W.class_get (s:={ s with toks:=s.toks+1 }) (ox:=ox) (od:=od) X I (qmy c.xi (by decide +kernel)) ?_)));refine wpAny_pure ?_;exact PySem.W.handed_on rfl (wpAny_pure h)
theorem qiI {cc:Value}{dep:Int}{tk:Tok}{b:Bool}{Q:Fin->Shared->Prop} (X:K.In s.heap) (I:InstAt s.heap x ox C od) (c:XC K C) (hn:specialIn K (.builtin "object.__class__") "__get__"=some (some (.builtin "getset_descriptor.__get__")))
   (htk:takesIn K (.builtin "object.__class__")=some true)
   (hty:Looks (model prog w) s.heap (typeOf cc) (.type "type")) (his:Looks (model prog w) s.heap (isType cc) true)
   (hne:(Value.ref C == cc)=true->b=true) (hsub:Looks (model prog w) s.heap (isSubtype (.ref C) cc) b) (h:∀ t,Q (.done (.ret (.bool b))) { s with toks:=t }) :
   wpAny (model prog w) A (Builtin.«isinstance.nested» ⟨[.ref x,cc,.int dep tk],[]⟩) Q E s:=by
 obtain⟨cd,bm,hcd,hmro,hxt,hdict⟩:=xcd c.xi
 have hisD:Looks (model prog w) s.heap (isType (.ref C)) true:=by
   unfold clsIn at hcd;split at hcd
   · rename_i c' d' cd' sl' ho
     intro A' Q' E' s' k q;unfold isType loadHead;exact wpAny_bind (wpAny_loadPart (k _ _ (X _ _ ho)) (wpAny_pure q))
   · cases hcd
 obtain⟨h0,g,d,tt,os⟩:=s;have L0:=I.type (M:=model prog w);have LI:Looks (model prog w) h0 (isInstance (.ref x) cc) b:=L0.andThen hsub;unfold Builtin.«isinstance.nested»;refine wpAny_bind (L0.at ?_);by_cases hq:(Value.ref C == cc)=true
 · rw[if_pos hq];have hb:=hne hq;subst hb;exact wpAny_pure (M:=model prog w) (E:=E) (h tt)
 rw[if_neg hq];refine wpAny_bind (hty.at ?_);rw[if_pos (by decide)]
 k_delta "plainIsInstance"
 refine wpAny_bind (wpAny_bind (his.at ?_));simp only[Bool.not_true,Bool.false_eq_true,if_false];refine wpAny_bind (LI.at ?_)
 cases b with
 | true =>
   simp only[if_true]
   first
     | exact wpAny_pure (h tt)
     | exact wpAny_pure (wpAny_pure (h tt))
     | exact wpAny_bind (wpAny_pure (wpAny_pure (h tt)))
 | false =>
   simp only[Bool.false_eq_true,if_false];refine wpAny_bind (qkk X I c hn htk ?_);refine wpAny_bind (hisD.at ?_);simp only[Bool.not_true,Bool.false_eq_true,if_false];refine wpAny_bind (wpAny_rule ?_);refine hsub.at ?_
   first
     | exact wpAny_pure (h _)
     | exact wpAny_pure (wpAny_pure (h _))
     | exact wpAny_bind (wpAny_pure (wpAny_pure (h _)))
theorem qls {cc:Value}{b:Bool}{Q:Value->Shared->Prop} (X:K.In s.heap) (I:InstAt s.heap x ox C od) (c:XC K C) (hn:specialIn K (.builtin "object.__class__") "__get__"=some (some (.builtin "getset_descriptor.__get__")))
   (htk:takesIn K (.builtin "object.__class__")=some true)
   (hty:∀ (M:Model) h',K.In h'->Looks M h' (typeOf cc) (.type "type")) (his:∀ (M:Model) h',K.In h'->Looks M h' (isType cc) true)
   (hne:(Value.ref C == cc)=true->b=true) (hsub:∀ (M:Model) h',K.In h'->Looks M h' (isSubtype (.ref C) cc) b) (h:∀ t,Q (.bool b) { s with toks:=t }) :
   wpAny (model prog w) A (call (.builtin "isinstance") [.ref x,cc]) Q E s :=
 call_isinstance (S:=fun _ R s=>(K.In s.heap∧InstAt s.heap x ox C od)∧∀ t,R (.ok (.ret (.bool b))) { s with toks:=t })
   (fun _ _ _ _ _ hs=>isinstance_outer (qiI hs.1.1 hs.1.2 c hn htk (hty _ _ hs.1.1) (his _ _ hs.1.1) hne (hsub _ _ hs.1.1) hs.2) (by intro q;cases q)) ⟨⟨X,I⟩,h⟩
end
section
variable {X:Cx}{pins:List (Addr×Obj)}{σ:St}{H:Hp}{s:Shared}{h':Heap}
theorem Inv.two {x a:Addr}{o1 o2:HO}{t':Nat} (I:Inv X pins σ H s) (mu:Mut (H x)) (hp:s.heap.objs.size≤a) (k:∀ b u,b≠x->s.heap.get? b=some u->h'.get? b=some u) (hx:∃ u,h'.get? x=some u)
   (n1:ObjOk X.prog X.w (upd (upd H x o1) a o2) h' x o1) (n2:ObjOk X.prog X.w (upd (upd H x o1) a o2) h' a o2):Inv X pins σ (upd (upd H x o1) a o2) { s with heap:=h',toks:=t' }:=by
 have ha:H a=none:=I.hok.fresh hp;have ne:∀ b,H b=none->b≠x:=fun b n z=>by subst z;rw[n]at mu;exact mu
 have nm:∀ b u,H b=some u->¬ Mut (some u)->b≠x:=fun b u q n z=>by subst z;rw[q]at mu;exact n mu
 have old:∀ b u,H b=some u->¬ Mut (some u)->upd (upd H x o1) a o2 b=some u:=fun b u q n=>by rw[qh (qm q ha),qh (nm b u q n)];exact q
 refine I.un ⟨fun b u e n _ _=>k b u (ne b n) e,fun b u e n _ _=>⟨u.slots,k b u (ne b n) e⟩,fun b u e n _=>?_,fun b u e _=>?_,fun b xs e=>old b _ e fun z=>z,fun b o u e=>old b _ e fun z=>z,fun b ps e=>⟨#[],by rw[old b _ e fun z=>z];simp⟩⟩ fun b u e=>?_
 · rw[qh (Nat.ne_of_lt (Nat.lt_of_lt_of_le (Heap.lt_size e) hp)),qh (ne b n)];exact n
 · by_cases z:b=x
   · subst z;exact hx
   · exact⟨u,k b u z e⟩
 · by_cases z:b=a
   · subst z;rw[qd]at e;cases e;exact n2
   · rw[qh z]at e;by_cases z2:b=x
     · subst z2;rw[qd]at e;cases e;exact n1
     · rw[qh z2]at e;refine(I.hok b u e).stay (fun c v hc q=>?_) (fun c q=>old c _ q fun z=>z) fun c xs q=>old c _ q fun z=>z;rcases hc with hc|hc
       · subst hc;exact k c v z2 q
       · exact k c v (nm c _ hc fun z=>z) q
end
section
variable {X:Cx}{o e value:Expr}{es:List Expr}{f x:Str}{p apos pos pos' tpos:Pos}{ta tv:TE}{t:TA}{C fa:Addr}
structure XMk (K:Frag) (C f:Addr):Prop where
 c:XC K C
 init:findIn K (.ref C) "__init__"=some (some (.ref f))
 fn:isFn K (.ref f)=true
 kp:keepIn K (.ref C)=true
def qlz (C:Addr) (sp:Sp) (t:TA):TE:=fun σ H Q=>t σ H fun vs H1=>vs.length≤10∧∀ ea,H1 ea=none ->
 sp (.ref ea::vs) (upd H1 ea (.ext (ExO ea C none .none))) (fun v H2=>v=.non∧Q (.ref ea) H2) E0
theorem qhn {k:Nat}{fd:FuncData}{ps:List Str}{sp:Sp}{pins:List (Addr×Obj)}{σ:St}{H:Hp}{s:Shared}{Q:VK}{us:List Value}{vs:List V} (M:XMk X.K C fa) (F:qy X.prog X.w X.K X.mg X.base CX0 k fa fd ps sp)
   (hr:Room (k+1) X.A) (hb:Binds X.K fd ps []) (I:Inv X pins σ H s) (r:Vals vs us) (hl10:vs.length≤10)
   (h:∀ ea,H ea=none->sp (.ref ea::vs) (upd H ea (.ext (ExO ea C none .none))) (fun v H2=>v=.non∧Q (.ref ea) H2) E0) :
   wpAny (model X.prog X.w) X.A (call (.ref C) us) (EP X pins σ Q) X.xe s:=by
 have hq:=h (s.heap.objs.size+1) (I.hok.fresh (Nat.le_succ _));have hul:us.length≤sizeLine:=by rw[← r.length,sizeLine_eq];omega
 have kp:∀ b o,s.heap.get? b=some o->((s.heap.push { cls:=.type "tuple",data:=.seq us.toArray }).push (jv C s.heap.objs.size)).get? b=some o:=fun b o e=>Heap.get?_push_of_some _ (Heap.get?_push_of_some _ e);have hget:((s.heap.push { cls:=.type "tuple",data:=.seq us.toArray }).push (jv C s.heap.objs.size)).get? (s.heap.objs.size+1)=some (jv C s.heap.objs.size):=by heap_get
 have I2:Inv X pins σ (upd H (s.heap.objs.size+1) (.ext (ExO (s.heap.objs.size+1) C none .none))) { s with heap:=(s.heap.push { cls:=.type "tuple",data:=.seq us.toArray }).push (jv C s.heap.objs.size) } :=
   I.laid (t':=s.toks) kp (Nat.le_succ _) (qf8 ⟨_,_,hget,rfl,rfl,rfl,rfl,rfl⟩)
 have r2:Vals (V.ref (s.heap.objs.size+1)::vs) (Value.ref (s.heap.objs.size+1)::us):=.cons rfl r
 have hl:(Value.ref (s.heap.objs.size+1)::us++[]).length=ps.length:=by
   have e:=r2.length;rw[F.len _ _ _ _ hq]at e;rw[List.append_nil];exact e.symm
 obtain⟨hp,g,d,tk,os⟩:=s
 refine qlr I.kIn M.c.xi M.init (beq_iff_eq.mp M.fn) (wpAny_call (codeAny_mono (F.run _ X.stack _ _ ⟨Value.ref (hp.objs.size+1)::us,[]⟩ (Value.ref (hp.objs.size+1)::us) _ _ E0 (hr.make C us [])
   (I2.env0.make C us []) (by have:=hb _ (Value.ref (hp.objs.size+1)::us) I2.kIn hl;rw[List.append_nil]at this;exact this) r2 hq) fun r s' hq'=>?_)) hul
 cases r with
 | error e=>exact False.elim hq'
 | ok fl =>
   cases fl with
   | ret u =>
     obtain⟨v,H',I3,rv,ev,q3⟩:=I2.after hq';subst ev;exact⟨rv,⟨V.ref (hp.objs.size+1),H',I3,rfl,q3⟩⟩
   | next=>exact False.elim hq'
   | brk=>exact False.elim hq'
   | cont=>exact False.elim hq'
theorem qi5 {k:Nat}{fd:FuncData}{ps:List Str}{sp:Sp} (M:XMk X.K C fa) (F:qy X.prog X.w X.K X.mg X.base CX0 k fa fd ps sp) (hr:Room (k+1) X.A) (hg:Gl X x) (hm:X.mg x=some (.ref C)) (hb:Binds X.K fd ps [])
   (ha:PA X (e::es) t) (hdb:(x == ("__debug__":Str))=false:=by decide) (he:starEach (e::es) X.env=(false,eval e X.env)::starEach es X.env:=by rfl) (hpl:(backTo pos (starEach es X.env)).any (·.1)=false:=by rfl) :
   PE X (.Call (.Name x p) (e::es) [] pos) (qlz C sp t):=by
 intro pins s σ H Q I h;refine wpAny_Call_Name_kw (ZO I hg hm ?_ hdb);refine callWith_K (h₀:=X.base) I.ok.mod.kin M.kp (thn (ha pos pins s σ H _ I h) fun us s1 ⟨vs,H1,I1,r,q⟩=>⟨I1.kIn,?_⟩) he hpl;exact qhn M F hr hb I1 r q.1 q.2
inductive qfo (K:Frag) (E:XK) (x:V) (H1:Hp):Prop
 | mk (ea C dx:_) (h1:x=.ref ea) (h2:xIn K C=true) (h3:H1 ea=some (.ext (ExO ea C dx .none))) (h4:Sure E C ea dx H1):qfo K E x H1
def qlC (K:Frag) (E:XK) (te:TE):TS:=fun _ σ H=>te σ H fun x H1=>qfo K E x H1
theorem qi1 {E:XK}{te:TE} (th:Throws X E) (hc:X.calm=true) (he:PE X e te):PS X (.Raise (some e) none pos) (qlC X.K E te):=by
 intro pins s σ H D I h;rw[arm_exec_Raise];refine wpAny_bind (wpAny_standAt ?_);simp only[evalOpt,Option.map];refine qkj (I.ok.hd hc) (wpAny_bind (thn (he pins s σ H _ I h) fun u s1 ⟨x,H1,I1,rx,ea,C,dx,ex,xi,e1,sr⟩=>wpAny_bind (wpAny_standAt (wpAny_pure ?_))));subst ex;obtain rfl:u=Value.ref ea:=rx;obtain⟨⟨oe,vs,hx,hcl,hdx,hd,hz,h1⟩,_,_⟩:=(show ObjOk X.prog X.w H1 s1.heap ea (.ext (ExO ea C dx .none)) from I1.hok ea _ e1)
 exact⟨ea,C,oe,vs,X.K,rfl,I1.kIn,xi,hx,hcl,hd,h1,th pins σ H1 s1 ea C dx I1 ⟨.none,e1,.inl rfl⟩ sr⟩
inductive qfn (K:Frag) (Q:VK) (vs:List V) (H1:Hp):Prop
 | mk (ea C dx tb rest:_) (h1:vs=.ref ea::rest) (h2:rest.length≤10) (h3:H1 ea=some (.ext (ExO ea C dx tb))) (h4:xIn K C=true) (h5:Q .non H1):qfn K Q vs H1
def qlA (K:Frag) (t:TA):TE:=fun σ H Q=>t σ H fun vs H1=>qfn K Q vs H1
theorem qiL {H:Hp}{a:Addr}{o:HO} (h:H a=some o):upd H a o=H:=by
 funext b;unfold upd;split
 · rename_i e;rw[e,h]
 · rfl
theorem qgV:findCls [] (.type "ValueError") (.type "type") "__init__"=some (.val (.builtin "ValueError.__init__")):=by kernel_rfl
theorem qi6 {pl:Sem Bool} (hg:Gl X x) (hm:X.mg x=none) (hv:bootBuiltins x=some (.type "ValueError")) (ha:PA X (e::es) t) (hn:x≠"__name__":=by decide) (hdb:(x == ("__debug__":Str))=false:=by decide)
   (hst:starEach (e::es) X.env=(false,eval e X.env)::starEach es X.env:=by rfl) (hpl:(backTo pos (starEach es X.env)).any (·.1)=false:=by rfl)
   (ht:eval (.Call (.Attribute (.Name x p) "__init__" apos) (e::es) [] pos) X.env=(do
     let ov ← eval (.Name x p) X.env
     standAt apos.atName
     let (f,first) ← holding [ov] (getMethod ov "__init__" pl)
     callWith pos f first (backTo pos (starEach (e::es) X.env)) (backToKw pos (keywordEach [] X.env))):=by rfl) :
   PE X (.Call (.Attribute (.Name x p) "__init__" apos) (e::es) [] pos) (qlA X.K t):=by
 intro pins s σ H Q I h;refine PySem.W.methodCall_KW (pl:=pl) (qab I hg hm hv ?_ hn hdb) ht;obtain⟨m,F⟩:=I.fr;refine PySem.W.method_type (v:=.builtin "ValueError.__init__") F I.mod.kin (by kernel_rfl) (by decide +kernel) qgV rfl ?_;have I0:=I.tok (s.toks+1);refine PyProof.Rows.callWith_builtin1 (thn (ha pos pins _ σ H _ I0 h) fun us s1 zz_=>?_) hst hpl;obtain⟨vs,H1,I1,r,ea,C,dx,tb,rest,ev,hl,e1,xi,q⟩:=zz_;subst ev
 obtain⟨u0,us0,rfl,r0,r1⟩:∃ u0 us0,us=u0::us0∧RelV (.ref ea) u0∧Vals rest us0:=by
   cases r with
   | cons a b=>exact⟨_,_,rfl,a,b⟩
 obtain rfl:u0=Value.ref ea:=r0;obtain⟨⟨oe,vs,hx,hcl,hdx,hd,hz,h1⟩,_,_⟩:=(show ObjOk X.prog X.w H1 s1.heap ea (.ext (ExO ea C dx tb)) from I1.hok ea _ e1)
 refine qkl I1.kIn xi hx hcl hd hz (by rw[← r1.length,sizeLine_eq];omega) fun h' tp k1 k2=>⟨.non,H1,?_,rfl,q⟩
 have J:Inv X pins σ (upd H1 ea (.ext (ExO ea C dx tb))) { s1 with heap:=h',toks:=s1.toks }:=by
   refine I1.write (x:=ea) (e:=ea) (by rw[e1];exact True.intro) (.inl rfl) k1 ⟨_,k2⟩ (qf8 ⟨_,_,k2,(Obj.cls_mapFields _ _).trans hcl,?_,Obj.data_mapFields hd _,by simp[hz],?_⟩)
   · rw[← hdx];obtain⟨oc,od,odt,osl⟩:=oe;have hd':odt=.fields vs:=hd;subst hd';rfl
   · rw[Array.getElem?_setIfInBounds_ne (by decide)];exact h1
 rw[qiL e1]at J;exact J
structure qiF (K:Frag) (C f:Addr):Prop where
 sp:specialIn K (.ref C) "__getattribute__"=some (some (.builtin "type.__getattribute__"))
 rd:PySem.W.readsIn K C (.type "type")=true
 at_:findCls K (.ref C) (.type "type") "__init__"=some (.val (.ref f))
 kp:keepIn K (.ref f)=true
theorem Q2 {k:Nat}{fd:FuncData}{ps:List Str}{sp:Sp}{pl:Sem Bool} (c:qiF X.K C fa) (F:qy X.prog X.w X.K X.mg X.base CX0 k fa fd ps sp) (hr:Room k X.A) (hb:Binds X.K fd ps []) (hg:Gl X x) (hm:X.mg x=some (.ref C))
   (ha:PA X (e::es) t) (hdb:(x == ("__debug__":Str))=false:=by decide)
   (hst:starEach (e::es) X.env=(false,eval e X.env)::starEach es X.env:=by rfl) (hpl:(backTo pos (starEach es X.env)).any (·.1)=false:=by rfl)
   (ht:eval (.Call (.Attribute (.Name x p) "__init__" apos) (e::es) [] pos) X.env=(do
     let ov ← eval (.Name x p) X.env
     standAt apos.atName
     let (f,first) ← holding [ov] (getMethod ov "__init__" pl)
     callWith pos f first (backTo pos (starEach (e::es) X.env)) (backToKw pos (keywordEach [] X.env))):=by rfl) :
   PE X (.Call (.Attribute (.Name x p) "__init__" apos) (e::es) [] pos) (qlJ sp [] E0 t):=by
 intro pins s σ H Q I h;refine PySem.W.methodCall_KW (pl:=pl) (ZO I hg hm ?_ hdb) ht;refine PySem.W.method_cls I.kIn c.sp (PySem.W.cls_value I.kIn c.rd c.at_ rfl ?_);have I0:=I.tok (s.toks+1);refine callWith_K (h₀:=X.base) I.ok.mod.kin c.kp (thn (ha pos pins _ σ H _ I0 h) fun us s1 ⟨vs,H1,I1,r,q⟩=>⟨I1.kIn,?_⟩) hst hpl;exact qdU F hr hb .nil qo I1 r q
def qmT (K:Frag) (ta tv:TE) (f:Str):TS:=fun D σ H=>tv σ H fun y H1=>ta σ H1 fun x H2=>∃ ea C tb,x=.ref ea∧H2 ea=some (.ext (ExO ea C none tb))∧XC K C∧NoAttr K C f ∧
 ∀ dx,H2 dx=none->dx≠ea->D.nx σ (upd (upd H2 ea (.ext (ExO ea C (some dx) tb))) dx (.xd [(f,y)]))
theorem qkG (ha:PE X o ta) (hv:PE X value tv) (hs:swapsWith value (some (.Attribute o f pos')) pos.line X.env=pure false):PS X (.Assign [.Attribute o f pos'] value pos) (qmT X.K ta tv f):=by
 intro pins s σ H D I h;refine plainObj_wpAny_Assign_Attribute (thn (hv pins s σ H _ I h) fun u s1 ⟨y,H1,I1,ry,q⟩=>thn (ha pins s1 σ H1 _ I1 q) fun ov s2 zz_=>?_) hs;obtain⟨x,H2,I2,rx,ea,C,tb,ex,e1,c,n,q2⟩:=zz_;subst ex;obtain rfl:ov=Value.ref ea:=rx;obtain⟨⟨oe,vs,hx,hcl,hdx,hd,hz,h1⟩,_,_⟩:=(show ObjOk X.prog X.w H2 s2.heap ea (.ext (ExO ea C none tb)) from I2.hok ea _ e1)
 refine qmF I2.kIn c.xi hx hcl hd hdx c.sa n fun h' dx hp k1 k2 k3=>⟨σ,_,?_,q2 dx (I2.hok.fresh hp) (Nat.ne_of_gt (Nat.lt_of_lt_of_le (Heap.lt_size hx) hp))⟩
 refine I2.two (by rw[e1];exact True.intro) hp k3 ⟨_,k1⟩ (qf8 ⟨_,_,k1,hcl,rfl,hd,hz,h1⟩) ⟨_,k2,fun g=>?_⟩;by_cases z:g=f
 · subst z;simp[List.lookup];exact ry
 · have:(g == f)=false:=by simp[z]
   simp[List.lookup,this,z];exact True.intro
inductive qg3 (K:Frag) (f:Str) (Q:VK) (x:V) (H1:Hp):Prop
 | mk (ea C dx fs v:_) (h1:x=.ref ea) (h2:XAt H1 ea C (some dx)) (h3:H1 dx=some (.xd fs)) (h4:XC K C) (h5:NoAttr K C f) (h6:fs.lookup f=some v) (h7:Q v H1):qg3 K f Q x H1
def qkq (K:Frag) (ta:TE) (f:Str):TE:=fun σ H Q=>ta σ H fun x H1=>qg3 K f Q x H1
theorem qjE {pins:List (Addr×Obj)}{σ:St}{H:Hp}{s:Shared}{ea C dx:Addr}{fs:List (Str×V)} (I:Inv X pins σ H s) (x:XAt H ea C (some dx)) (hd:H dx=some (.xd fs)) :
   ∃ (ox od:Obj) (mA:Str->Option Value),InstAt s.heap ea ox C (some od)∧(∀ name,PySem.W.lookIn name od=some (mA name))∧∀ f,RelO (fs.lookup f) (mA f):=by
 obtain⟨tb,e1,_⟩:=x;obtain⟨⟨oe,vs,hx,hcl,hdx,hdt,hz,h1⟩,_,_⟩:=(show ObjOk X.prog X.w H s.heap ea (.ext (ExO ea C (some dx) tb)) from I.hok ea _ e1)
 obtain⟨mA,n,r⟩:=(show ObjOk X.prog X.w H s.heap dx (.xd fs) from I.hok dx _ hd)
 obtain⟨od,ho,hl⟩:=qej n;exact⟨oe,od,mA,⟨hx,hcl,by unfold notCls;rw[hdt],by rw[hdx];exact ho⟩,hl,r⟩
theorem qhx (he:PE X e ta) (hb:attributeBase e f X.env (eval e X.env)=eval e X.env):PE X (.Attribute e f pos) (qkq X.K ta f):=by
 intro pins s σ H Q I h;refine qiA hb (thn (he pins s σ H _ I h) fun u s1 zz_=>?_);obtain⟨x,H1,I1,rx,ea,C,dx,fs,v,ex,xa,hd,c,n,l,q⟩:=zz_;subst ex;obtain rfl:u=Value.ref ea:=rx;obtain⟨ox,od,mA,J,hl,r⟩:=qjE I1 xa hd;obtain⟨uv,hu,ru⟩:=RelO.some_of (v:=v) (o:=mA f) (by rw[← l];exact r f)
 have hh:hasDictIn X.K C=true:=by
   obtain⟨cd,bm,hcd,_,_,hdict⟩:=xcd c.xi;unfold hasDictIn;rw[hcd];exact hdict
 exact qmH I1.kIn J c.xi c.ga c.na (PySem.W.findObj_own hh n rfl (by rw[hl,hu])) (qes ru) ⟨v,H1,I1.tok _,ru,q⟩
def qiK (K:Frag) (C:Addr):V->Option Bool
 | .ref D=>if (clsIn K D).isSome && typeIn K (.ref D) == some (.type "type") then subIn K (.ref C) (.ref D) else none
 | .ty T=>if T == "ValueError" then some true else none
 | _=>none
inductive qjV (K:Frag) (xs:List V) (H:Hp) (Q:VK):Prop
 | mk (ea C dx fs c b:_) (h1:xs=[.ref ea,c]) (h2:XAt H ea C (some dx)) (h3:H dx=some (.xd fs)) (h4:XC K C) (h5:qiK K C c=some b) (h6:Q (.bl b) H):qjV K xs H Q
def qmD (K:Frag):List V->Hp->VK->Prop:=fun xs H Q=>qjV K xs H Q
theorem qdk:Zk X (.builtin "isinstance") (qmD X.K):=by
 intro pins s σ H xs us Q I r h;obtain⟨ea,C,dx,fs,c,b,rfl,xa,hd,xc,hi,q⟩:=h;obtain⟨u,w',rfl,ru,rw'⟩:=qgg r;cases (show u=Value.ref ea from ru);obtain⟨ox,od,mA,J,hl,_⟩:=qjE I xa hd
 cases c with
 | ref D =>
   cases (show w'=Value.ref D from rw');simp only[qiK]at hi;split at hi
   · rename_i hq
     simp only[Bool.and_eq_true,beq_iff_eq]at hq;obtain⟨q1,q2⟩:=hq;refine qls I.kIn J xc xc.gt xc.tk (b:=b) (fun _ h' X'=>PySem.W.looks_typeIn X' q2) (fun _ h' X'=>?_) (fun z=>?_) (fun _ h' X'=>PySem.W.looks_subIn X' hi) fun t=>⟨.bl b,H,I.tok t,rfl,q⟩
     · unfold clsIn at q1;split at q1
       · rename_i c' d' cd' sl' ho
         intro A' Q' E' s' k q;unfold isType loadHead;exact wpAny_bind (wpAny_loadPart (k _ _ (X' _ _ ho)) (wpAny_pure q))
       · cases q1
     · have z':C=D:=Value.ref.inj (beq_iff_eq.mp z);subst z';obtain⟨cd,bm,hcd,hmro,_,_⟩:=xcd xc.xi
       have e2:mroIn X.K C (.ref C)=some true:=by
         unfold mroIn;rw[hcd,Option.bind_some,hmro,if_neg (by simp)];simp
       have e3:subIn X.K (.ref C) (.ref C)=some true:=e2;rw[e3]at hi;exact(Option.some.inj hi).symm
   · cases hi
 | ty T =>
   cases (show w'=Value.type T from rw');simp only[qiK]at hi;split at hi
   · rename_i hq
     rw[beq_iff_eq]at hq;subst hq;cases hi;refine qls I.kIn J xc xc.gt xc.tk (b:=true) (fun _ h' X'=>Looks.of_pure (by kernel_rfl)) (fun _ h' X'=>Looks.of_pure rfl) (fun _=>rfl) (fun _ h' X'=>looks_mroIn X' (qmy xc.xi (by decide +kernel))) fun t=>⟨.bl true,H,I.tok t,rfl,q⟩
   · cases hi
 | non=>cases hi
 | bl _=>cases hi
 | int _=>cases hi
 | str _=>cases hi
 | byt _=>cases hi
 | flt _=>cases hi
end
abbrev qlf (X:Cx):Cx:={ X with xe:=fun _ _=>False }
abbrev qjh (X:Cx) (ea:Addr):Cx:={ X with A:=X.A.mark (some (.ref ea)),calm:=false,xe:=fun _ _=>False }
section
variable {X:Cx}{pins:List (Addr×Obj)}{σ:St}{H:Hp}{s:Shared}
theorem Inv.dead (I:Inv X pins σ H s):Inv (qlf X) pins σ H s:=by
 obtain⟨⟨a1,a2,a3,a4,a5,a6,a7,a8,a9,a10,a11,a12,a13,a14,a15,a16,a17,a18⟩,b1,b2,b3,b4,b5,b6,b7,b8,b9,b10⟩:=I;exact⟨⟨a1,a2,a3,a4,a5,a6,a7,a8,a9,a10,a11,a12,a13,a14,a15,a16,a17,a18⟩,b1,b2,b3,b4,b5,b6,b7,b8,b9,b10⟩
theorem Inv.live (I:Inv (qlf X) pins σ H s):Inv X pins σ H s:=by
 obtain⟨⟨a1,a2,a3,a4,a5,a6,a7,a8,a9,a10,a11,a12,a13,a14,a15,a16,a17,a18⟩,b1,b2,b3,b4,b5,b6,b7,b8,b9,b10⟩:=I;exact⟨⟨a1,a2,a3,a4,a5,a6,a7,a8,a9,a10,a11,a12,a13,a14,a15,a16,a17,a18⟩,b1,b2,b3,b4,b5,b6,b7,b8,b9,b10⟩
theorem Inv.mark (I:Inv X pins σ H s) (ea:Addr):Inv (qjh X ea) pins σ H s:=by
 obtain⟨⟨a1,a2,a3,a4,a5,a6,a7,a8,a9,a10,a11,a12,a13,a14,a15,a16,a17,a18⟩,b1,b2,b3,b4,b5,b6,b7,b8,b9,b10⟩:=I;exact⟨⟨a1,a2,a3,a4,a5,a6,a7,a8,fun z=>(nomatch z),a10,a11,a12,a13,a14,a15,a16,a17,a18⟩,b1,b2,b3,b4,b5,b6,b7,b8,b9,b10⟩
theorem Inv.unmark {ea:Addr}{A0:Prop} (k:X.Ok) (I:Inv (qjh X ea) pins σ H s):Inv X pins σ H s:=by
 obtain⟨_,b1,b2,b3,b4,b5,b6,b7,b8,b9,b10⟩:=I;exact⟨k,b1,b2,b3,b4,b5,b6,b7,b8,b9,b10⟩
theorem Inv.lose {h':Heap}{m':Str->Option Value}{t':Nat} (I:Inv X pins σ H s) (hn:h'.Ns X.env.locals m') (hs:Heap.SameBut X.env.locals s.heap h'):Inv X pins (List.replicate X.N.length none) H { s with heap:=h',toks:=t' }:=by
 have neL:∀ b o,X.s₀.heap.get? b=some o->b≠X.env.locals:=fun b o e=>Nat.ne_of_lt (Nat.lt_of_lt_of_le (Heap.lt_size e) I.ok.above);have up:∀ b o,b≠X.env.locals->s.heap.get? b=some o->h'.get? b=some o:=fun b o hb e=>(hs.2 b hb).trans e
 refine⟨I.ok,I.os,I.bare,⟨fun b o e n hb hx=>up b o (neL b o e) (I.base.keep b o e n hb hx),fun b o e n hb hx=>?_,I.base.free,fun b o e hx=>?_,I.base.tups,I.base.frzs,I.base.tbls⟩,
   ⟨m',hn,fun i x v _ e2 _=>?_⟩,fun x c e=>?_,I.free,I.freeC,fun p hp=>?_,fun b u e=>?_,by simp⟩
 · obtain⟨sl,q⟩:=I.base.slot b o e n hb hx;exact⟨sl,up b _ (neL b o e) q⟩
 · obtain⟨o',q⟩:=I.base.there b o e hx;exact⟨o',up b _ (neL b o e) q⟩
 · rw[List.getElem?_replicate]at e2;split at e2<;>cases e2
 · obtain⟨v,o,ho,hd⟩:=I.cell x c e;exact⟨v,o,up c o (I.cne x c e) ho,hd⟩
 · obtain⟨e,n,ne,nf,d⟩:=I.pin p hp;exact⟨up p.1 p.2 ne e,n,ne,nf,d⟩
 · refine(I.hok b u e).stay (fun c v hc q=>up c v (fun z=>?_) q) (fun _ q=>q) fun _ _ q=>q;rcases hc with hc|hc
   · rw[← hc,z,I.free]at e;cases e
   · rw[z,I.free]at hc;cases hc
end
section
variable {M:Model}{A:Around}{E:Value->Shared->Prop}{s:Shared}
theorem qgT {K:Frag}{C L x:Addr}{ox:Obj}{Q:Bool->Shared->Prop} (X:K.In s.heap) (xc:xIn K C=true) (xl:xIn K L=true) (hm:mroIn K C (.ref L)=some true) (hx:s.heap.get? x=some ox) (hc:ox.cls=.ref C)
   (h:Q true s):wpAny M A (excMatches (.ref x) (.ref L)) Q E s:=by
 obtain⟨hp,g,d,tk,os⟩:=s;obtain⟨nm,qn,N,bs,bm,sn,sub,ab,col,dd,k0,k1,k2,k3,k5,hC,hxt⟩:=qmz X xl;have hcB:(Value.ref L::bm).contains (.type "BaseException")=true:=by rw[List.contains_cons,Ql (v:=true) (by decide +kernel) hxt,Bool.or_true]
 have f:=tc_notTuple;have LL:=looks_mroIn (M:=M) X hm;unfold excMatches
 repeat (first
   | (with_reducible refine wpAny_loadPart_at hx ?_;rw[hc])
   | with_reducible refine wpAny_loadPart_at hC ?_
   | (with_reducible refine wpAny_isSubtype_exc hC ?_;rw[hcB])
   | (with_reducible refine LL.at ?_)
   | wp_step)
 exact h
end
abbrev XTE:=St->Hp->VK->XK->Prop
abbrev XTS:=qgS->XK->St->Hp->Prop
def qnf (X:Cx) (pins:List (Addr×Obj)) (σ:St) (E:XK) (Ex:Value->Shared->Prop):Prop :=
 ∀ (ea C:Addr) (dx:Option Addr) (H':Hp) (s':Shared),Inv X pins σ H' s'->XAt H' ea C dx->Sure E C ea dx H'->Ex (.ref ea) s'
def PEX (X:Cx) (e:Expr) (t:XTE):Prop :=
 ∀ (pins:List (Addr×Obj)) (s:Shared) (σ:St) (H:Hp) (Q:VK) (E:XK) (Ex:Value->Shared->Prop),Inv X pins σ H s->t σ H Q E->qnf X pins σ E Ex->wpAny (model X.prog X.w) X.A (eval e X.env) (EP X pins σ Q) Ex s
def PX (X:Cx) (st:List Stmt) (t:XTS):Prop :=
 ∀ (pins:List (Addr×Obj)) (s:Shared) (σ:St) (H:Hp) (D:qgS) (E:XK) (Ex:Value->Shared->Prop),Inv X pins σ H s->t D E σ H->qnf X pins σ E Ex->wpAny (model X.prog X.w) X.A (execs st X.env) (SP X pins D) Ex s
section
variable {X:Cx}{e o c:Expr}{es:List Expr}{a b:List Stmt}{x m:Str}{p pos apos:Pos}{ta:TE}{t:TA}{tc:TT}{f C:Addr}{fd:FuncData}{ps:List Str}{sp:Sp}{k:Nat}
theorem qfj {α:Type}{u:Sem α}{Q:α->Shared->Prop}{M:Model}{A:Around}{Ex:Value->Shared->Prop}{s:Shared} (h:wpAny M A u Q (fun _ _=>False) s):wpAny M A u Q Ex s:=wpAny_mono h (fun _ _ z=>z) fun _ _ z=>z.elim
theorem qky {pins:List (Addr×Obj)}{σ:St}{H:Hp}{s:Shared}{Q:VK}{E:XK}{Ex:Value->Shared->Prop}{us:List Value}{vs:List V} (F:qy X.prog X.w X.K X.mg X.base (CX1 X.prog X.w) k f fd ps sp) (hr:Room k X.A) (hb:Binds X.K fd ps [])
   (I:Inv X pins σ H s) (r:Vals vs us) (h:sp vs H Q E) (w:qnf X pins σ E Ex):wpAny (model X.prog X.w) X.A (call (.ref f) us) (EP X pins σ Q) Ex s:=by
 have hl:(us++[]).length=ps.length:=by rw[List.append_nil,← r.length];exact F.len _ _ _ _ h
 have hbb:=hb s us I.kIn hl;rw[List.append_nil]at hbb;refine wpAny_call (codeAny_mono (F.run X.A X.stack s H ⟨us,[]⟩ us vs Q E hr I.env0 hbb r h) fun r s' hq=>?_)
 cases r with
 | error e =>
   obtain⟨ea,C,dx,H',e1,os,bare,un,hok,x,q⟩:=hq;subst e1;exact w ea C dx H' s' (I.call' os un hok bare fun b z=>absurd z (by simp)) x q
 | ok fl =>
   cases fl with
   | ret u=>exact I.after hq
   | next=>exact False.elim hq
   | brk=>exact False.elim hq
   | cont=>exact False.elim hq
def qmJ (sp:Sp) (t:TA):XTE:=fun σ H Q E=>t σ H fun vs H1=>sp vs H1 Q E
theorem qi3 (F:qy X.prog X.w X.K X.mg X.base (CX1 X.prog X.w) k f fd ps sp) (hr:Room k X.A) (hg:Gl X x) (hm:X.mg x=some (.ref f)) (hk:keepIn X.K (.ref f)=true) (hb:Binds X.K fd ps [])
   (ha:PA (qlf X) (e::es) t) (hdb:(x == ("__debug__":Str))=false:=by decide) (he:starEach (e::es) X.env=(false,eval e X.env)::starEach es X.env:=by rfl) (hpl:(backTo pos (starEach es X.env)).any (·.1)=false:=by rfl) :
   PEX X (.Call (.Name x p) (e::es) [] pos) (qmJ sp t):=by
 intro pins s σ H Q E Ex I h w;refine wpAny_Call_Name_kw (ZO I hg hm ?_ hdb);refine callWith_K (h₀:=X.base) I.ok.mod.kin hk (thn (qfj (ha pos pins s σ H _ I.dead h)) fun us s1 ⟨vs,H1,I1,r,q⟩=>⟨I1.kIn,?_⟩) he hpl;exact qky F hr hb I1.live r q w
def qmI (te:XTE):XTS:=fun D E σ H=>te σ H (fun _ H1=>D.nx σ H1) E
theorem qkE {te:XTE} (he:PEX X e te) (hs:swapsWith e none pos.line X.env=pure false:=by rfl):PX X [.Expr e pos] (qmI te):=by
 intro pins s σ H D E Ex I h w;refine wpAny_execs_cons (wpAny_Expr_any (thn (he pins s σ H _ E Ex I h w) fun v s1 zz_=>?_) I.quiet hs);obtain⟨x,H1,I1,r1,q1⟩:=zz_;exact wpAny_execs_nil (show SP X pins D .next s1 from ⟨σ,H1,I1,q1⟩)
def qnJ (K:Frag) (LC:Addr) (i:Nat) (tb:XTS) (th:TS):TS:=fun D σ H=>tb D (fun Cv eo H'=>∃ C ea,Cv=.ref C∧eo=some ea∧xIn K C=true∧mroIn K C (.ref LC)=some true ∧
 th { nx:=fun _ _=>False,rt:=D.rt } (σ.set i (some (.ref ea))) H') σ H
theorem qlX {body suite:List Stmt}{b₀:Stmt}{lx n:Str}{np hpos:Pos}{i:Nat}{LC:Addr}{tb:XTS}{th:TS} (hst:X.stack=X.env::X.outer) (hfr:X.env.frame=some X.env.locals)
   (hb:PX X body tb) (hg:Gl X lx) (hm:X.mg lx=some (.ref LC)) (xl:xIn X.K LC=true) (hN:X.N.Nodup) (hi:X.N[i]?=some n) (hx:Loc X.env.scope n) (hloc:X.env.kindOf n=some .local)
   (hh:∀ ea,PSs (qjh X ea) (b₀::suite) th) (hdb:(lx == ("__debug__":Str))=false:=by decide) (hf:X.fn n=true∨X.env.scope.names.lookup n=some .local:=by first|exact .inl rfl|exact .inr rfl) :
   PS X (.Try body [.ExceptHandler (some (.Name lx np)) (some n) (b₀::suite) hpos] [] [] pos) (qnJ X.K LC i tb th):=by
 intro pins s σ H D I h;refine wpAny_Try_except ?_;refine wpAny_mono (hb pins s σ H D _ (fun e s₁=>wpAny (model X.prog X.w) X.A (noteFrame e X.env) (fun _ s₂=>wpAny (model X.prog X.w) X.A (setFlight e none) (fun _ s₃=>wpAny (model X.prog X.w) X.A (handleBy e X.env [.ExceptHandler (some (.Name lx np)) (some n) (b₀::suite) hpos]) (SP X pins D) X.xe s₃) X.xe s₂) X.xe s₁) I h ?_)
   (fun f s1 q=>?_) fun e s1 q=>q
 · intro ea C dx H' s' J xa sr;refine qhT J hst hfr J.ok.frames xa fun s2 T hT hne J2=>?_;obtain⟨C1,ea1,e1,e2,xc,hmr,q⟩:=sr _ (fun b o hb e=>qbn hT hb e) (qhV hT hne);cases e1;cases e2;have tb1:Zj H' ea C dx T ea=some (.ext (ExO ea C dx (.ref T))):=by unfold Zj;rw[qh (Ne.symm hne),qd]
   have tb2:Zj H' ea C dx T T=some (.ext (TbO T)):=by unfold Zj;rw[qd]
   obtain⟨⟨oe,vs,hx1,hcl,hdx,hd,hz,h1⟩,_,_⟩:=(show ObjOk X.prog X.w _ s2.heap ea (.ext (ExO ea C dx (.ref T))) from J2.hok ea _ tb1)
   obtain⟨⟨oT,ts,hT1,hTd,hT3⟩,_,_⟩:=(show ObjOk X.prog X.w _ s2.heap T (.ext (TbO T)) from J2.hok T _ tb2)
   have JM:=J2.mark ea;refine wpAny_handleBy_cons (codeAny_handlers_test (ZO (X:=qjh X ea) JM hg hm ?_ hdb)) (by intro z;cases z);refine qgT J2.kIn xc xl hmr hx1 hcl ?_;refine codeAny_handlers_suite_as ?_;unfold setFlight;refine wpAny_bind (wpAny_field hx1 hd h1 ?_);rw[if_pos (show (Value.ref T != Value.none)=true from by simp)];refine wpAny_setField hT1 hTd (Array.getElem?_eq_some_iff.mp hT3).1 ?_;rw[show s2.heap.update T (Obj.mapFields (·.setIfInBounds 3 ((none:Option Addr).elim Value.none fun f=>rawInt f)))=s2.heap from Heap.update_setField_same s2.heap T oT ts 3 Value.none hT1 hTd hT3];refine jG (v:=.ref ea) J2 hN hi hx rfl (fun s3 J3=>?_) hf;refine wpAny_mono (hh ea pins s3 _ _ _ (J3.mark ea) q) (fun fl s4 q4=>?_) fun _ _ z=>z.elim
   cases fl with
   | next=>obtain⟨_,_,_,z⟩:=q4;exact z.elim
   | brk=>obtain⟨_,_,_,z⟩:=q4;exact z.elim
   | cont=>obtain⟨_,_,_,z⟩:=q4;exact z.elim
   | ret u =>
     obtain⟨v,σ',H4,J4,rv,z⟩:=q4;have J5:=Inv.unmark (A0:=True) J2.ok J4;obtain⟨m,hn,_⟩:=J5.loc;refine wpAny_nameGoes hloc hn (by rw[J2.ok.kind];rfl) fun h' m' hn' hs'=>?_;exact⟨v,_,H4,J5.lose hn' hs',rv,z⟩
 · cases f with
   | next=>exact wpAny_execs_nil q
   | ret v=>exact q
   | brk=>exact q
   | cont=>exact q
end
def qk4 (v:Value):Bool:=match v with
 | .type s=>s == "type"
 | _=>false
def qk5 (v:Option Value):Bool:=match v with
 | some (.builtin s)=>s == "ValueError.__new__"
 | _=>false
def qm0 (C:Addr) (l:List Value):Bool:=match l with
 | .ref C1::bm=>C1 == C && qac bm
 | _=>false
def xOb (C:Addr) (o:Obj):Bool:=match o.data with
 | .cls cd=>qk4 o.cls && qm0 C cd.mro && !cd.hasDel && cd.hasDict && o.slots.size == 6 && qk5 (o.slots.getD 4 none)
 | _=>false
theorem qjl {v:Value} (h:qk4 v=true):v=.type "type":=by
 cases v with
 | type s=>rw[eq_of_beq (show (s == "type")=true from h)]
 | _=>cases h
theorem qjm {v:Option Value} (h:qk5 v=true):v=some (.builtin "ValueError.__new__"):=by
 cases v with
 | none=>cases h
 | some v =>
   cases v with
   | builtin s=>rw[eq_of_beq (show (s == "ValueError.__new__")=true from h)]
   | _=>cases h
theorem qkX {C:Addr}{l:List Value} (h:qm0 C l=true):∃ bm,l=.ref C::bm∧qac bm=true:=by
 cases l with
 | nil=>cases h
 | cons v bm =>
   cases v with
   | ref C1 =>
     have h':(C1 == C && qac bm)=true:=h;rw[Bool.and_eq_true]at h';exact⟨bm,by rw[eq_of_beq h'.1],h'.2⟩
   | _=>cases h
theorem six {α:Type}{l:List α} (h:l.length=6):∃ a b c d e f,l=[a,b,c,d,e,f]:=by
 obtain⟨a,l,rfl⟩:=List.exists_cons_of_length_eq_add_one h;obtain⟨b,l,rfl⟩:=List.exists_cons_of_length_eq_add_one (Nat.succ.inj h);obtain⟨c,l,rfl⟩:=List.exists_cons_of_length_eq_add_one (Nat.succ.inj (Nat.succ.inj h));obtain⟨d,l,rfl⟩:=List.exists_cons_of_length_eq_add_one (Nat.succ.inj (Nat.succ.inj (Nat.succ.inj h)));obtain⟨e,l,rfl⟩:=List.exists_cons_of_length_eq_add_one (Nat.succ.inj (Nat.succ.inj (Nat.succ.inj (Nat.succ.inj h))));obtain⟨f,l,rfl⟩:=List.exists_cons_of_length_eq_add_one (Nat.succ.inj (Nat.succ.inj (Nat.succ.inj (Nat.succ.inj (Nat.succ.inj h)))))
 have:l=[]:=List.eq_nil_of_length_eq_zero (Nat.succ.inj (Nat.succ.inj (Nat.succ.inj (Nat.succ.inj (Nat.succ.inj (Nat.succ.inj h))))))
 subst this;exact⟨a,b,c,d,e,f,rfl⟩
theorem xIn_of {K:Frag}{C:Addr}{o:Obj} (h:K.lookup C=some o) (q:xOb C o=true):xIn K C=true:=by
 obtain⟨oc,dd,od,⟨sl⟩⟩:=o
 cases od with
 | cls cd =>
   have q':(qk4 oc && qm0 C cd.mro && !cd.hasDel && cd.hasDict && sl.length == 6 && qk5 ((Array.mk sl).getD 4 none))=true:=q;simp only[Bool.and_eq_true,beq_iff_eq,Bool.not_eq_true']at q';obtain⟨⟨⟨⟨⟨q0,q1⟩,q2⟩,q3⟩,q4⟩,q5⟩:=q';obtain⟨bm,hm,hx⟩:=qkX q1;obtain⟨k0,k1,k2,k3,k4,k5,rfl⟩:=six q4;have e4:k4=some (.builtin "ValueError.__new__"):=qjm q5;have e0:=qjl q0;obtain⟨nm,bs,mro,ns,qn,hdc,sn,sub,ab,col,del⟩:=cd;dsimp only at hm q2 q3;subst hm q2 q3 e4 e0;exact xIn_iff.mpr ⟨nm,qn,ns,bs,bm,sn,sub,ab,col,dd,k0,k1,k2,k3,k5,h,hx⟩
 | _=>cases q
theorem xIsa_of {K:Frag}{C D:Addr}{b:Bool} (h1:isClsIn K D=true) (h2:typeIn K (.ref D)=some (.type "type")) (h3:subIn K (.ref C) (.ref D)=some b):qiK K C (.ref D)=some b:=by
 unfold qiK;have h1':(clsIn K D).isSome=true:=h1;simp only[h1',h2,Bool.true_and,beq_self_eq_true,if_true];exact h3
theorem qev {P:Program}{w:World}{X:Cx}:jw (CX1 P w) X E0:=fun _ _ _ _ _ _ _ ⟨_,_,_,H',_,_,_,_,_,x,q⟩=>(q H' (fun _ _ _ e=>e) x).elim
def Rz (C:Addr) (f:Str) (v:V) (H:Hp) (E:XK):Prop:=∀ (ea dx:Addr) (H':Hp),Same H H'->H ea=none->H dx=none->H' dx=some (.xd [(f,v)])->XAt H' ea C (some dx)->E (.ref C) (some ea) H'
theorem Rz.sure {C:Addr}{f:Str}{v:V}{H:Hp}{E:XK} (h:Rz C f v H E) {ea dx:Addr}{tb:Value} (n1:H ea=none) (n2:H dx=none) (ne:dx≠ea) :
   Sure E C ea (some dx) (upd (upd (upd H ea (.ext (ExO ea C none .none))) ea (.ext (ExO ea C (some dx) tb))) dx (.xd [(f,v)])):=by
 intro H' k x;refine h ea dx H' (fun b o e=>k b o (qm e n1) ?_) n1 n2 (k dx _ ne qd) x;rw[qh (qm e n2),qh (qm e n1),qh (qm e n1)];exact e
section
variable {P:Program}{w:World}{K:Frag}{mg:Str->Option Value}{base:Heap}
theorem Fun.okX {x qual:Str}{st:Stmt}{f:Addr}{fd:FuncData}{N ps:List Str}{k:Nat}{sp:Sp} (F:Fun K x qual st f fd) (S:ql N ps (qg st)) (len:∀ vs H Q E,sp vs H Q E->vs.length=ps.length)
   (hbody:∀ (cdv:Value) (A:Around) (outer:List Env) (s:Shared) (H:Hp) (vs:List V) (Q:VK) (E:XK),Room k (A.deeper (envOfC qual (qg st) s.heap.objs.size f cdv))->sp vs H Q E ->
     ∃ t,PSs (ze (CX1 P w) P w K mg base N qual (qg st) f cdv A outer s H E) (Qe st) t∧t { nx:=fun _ H'=>Q .non H',rt:=Q } (qcz N vs) H):qy P w K mg base (CX1 P w) (k+1) f fd ps sp:=by
 obtain⟨oc,od,kV,doc,pm,an,cdv,ct,osl,rfl,lk,hcd⟩:=F.ex;exact qmr lk hcd S len fun A outer s H vs Q E hr hsp=>hbody cdv A outer s H vs Q E hr hsp
end
theorem qgd (zs:List V) (n:Nat) (k:Int) (hk:k=(n:Int)):qew zs none (some k)=zs.take n:=by
 subst hk;unfold qew;rw[HT.sIx_none,HT.sIx_nat,Nat.sub_zero,List.drop_zero];by_cases h:n≤zs.length
 · rw[Nat.min_eq_left h]
 · rw[Nat.min_eq_right (by omega),List.take_of_length_le (Nat.le_refl _),List.take_of_length_le (by omega)]
theorem qdj (zs:List V) (n:Nat) (k:Int) (hk:k=(n:Int)):qew zs (some k) none=zs.drop n:=by
 subst hk;unfold qew;rw[HT.sIx_none,HT.sIx_nat];by_cases h:n≤zs.length
 · rw[Nat.min_eq_left h,List.take_of_length_le (by rw[List.length_drop];exact Nat.le_refl _)]
 · rw[Nat.min_eq_right (by omega),List.drop_of_length_le (Nat.le_refl _),List.drop_of_length_le (by omega),List.take_nil]
def qmV:Value->Option Addr
 | .ref a=>some a
 | _=>none
theorem qho (D:Addr):∀ l:List Value,l.contains (.ref D)=(l.map qmV).contains (some D)
 | []=>rfl
 | v::l=>by
   rw[List.map_cons,List.contains_cons,List.contains_cons,qho D l];congr 1
   cases v with
   | ref c =>
     show (Value.ref D == Value.ref c)=(some D == some c);by_cases e:D=c
     · subst e;simp
     · rw[beq_eq_false_iff_ne.mpr (fun z=>e (Value.ref.inj z)),beq_eq_false_iff_ne.mpr (fun z=>e (Option.some.inj z))]
   | _=>rfl
def XMro (K:Frag) (C:Addr) (l:List (Option Addr)):Prop:=∃ cd,clsIn K C=some cd∧cd.mro.map qmV=l
def qmc (l:List (Option Addr)) (o:Obj):Bool:=match o.data with
 | .cls cd=>cd.mro.map qmV == l
 | _=>false
theorem XMro.of {K:Frag}{C:Addr}{o:Obj}{l:List (Option Addr)} (h:K.lookup C=some o) (q:qmc l o=true):XMro K C l:=by
 obtain⟨oc,od,odt,osl⟩:=o;unfold qmc at q
 cases odt with
 | cls cd =>
   refine⟨cd,?_,eq_of_beq q⟩;unfold clsIn;rw[h]
 | _=>cases q
def qiE (K:Frag) (D:Addr):Prop:=isClsIn K D=true∧typeIn K (.ref D)=some (.type "type")
theorem qiJ {K:Frag}{C D:Addr}{l:List (Option Addr)} (m:XMro K C l) (hl:l≠[]) (d:qiE K D):qiK K C (.ref D)=some (l.contains (some D)):=by
 obtain⟨cd,h1,h2⟩:=m;refine xIsa_of d.1 d.2 ?_;show mroIn K C (.ref D)=_;unfold mroIn;rw[h1,Option.bind_some,if_neg,qho,h2];intro z;rw[List.isEmpty_iff]at z;rw[z]at h2;exact hl h2.symm
end L2
namespace Srt
open PySem PySem.W PyProof.Rows
def RunP {α:Type} (lt:Nat->Nat->Bool) (n:Nat):KasT α->(α->Prop)->Prop
 | .ret a,P=>P a
 | .ask i j k,P=>i < n∧j < n∧RunP lt n (k (lt i j)) P
section
variable {lt:Nat->Nat->Bool}{n:Nat}
theorem RunP.bind {α β:Type}{f:α->KasT β}{P:β->Prop}:∀ {t:KasT α},RunP lt n t (fun a=>RunP lt n (f a) P)->RunP lt n (t.bind f) P
 | .ret _,h=>h
 | .ask i j k,h=>⟨h.1,h.2.1,RunP.bind (t:=k (lt i j)) h.2.2⟩
theorem RunP.mono {α:Type}{P P':α->Prop} (hp:∀ a,P a->P' a):∀ {t:KasT α},RunP lt n t P->RunP lt n t P'
 | .ret _,h=>hp _ h
 | .ask i j k,h=>⟨h.1,h.2.1,RunP.mono hp (t:=k (lt i j)) h.2.2⟩
theorem RunP.wp {α:Type}{cmp:Nat->Nat->(Bool->Shared->Prop)->Shared->Prop}{Q:α->Shared->Prop}{P:α->Prop}{s:Shared} (hc:∀ i j (C:Bool->Shared->Prop),i < n->j < n->C (lt i j) s->cmp i j C s) (hq:∀ a,P a->Q a s):∀ {t:KasT α},RunP lt n t P->t.kasWp cmp Q s
 | .ret _,h=>hq _ h
 | .ask i j k,h=>hc i j _ h.1 h.2.1 (RunP.wp hc hq (t:=k (lt i j)) h.2.2)
theorem RunP.ite {α:Type}{c:Prop} [Decidable c] {t u:KasT α}{P:α->Prop} (h1:c->RunP lt n t P) (h2:¬ c->RunP lt n u P):RunP lt n (if c then t else u) P:=by
 by_cases h:c
 · rw[if_pos h];exact h1 h
 · rw[if_neg h];exact h2 h
def Bd (n:Nat) (p:Array Nat):Prop:=∀ x,p.getD x 0 < n
theorem qbw {p q:Array Nat}{x y:Nat} (h:p[x]?=q[y]?):p.getD x 0=q.getD y 0:=by
 simp only[Array.getD_eq_getD_getElem?,h]
theorem qcd {p:Array Nat}{i j:Nat} (hj:j≤p.size) (x:Nat):(kas_rev p i j).getD x 0=if i≤x∧x < j then p.getD (i+j - 1 - x) 0 else p.getD x 0:=by
 have h:=getElem?_mirror_all (xs:=p) (i:=i) hj x;by_cases c:i≤x∧x < j
 · rw[if_pos c]at h ⊢;exact qbw h
 · rw[if_neg c]at h ⊢;exact qbw h
theorem Bd.rev {p:Array Nat}{i j:Nat} (h:Bd n p) (hj:j≤p.size):Bd n (kas_rev p i j):=fun x=>by
 rw[qcd hj];split<;>exact h _
theorem qiu {p:Array Nat}{k d:Nat} (hk:k < p.size) (hd:d≤k) (x:Nat):(bubble p k d).getD x 0=if x=k - d then p.getD k 0 else if k - d < x∧x≤k then p.getD (x - 1) 0 else p.getD x 0:=by
 have h:=getElem?_bubble (xs:=p) hk d hd x;by_cases c:x=k - d
 · rw[if_pos c]at h ⊢;exact qbw h
 · rw[if_neg c]at h ⊢;by_cases c2:k - d < x∧x≤k
   · rw[if_pos c2]at h ⊢;exact qbw h
   · rw[if_neg c2]at h ⊢;exact qbw h
theorem Bd.bub {p:Array Nat}{k d:Nat} (h:Bd n p) (hk:k < p.size) (hd:d≤k):Bd n (bubble p k d):=fun x=>by
 rw[qiu hk hd];by_cases c:x=k - d
 · rw[if_pos c];exact h _
 · rw[if_neg c];by_cases c2:k - d < x∧x≤k
   · rw[if_pos c2];exact h _
   · rw[if_neg c2];exact h _
structure Ord (lt:Nat->Nat->Bool):Prop where
 tr:∀ a b c,lt b a=false->lt c b=false->lt c a=false
 asy:∀ a b,lt a b=true->lt b a=false
theorem Ord.irr (O:Ord lt) (a:Nat):lt a a=false:=by
 cases h:lt a a with
 | false=>rfl
 | true=>rw[← h];exact O.asy _ _ h
def Up (lt:Nat->Nat->Bool) (p:Array Nat) (k:Nat):Prop:=∀ x,x+1 < k->lt (p.getD (x+1) 0) (p.getD x 0)=false
def Dn (lt:Nat->Nat->Bool) (p:Array Nat) (k:Nat):Prop:=∀ x,x+1 < k->lt (p.getD x 0) (p.getD (x+1) 0)=false
def Eqv (lt:Nat->Nat->Bool) (a b:Nat):Prop:=lt a b=false∧lt b a=false
theorem Eqv.not (O:Ord lt) {a a' b b':Nat} (h1:Eqv lt a a') (h2:Eqv lt b b') (h:lt a b=false):lt a' b'=false:=O.tr _ _ _ (O.tr _ _ _ h2.1 h) h1.2
theorem Up.le (O:Ord lt) {p:Array Nat}{k:Nat} (h:Up lt p k) {x:Nat}:∀ d,x+d < k->lt (p.getD (x+d) 0) (p.getD x 0)=false
 | 0,_=>O.irr _
 | d+1,hd=>O.tr _ _ _ (Up.le O h d (by omega)) (h (x+d) (by omega))
theorem qiB (p:Array Nat) (hb:Bd n p):∀ (f m:Nat),1≤m->Up lt p m->RunP lt n (kas_asc p f m) fun r=>m≤r∧r≤m+f∧Up lt p r∧(r < m+f->lt (p.getD r 0) (p.getD (r - 1) 0)=true)
 | 0,m,_,hu=>⟨Nat.le_refl _,Nat.le_refl _,hu,fun h=>absurd h (by omega)⟩
 | f+1,m,h1,hu=>by
   refine⟨hb _,hb _,RunP.ite (fun c=>?_) (fun c=>?_)⟩
   · exact⟨Nat.le_refl _,by omega,hu,fun _=>c⟩
   · have c:lt (p.getD m 0) (p.getD (m - 1) 0)=false:=by simpa using c
     refine RunP.mono (fun r h=>?_) (qiB p hb f (m+1) (by omega) (fun x hx=>?_))
     · exact⟨by omega,by omega,h.2.2.1,fun z=>h.2.2.2 (by omega)⟩
     · by_cases e:x+1=m
       · have e1:x=m - 1:=by omega
         rw[e1,show m - 1+1=m by omega];exact c
       · exact hu x (by omega)
def Blk (lt:Nat->Nat->Bool) (p:Array Nat) (m q:Nat):Prop:=q+1≤m∧∀ x,m - (q+1)≤x->x < m->Eqv lt (p.getD x 0) (p.getD (m - 1) 0)
theorem Blk.rev (O:Ord lt) {p:Array Nat}{m q:Nat} (hm:m≤p.size) (h:Blk lt p m q) (x:Nat) (hx:x < m):Eqv lt (p.getD x 0) ((kas_rev p (m - (q+1)) m).getD x 0):=by
 rw[qcd hm];by_cases c:m - (q+1)≤x∧x < m
 · rw[if_pos c];have h1:=h.2 x c.1 c.2;have hq:=h.1;have h2:=h.2 (m - (q+1)+m - 1 - x) (by omega) (by omega);exact⟨O.tr _ _ _ h2.2 h1.1,O.tr _ _ _ h1.2 h2.1⟩
 · rw[if_neg c];exact⟨O.irr _,O.irr _⟩
theorem Dn.eqv (O:Ord lt) {p p':Array Nat}{m:Nat} (h:Dn lt p m) (e:∀ x,x < m->Eqv lt (p.getD x 0) (p'.getD x 0)):Dn lt p' m:=fun x hx=>(e x (by omega)).not O (e (x+1) hx) (h x hx)
theorem qdi (O:Ord lt):∀ (f:Nat) (p:Array Nat) (m q:Nat),Bd n p->1≤m->m+f≤p.size->Dn lt p m->Blk lt p m q->RunP lt n (kas_desc f p m q) fun r =>
   Bd n r.1∧r.1.Perm p∧r.1.size=p.size∧m≤r.2.1∧r.2.1≤m+f∧Dn lt r.1 r.2.1∧Blk lt r.1 r.2.1 r.2.2
 | 0,p,m,q,hb,h1,hs,hd,bl=>⟨hb,Array.Perm.refl _,rfl,Nat.le_refl _,Nat.le_refl _,hd,bl⟩
 | f+1,p,m,q,hb,h1,hs,hd,bl=>by
   have one:∀ p':Array Nat,p'.getD m 0=p'.getD (m+1 - 1) 0:=fun p'=>rfl;refine⟨hb _,hb _,RunP.ite (fun c=>RunP.ite (fun hq=>?_) (fun hq=>?_)) (fun c=>⟨hb _,hb _,RunP.ite (fun d=>?_) (fun d=>?_)⟩)⟩
   · have hm:m≤p.size:=by omega
     have ev:=bl.rev O hm;have sz:(kas_rev p (m - (q+1)) m).size=p.size:=kas_rev_size _ _;have out:(kas_rev p (m - (q+1)) m).getD m 0=p.getD m 0:=by rw[qcd hm,if_neg (by omega)]
     refine RunP.mono (fun r h=>?_) (qdi O f (kas_rev p (m - (q+1)) m) (m+1) 0 (hb.rev hm) (by omega) (by omega) (fun x hx=>?_) ⟨by omega,fun x h0 h2=>?_⟩)
     · exact⟨h.1,h.2.1.trans (mirror_perm _ _ _ _),by rw[h.2.2.1,sz],by omega,by omega,h.2.2.2.2.2.1,h.2.2.2.2.2.2⟩
     · by_cases e:x+1=m
       · have e1:x=m - 1:=by omega
         subst e1;rw[show m - 1+1=m by omega,out];exact(ev (m - 1) (by omega)).not O ⟨O.irr _,O.irr _⟩ (O.asy _ _ c)
       · exact hd.eqv O ev x (by omega)
     · have e:x=m:=by omega
       subst e;exact⟨O.irr _,O.irr _⟩
   · refine RunP.mono (fun r h=>?_) (qdi O f p (m+1) 0 hb (by omega) (by omega) (fun x hx=>?_) ⟨by omega,fun x h0 h2=>?_⟩)
     · exact⟨h.1,h.2.1,h.2.2.1,by omega,by omega,h.2.2.2.2.2.1,h.2.2.2.2.2.2⟩
     · by_cases e:x+1=m
       · have e1:x=m - 1:=by omega
         subst e1;rw[show m - 1+1=m by omega];exact O.asy _ _ c
       · exact hd x (by omega)
     · have e:x=m:=by omega
       subst e;exact⟨O.irr _,O.irr _⟩
   · exact⟨hb,Array.Perm.refl _,rfl,Nat.le_refl _,(by show m≤m+(f+1);omega),hd,bl⟩
   · have c:lt (p.getD m 0) (p.getD (m - 1) 0)=false:=by simpa using c
     have d:lt (p.getD (m - 1) 0) (p.getD m 0)=false:=by simpa using d
     refine RunP.mono (fun r h=>?_) (qdi O f p (m+1) (q+1) hb (by omega) (by omega) (fun x hx=>?_) ⟨by have:=bl.1;omega,fun x h0 h2=>?_⟩)
     · exact⟨h.1,h.2.1,h.2.2.1,by omega,by omega,h.2.2.2.2.2.1,h.2.2.2.2.2.2⟩
     · by_cases e:x+1=m
       · have e1:x=m - 1:=by omega
         subst e1;rw[show m - 1+1=m by omega];exact d
       · exact hd x (by omega)
     · show Eqv lt (p.getD x 0) (p.getD m 0);by_cases e:x=m
       · rw[e];exact⟨O.irr _,O.irr _⟩
       · have:=bl.2 x (by omega) (by omega)
         exact⟨O.tr _ _ _ d this.1,O.tr _ _ _ this.2 c⟩
theorem Dn.rev {p:Array Nat}{m:Nat} (h:Dn lt p m) (hm:m≤p.size):Up lt (kas_rev p 0 m) m:=fun x hx=>by
 rw[qcd hm,qcd hm,if_pos ⟨Nat.zero_le _,by omega⟩,if_pos ⟨Nat.zero_le _,by omega⟩]
 have:=h (m - 2 - x) (by omega)
 rw[show m - 2 - x+1=0+m - 1 - x by omega]at this;rw[show 0+m - 1 - (x+1)=m - 2 - x by omega];exact this
def Cnt (lt:Nat->Nat->Bool) (n N:Nat) (p:Array Nat) (r:Nat×Array Nat):Prop:=Bd n r.2∧r.2.Perm p∧r.2.size=p.size∧1≤r.1∧r.1≤N∧Up lt r.2 r.1
theorem qfm {N m:Nat}{p:Array Nat} (hb:Bd n p) (h1:1≤m) (hm:m≤N) (hs:N≤p.size) (hd:Dn lt p m):RunP lt n (kas_tail3 m N p) (Cnt lt n N p):=by
 unfold kas_tail3;refine RunP.bind (RunP.mono (fun r h=>?_) (qiB (kas_rev p 0 m) (hb.rev (by omega)) (N - m) m h1 (hd.rev (by omega))));exact⟨hb.rev (by omega),mirror_perm _ _ _ _,kas_rev_size _ _,by omega,by omega,h.2.2.1⟩
theorem qbB (O:Ord lt) {N m:Nat}{p:Array Nat} (hb:Bd n p) (h1:1≤m) (hm:m < N) (hs:N≤p.size) (hd:Dn lt p (m+1)):RunP lt n (kas_descPart m N p) (Cnt lt n N p):=by
 unfold kas_descPart
 refine RunP.bind (RunP.mono (fun r h=>?_) (qdi O (N - (m+1)) p (m+1) 0 hb (by omega) (by omega) hd ⟨by omega,fun x h0 h2=>by
   have e:x=m:=by omega
   subst e
   exact⟨O.irr _,O.irr _⟩⟩))
 obtain⟨g1,g2,g3,g4,g5,g6,g7⟩:=h;refine RunP.ite (fun hq=>?_) (fun hq=>?_)
 · have hm2:r.2.1≤r.1.size:=by omega
   refine RunP.mono (fun z hz=>?_) (qfm (g1.rev hm2) (by omega) (by omega) (by rw[kas_rev_size];omega) (g6.eqv O (g7.rev O hm2)));exact⟨hz.1,(hz.2.1.trans (mirror_perm _ _ _ _)).trans g2,by rw[hz.2.2.1,kas_rev_size,g3],hz.2.2.2⟩
 · refine RunP.mono (fun z hz=>?_) (qfm g1 (by omega) (by omega) (by omega) g6);exact⟨hz.1,hz.2.1.trans g2,by rw[hz.2.2.1,g3],hz.2.2.2⟩
theorem qjB (O:Ord lt) {N:Nat}{p:Array Nat} (hb:Bd n p) (h2:1≤N) (hs:N≤p.size):RunP lt n (kas_count N p) (Cnt lt n N p):=by
 unfold kas_count;refine RunP.bind (RunP.mono (fun m h=>?_) (qiB p hb (N - 1) 1 (Nat.le_refl _) (fun x hx=>by omega)));obtain⟨m1,mN,up,stop⟩:=h;refine RunP.ite (fun c=>?_) (fun c=>?_)
 · exact⟨hb,Array.Perm.refl _,rfl,m1,by omega,up⟩
 · have c:m≠N:=by simpa using c
   have st:=stop (by omega);refine RunP.ite (fun g=>⟨hb _,hb _,RunP.ite (fun e=>?_) (fun e=>?_)⟩) (fun g=>?_)
   · exact⟨hb,Array.Perm.refl _,rfl,m1,by omega,up⟩
   · have e:lt (p.getD 0 0) (p.getD (m - 1) 0)=false:=by simpa using e
     -- all of the first m are alike
     have alike:∀ x,x < m->Eqv lt (p.getD x 0) (p.getD (m - 1) 0):=fun x hx=>by
       have a1:=up.le O (x:=x) (m - 1 - x) (by omega);rw[show x+(m - 1 - x)=m - 1 by omega]at a1;have a2:=up.le O (x:=0) x (by omega);rw[Nat.zero_add]at a2;exact⟨O.tr _ _ _ e a2,a1⟩
     have hmp:m≤p.size:=by omega
     have blk:Blk lt p m (m - 1):=⟨by omega,fun x _ hx=>alike x hx⟩
     have ev:=blk.rev O hmp;rw[show m - (m - 1+1)=0 by omega]at ev;have dn0:Dn lt p m:=fun x hx=>O.tr _ _ _ (alike (x+1) hx).2 (alike x (by omega)).1
     have dn:Dn lt (kas_rev p 0 m) (m+1):=fun x hx=>by
       by_cases e1:x+1=m
       · have e2:x=m - 1:=by omega
         subst e2;have out:(kas_rev p 0 m).getD (m - 1+1) 0=p.getD m 0:=by rw[qcd hmp,if_neg (by omega),show m - 1+1=m by omega]
         rw[out];exact(ev (m - 1) (by omega)).not O ⟨O.irr _,O.irr _⟩ (O.asy _ _ st)
       · exact dn0.eqv O ev x (by omega)
     refine RunP.mono (fun z hz=>?_) (qbB O (hb.rev hmp) m1 (by omega) (by rw[kas_rev_size];exact hs) dn);exact⟨hz.1,hz.2.1.trans (mirror_perm _ _ _ _),by rw[hz.2.2.1,kas_rev_size],hz.2.2.2⟩
   · have e1:m=1:=by omega
     subst e1
     exact qbB O hb (Nat.le_refl _) (by omega) hs (fun x hx=>by
       have:x=0:=by omega
       subst this
       exact O.asy _ _ st)
theorem qcS (O:Ord lt) {p:Array Nat}{k:Nat} (hb:Bd n p) (up:Up lt p k):∀ (f l r:Nat),l≤r->r≤k->r - l≤f->(∀ x,x < l->lt (p.getD k 0) (p.getD x 0)=false)->(∀ x,r≤x->x < k->lt (p.getD k 0) (p.getD x 0)=true) ->
   RunP lt n (kas_place p k f l r) fun m=>m≤k∧(∀ x,x < m->lt (p.getD k 0) (p.getD x 0)=false)∧∀ x,m≤x->x < k->lt (p.getD k 0) (p.getD x 0)=true
 | 0,l,r,h1,h2,h3,a,b=>⟨by omega,a,fun x hx=>b x (by omega)⟩
 | f+1,l,r,h1,h2,h3,a,b=>by
   refine RunP.ite (fun c=>?_) (fun c=>⟨hb _,hb _,RunP.ite (fun d=>?_) (fun d=>?_)⟩)
   · exact⟨by omega,a,fun x hx=>b x (by omega)⟩
   · refine qcS O hb up f l ((l+r) / 2) (by omega) (by omega) (by omega) a fun x hx hk=>?_
     cases hz:lt (p.getD k 0) (p.getD x 0) with
     | true=>rfl
     | false =>
       have q:=up.le O (x:=(l+r) / 2) (x - (l+r) / 2) (by omega);rw[show (l+r) / 2+(x - (l+r) / 2)=x by omega]at q
       have:=O.tr _ _ _ q hz
       rw[d]at this;cases this
   · have d:lt (p.getD k 0) (p.getD ((l+r) / 2) 0)=false:=by simpa using d
     refine qcS O hb up f ((l+r) / 2+1) r (by omega) h2 (by omega) (fun x hx=>?_) b;have q:=up.le O (x:=x) ((l+r) / 2 - x) (by omega);rw[show x+((l+r) / 2 - x)=(l+r) / 2 by omega]at q;exact O.tr _ _ _ q d
theorem qkg (O:Ord lt):∀ (f:Nat) (p:Array Nat) (k:Nat),Bd n p->k+f≤p.size->Up lt p k->RunP lt n (kas_bin f p k) fun r=>r.Perm p∧Up lt r (k+f)
 | 0,p,k,hb,hs,up=>⟨Array.Perm.refl _,up⟩
 | f+1,p,k,hb,hs,up=>by
   refine RunP.bind (RunP.mono (fun l h=>?_) (qcS O hb up k 0 k (Nat.zero_le _) (Nat.le_refl _) (by omega) (fun x hx=>absurd hx (by omega)) (fun x h1 h2=>absurd h1 (by omega))));obtain⟨lk,lo,hi⟩:=h;have hk:k < p.size:=by omega
   refine RunP.mono (fun r h=>⟨h.1.trans (bubble_perm _ _ _),by rw[show k+(f+1)=k+1+f by omega];exact h.2⟩) (qkg O f (bubble p k (k - l)) (k+1) (hb.bub hk (by omega)) (by rw[bubble_size];omega) (fun x hx=>?_));have e:k - (k - l)=l:=by omega
   rw[qiu hk (by omega),qiu hk (by omega),e];by_cases c1:x+1=l
   · rw[if_pos c1,if_neg (by omega),if_neg (by omega)];exact lo x (by omega)
   · rw[if_neg c1];by_cases c2:x=l
     · rw[if_pos c2,if_pos ⟨by omega,by omega⟩,show x+1 - 1=x by omega];exact O.asy _ _ (hi x (by omega) (by omega))
     · rw[if_neg c2];by_cases c3:l < x
       · rw[if_pos ⟨by omega,by omega⟩,if_pos ⟨c3,by omega⟩]
         have:=up (x - 1) (by omega)
         rw[show x - 1+1=x by omega]at this;rw[show x+1 - 1=x by omega];exact this
       · rw[if_neg (by omega),if_neg (by omega)];exact up x (by omega)
theorem sort_ok (O:Ord lt) (h:1≤n):RunP lt n (kas_sort n) fun r=>r.Perm (List.toArray (List.range n))∧Up lt r n:=by
 have hb:Bd n (List.toArray (List.range n)):=fun x=>by
   simp only[Array.getD_eq_getD_getElem?,List.getElem?_toArray];by_cases hx:x < n
   · rw[List.getElem?_range hx];exact hx
   · rw[List.getElem?_eq_none (by simp;omega)];exact h
 have sz:(List.toArray (List.range n)).size=n:=by simp
 unfold kas_sort;refine RunP.bind (RunP.mono (fun r hr=>?_) (qjB O hb h (by omega)));obtain⟨g1,g2,g3,g4,g5,g6⟩:=hr;refine RunP.ite (fun c=>?_) (fun c=>?_)
 · have e:max r.1 1=r.1:=by omega
   rw[e];refine RunP.mono (fun z hz=>⟨hz.1.trans g2,?_⟩) (qkg O (n - r.1) r.2 r.1 g1 (by omega) g6)
   have:=hz.2
   rw[show r.1+(n - r.1)=n by omega]at this;exact this
 · have e:r.1=n:=by omega
   rw[e]at g6;exact⟨g2,g6⟩
end
end Srt
namespace L2
open PySem PySem.Spec PyProof.Rows
open PySem.W (Frag kitOne kdl_dict keq_flat)
theorem ObjOk.lies {P:Program}{w:World}{H:Hp}{h:Heap}{a:Addr}{o:HO} (x:ObjOk P w H h a o):∃ ob,h.get? a=some ob:=by
 cases o with
 | lst xs=>obtain⟨_,_,_,_,e⟩:=x;exact⟨_,e⟩
 | tup xs=>obtain⟨_,_,_,o,e,_⟩:=x;exact⟨_,e⟩
 | dK kvs=>obtain⟨_,_,_,_,o,_,_,e,_⟩:=x;exact⟨_,e⟩
 | dT kvs=>obtain⟨_,_,_,_,o,_,_,e,_⟩:=x;exact⟨_,e⟩
 | set S n=>obtain⟨o,_,_,_,e,_⟩:=x;exact⟨_,e⟩
 | ins C dx fs=>obtain⟨_,_,_,e,_⟩:=x;exact⟨_,e⟩
 | own y=>obtain⟨_,e⟩:=x;exact⟨_,e⟩
 | xd fs=>obtain⟨_,⟨_,_,_,e,_⟩,_⟩:=x;exact⟨_,e⟩
 | rng lo hi=>obtain⟨_,_,_,e⟩:=x;exact⟨_,e⟩
 | frz ob u=>obtain⟨e,_⟩:=x;exact⟨_,e⟩
 | tbl ps=>exact⟨_,(show h.get? a=some _ from x)⟩
 | met f y=>exact⟨_,(show h.get? a=some _ from x)⟩
 | ext φ=>obtain⟨_,⟨_,e⟩,_⟩:=x;exact⟨_,e⟩
section
variable {X:Cx}{pins:List (Addr×Obj)}{σ:List (Option V)}{H:Hp}{s:Shared}{h':Heap}
theorem Inv.unlaid {a:Addr} (I:Inv X pins σ H s) (e:s.heap.get? a=none):H a=none:=by
 cases q:H a with
 | none=>rfl
 | some o =>
   obtain⟨ob,z⟩:=(I.hok a o q).lies;rw[e]at z;cases z
theorem Inv.laidL {a:Addr}{o:HO}{t':Nat} (I:Inv X pins σ H s) (k:∀ b u,b≠X.env.locals->s.heap.get? b=some u->h'.get? b=some u) (ns:∀ m,s.heap.Ns X.env.locals m->h'.Ns X.env.locals m)
   (hp:s.heap.get? a=none) (new:ObjOk X.prog X.w (upd H a o) h' a o):Inv X pins σ (upd H a o) { s with heap:=h',toks:=t' }:=by
 have hn:H a=none:=I.unlaid hp;have nL:∀ b u,H b=some u->b≠X.env.locals:=fun b u e z=>by rw[z,I.free]at e;cases e
 have na:∀ b u,s.heap.get? b=some u->b≠a:=fun b u q z=>by rw[z,hp]at q;cases q
 refine I.step (g':=s.gens) (d':=s.drawn) (ch:=[]) (fun _ z=>nomatch z) (fun b o hb _ _ e _=>k b o hb e) (fun b o hb _ _ e _=>⟨o.slots,k b o hb e⟩) (fun b o _ e n=>by rw[qh (na b o e)];exact n) (fun b o _ e=>?_)
   (fun b xs q=>by rw[qh (qm q hn)];exact q) (fun b u xs q=>by rw[qh (qm q hn)];exact q) (fun b ps q=>⟨#[],by rw[qh (qm q hn),q];simp⟩) ns (fun b u e=>?_) I.bare
 · by_cases z:b=X.env.locals
   · obtain⟨m,hm,_⟩:=I.loc;obtain⟨o',_,_,ho',_⟩:=ns m hm;exact⟨o',by rw[z];exact ho'⟩
   · exact⟨o,k b o z e⟩
 · by_cases z:b=a
   · subst z;rw[qd]at e;cases e;exact new
   · rw[qh z]at e;refine(I.hok b u e).stay (fun c v hc q=>k c v ?_ q) (fun c q=>by rw[qh (qm q hn)];exact q) fun c xs q=>by rw[qh (qm q hn)];exact q
     rcases hc with z|z
     · rw[z];exact nL b u e
     · exact nL c _ z
end
def qeG (base h:Heap) (L:Addr):List (Addr×Obj):=(List.range h.objs.size).filterMap fun a=>if a=L then none else if (base.get? a).isSome then none else (h.get? a).map fun o=>(a,o)
theorem qct (base h:Heap) (L:Addr):News base L h (qeG base h L):=by
 intro p hp;unfold qeG at hp;obtain⟨a,_,e⟩:=List.mem_filterMap.mp hp;by_cases c1:a=L
 · rw[if_pos c1]at e;cases e
 · rw[if_neg c1]at e;by_cases c2:(base.get? a).isSome=true
   · rw[if_pos c2]at e;cases e
   · rw[if_neg c2]at e
     cases q:h.get? a with
     | none=>rw[q]at e;cases e
     | some o =>
       rw[q]at e;cases e;refine⟨q,c1,?_⟩
       cases z:base.get? a with
       | none=>rfl
       | some _=>rw[z]at c2;exact absurd rfl c2
theorem Jl {base h:Heap}{L b:Addr}{o:Obj} (e:h.get? b=some o) (ne:b≠L) (n:base.get? b=none):(b,o)∈qeG base h L:=by
 unfold qeG;refine List.mem_filterMap.mpr ⟨b,List.mem_range.mpr (Heap.lt_size e),?_⟩;rw[if_neg ne,n,e];rfl
theorem qj1 {h:Heap}{a:Addr}{m m':Str->Option Value} (x:h.Ns a m) (y:h.Ns a m'):m=m':=by
 obtain⟨o,es,ep,ho,hd,_,f⟩:=x;obtain⟨o',es',ep',ho',hd',_,f'⟩:=y;rw[ho]at ho';cases ho';rw[hd]at hd';cases hd';exact funext fun n=>(f n).symm.trans (f' n)
section
variable {X:Cx}{pins:List (Addr×Obj)}{σ:List (Option V)}{H:Hp}{s:Shared}{h':Heap}
theorem Inv.laidN {D:Addr}{m:Str->Option Value}{vs:List Value}{c:Nat}{ys:List V} (I:Inv X pins σ H s) (F:Fr X.base X.env.locals s.heap m) (F':Fr X.base X.env.locals h' m)
   (N':News X.base X.env.locals h' ((D,PySem.W.listOf vs.toArray c)::qeG X.base s.heap X.env.locals)) (hD:∀ q∈qeG X.base s.heap X.env.locals,q.1 < D) (r:Vals ys vs) (hz:ys.length≤sizeLine) :
   H D=none∧Inv X pins σ (upd H D (.lst ys)) { s with heap:=h' }:=by
 obtain⟨e1,e2,e3⟩:=N' _ (.head _)
 have free:s.heap.get? D=none:=by
   cases q:s.heap.get? D with
   | none=>rfl
   | some o=>exact absurd (hD _ (Jl q e2 e3)) (Nat.lt_irrefl _)
 have kp:∀ b u,b≠X.env.locals->s.heap.get? b=some u->h'.get? b=some u:=fun b u ne q=>by
   cases z:X.base.get? b with
   | some o =>
     have:=I.bk b o z
     rw[q]at this;cases this;exact F'.keep b _ z
   | none=>exact(N' _ (List.mem_cons_of_mem _ (Jl q ne z))).1
 refine⟨I.unlaid free,I.laidL (t':=s.toks) kp (fun m' hm=>?_) free ⟨hz,vs,c,r,?_⟩⟩
 · rw[qj1 hm F.ns];exact F'.ns
 · exact e1
theorem qf2:∀ {ns:List Int}{vs:List Value},Vals (ns.map V.int) vs->IntsAre vs ns
 | [],_,.nil=>.nil
 | n::ns,_,.cons r t=>by
   obtain⟨tk,rfl⟩:=(show ∃ t,_=Value.int n t from r)
   exact .cons n tk (qf2 t)
end
def ZN:List Int->List Int->Bool
 | a::as,b::bs=>if a=b then ZN as bs else decide (a < b)
 | _,_=>false
theorem qei:∀ as bs,ZN as bs=true->ZN bs as=false
 | [],_,h=>by simp[ZN]at h
 | _::_,[],h=>by simp[ZN]at h
 | a::as,b::bs,h=>by
   unfold ZN at h ⊢;by_cases e:a=b
   · rw[if_pos e]at h;rw[if_pos e.symm];exact qei as bs h
   · rw[if_neg e]at h;rw[if_neg fun z=>e z.symm]
     have:=of_decide_eq_true h
     exact decide_eq_false (by omega)
theorem qfY:∀ {as bs cs:List Int},as.length=bs.length->bs.length=cs.length->ZN as bs=false->ZN bs cs=false->ZN as cs=false
 | [],_,_,_,_,_,_=>rfl
 | _::_,[],_,h,_,_,_=>by simp at h
 | _::_,_::_,[],_,h,_,_=>by simp at h
 | a::as,b::bs,c::cs,h1,h2,x,y=>by
   unfold ZN at x y ⊢;by_cases e1:a=b
   · subst e1;rw[if_pos rfl]at x;by_cases e2:a=c
     · subst e2;rw[if_pos rfl]at y ⊢;exact qfY (by simpa using h1) (by simpa using h2) x y
     · rw[if_neg e2]at y ⊢;exact y
   · rw[if_neg e1]at x;have x':=of_decide_eq_false x;by_cases e2:b=c
     · subst e2;rw[if_neg e1];exact x
     · rw[if_neg e2]at y;have y':=of_decide_eq_false y;rw[if_neg (by omega)];exact decide_eq_false (by omega)
section
variable {prog:Program}{w:World}{A:Around}{s:Shared}
theorem qj6 {b:Bool}{Q:Bool->Shared->Prop}:∀ {as bs:List Int}{us vs:List Value}{i:Nat},Vals (as.map V.int) us->Vals (bs.map V.int) vs->as.length=bs.length->Q (ZN as bs) s->PySem.W.KatLex prog w A b false Q (us.zip vs) i s
 | [],[],_,_,_,.nil,.nil,_,h=>PySem.W.kat_nil h
 | [],_::_,_,_,_,_,_,e,_=>by simp at e
 | _::_,[],_,_,_,_,_,e,_=>by simp at e
 | a::as,c::cs,_,_,i,.cons r1 t1,.cons r2 t2,e,h=>by
   obtain⟨x,rfl⟩:=(show ∃ t,_=Value.int a t from r1)
   obtain⟨y,rfl⟩:=(show ∃ t,_=Value.int c t from r2)
   refine PySem.W.kat_cons (wpAny_eqBool_int ?_);unfold ZN at h;by_cases z:a=c
   · rw[if_pos z]at h;rw[show (a == c)=true by rw[z];exact beq_self_eq_true c];exact PySem.W.kat_yes (qj6 t1 t2 (by simpa using e) h)
   · rw[if_neg z]at h;rw[show (a == c)=false by exact beq_eq_false_iff_ne.mpr z];refine PySem.W.kat_no ?_
     cases (b && i == 0) with
     | true=>exact oneLt_int h
     | false=>exact PySem.W.kat_one _ _ (wpAny_lt_int h)
end
structure TupI (H:Hp) (zs:List V) (rs:List (List Int)):Prop where
 len:zs.length=rs.length
 at_:∀ (i:Nat) (z:V) (r:List Int),zs[i]?=some z->rs[i]?=some r->∃ t,z=.ref t∧H t=some (.tup (r.map V.int))
def ltI (k:Nat) (rs:List (List Int)) (i j:Nat):Bool:=ZN (rs.getD i (List.replicate k 0)) (rs.getD j (List.replicate k 0))
theorem ZZ {k:Nat}{rs:List (List Int)} (h:∀ r∈rs,r.length=k) (i:Nat):(rs.getD i (List.replicate k 0)).length=k:=by
 rw[List.getD_eq_getElem?_getD]
 cases e:rs[i]? with
 | none=>exact List.length_replicate
 | some r=>exact h r (List.mem_of_getElem? e)
theorem qhS {k:Nat}{rs:List (List Int)} (h:∀ r∈rs,r.length=k):Srt.Ord (ltI k rs) :=
 ⟨fun a b c x y=>qfY ((ZZ h c).trans (ZZ h b).symm) ((ZZ h b).trans (ZZ h a).symm) y x,fun a b=>qei _ _⟩
section
variable {X:Cx}{pins:List (Addr×Obj)}{σ:List (Option V)}{H:Hp}{s:Shared}
theorem Inv.tupI {t:Addr}{r:List Int} (I:Inv X pins σ H s) (h:H t=some (.tup (r.map V.int))):∃ (o:Obj) (us:List Value) (n:Nat),Vals (r.map V.int) us∧s.heap.get? t=some o∧o.cls=.type "tuple"∧o.data=.seq us.toArray n:=by
 obtain⟨_,its,rv,o,e,c,n,d⟩:=I.hok t _ h;exact⟨o,its,n,rv,e,c,d⟩
theorem Inv.kpN {h':Heap}{m:Str->Option Value}{x:Addr×Obj} (I:Inv X pins σ H s) (F':Fr X.base X.env.locals h' m) (N':News X.base X.env.locals h' (x::qeG X.base s.heap X.env.locals)) :
   ∀ b u,b≠X.env.locals->s.heap.get? b=some u->h'.get? b=some u:=fun b u ne q=>by
 cases z:X.base.get? b with
 | some o =>
   have:=I.bk b o z
   rw[q]at this;cases this;exact F'.keep b _ z
 | none=>exact(N' _ (List.mem_cons_of_mem _ (Jl q ne z))).1
end
theorem TupI.tail {H:Hp}{z:V}{zs:List V}{r:List Int}{rs:List (List Int)} (h:TupI H (z::zs) (r::rs)):TupI H zs rs :=
 ⟨by have:=h.len;simpa using this,fun i z' r' e1 e2=>h.at_ (i+1) z' r' (by simpa using e1) (by simpa using e2)⟩
inductive qiC (h:Heap) (v:Value) (r:List Int):Prop
 | mk (t:Addr) (o:Obj) (us:List Value) (n:Nat) (h1:v=.ref t) (h2:Vals (r.map V.int) us) (h3:h.get? t=some o) (h4:o.cls=.type "tuple") (h5:o.data=.seq us.toArray n):qiC h v r
def qmw (h:Heap) (v:Value) (r:List Int):Prop:=qiC h v r
theorem qfl {h:Heap}:∀ {vs:List Value}{rs:List (List Int)},Paired (qmw h) vs rs->(∀ r∈rs,0 < r.length)->∃ fs,PySem.W.KatTups h vs fs∧fs.length=vs.length∧∀ v∈fs,∃ i t,v=Value.int i t
 | _,_,.nil,_=>⟨[],.nil,rfl,fun _ z=>nomatch z⟩
 | _,r::rs,.cons ⟨t,o,us,n,e,rv,ho,hc,hd⟩ q,k=>by
   obtain⟨fs,k1,k2,k3⟩:=qfl q fun r hr=>k r (List.mem_cons_of_mem _ hr);subst e;have pos:=k r List.mem_cons_self
   match r,us,rv,pos with
   | a::r,_,.cons ra rt,_ =>
     obtain⟨tk,rfl⟩:=(show ∃ t,_=Value.int a t from ra)
     refine⟨_::fs,.cons ho hc hd (by simp;rfl) k1,by simp[k2],fun v hv=>?_⟩;rcases List.mem_cons.mp hv with rfl|hv
     · exact⟨_,_,rfl⟩
     · exact k3 v hv
theorem ZW {α β:Type}{F:α->β->Prop}:∀ {xs:List α}{ys:List β}{i:Nat}{d:α}{e:β},Paired F xs ys->i < xs.length->F (xs.getD i d) (ys.getD i e)
 | _,_,_,_,_,.nil,h=>by simp at h
 | _,_,0,_,_,.cons r _,_=>by simpa using r
 | _,_,i+1,_,_,.cons _ t,h=>by
   simp only[List.getD_cons_succ];exact ZW t (by simpa using h)
theorem qci {α β:Type}{F:α->β->Prop}{xs:List α}{ys:List β}{d:α}{e:β} (r:Paired F xs ys):∀ {is:List Nat},(∀ i∈is,i < xs.length)->Paired F (is.map fun i=>xs.getD i d) (is.map fun i=>ys.getD i e)
 | [],_=>.nil
 | i::is,h=>.cons (ZW r (h i List.mem_cons_self)) (qci r fun j hj=>h j (List.mem_cons_of_mem _ hj))
theorem jr {α:Type} (l:List α) (d:α):(List.range l.length).map (fun i=>l.getD i d)=l:=by
 apply List.ext_getElem
 · simp
 · intro i h1 h2;simp[h2]
section
variable {prog:Program}{w:World}{A:Around}{E:Value->Shared->Prop}{s:Shared}
theorem qiQ {a:Addr}{vs:List Value}{n:Nat}{P:PySem.Fin->Shared->Prop} (ho:s.heap.get? a=some (seqObj "list" vs.toArray n)) (h2:vs.length < 2)
   (h:∀ c h',(∀ b o,b≠a->s.heap.get? b=some o->h'.get? b=some o)->h'.get? a=some (seqObj "list" vs.toArray c)->P (.done (.ret .none)) { s with heap:=h' }) :
   wpAny (model prog w) A (Builtin.«list.sort» ⟨[.ref a],[]⟩) P E s:=by
 obtain⟨e1,ho1⟩:∃ e1,(s.heap.update a (Obj.mapSeq fun _=>(#[]:Array Value))).get? a=some (seqObj "list" #[] e1):=⟨_,get?_update_seq ho fun _=>#[]⟩
 have s1:=Heap.SameBut.update s.heap a (Obj.mapSeq fun _=>(#[]:Array Value));rw[list_sort_plain];refine wpAny_bind (listItems_at ho rfl ?_);refine wpAny_bind (listUpdate_at ho rfl ?_ (by rw[List.size_toArray,sizeLine_eq];omega) (Nat.zero_le _));refine wpAny_bind (seqEpoch_at ho1 rfl ?_);refine wpAny_bind (wpAny_newTuple ?_ (by show vs.length≤_;rw[sizeLine_eq];omega));refine wpAny_bind (wpAny_newList ?_ (Nat.zero_le _));refine wpAny_holding ?_;dsimp only;have hn2:vs.toArray.size < 2:=by rw[List.size_toArray];omega
 rw[if_pos hn2];refine wpAny_bind (wpAny_pure ?_);rw[if_pos hn2];refine wpAny_bind (wpAny_pure ?_);have ho2:(((s.heap.update a (Obj.mapSeq fun _=>(#[]:Array Value))).push (seqObj "tuple" vs.toArray 0)).push (seqObj "list" #[] 0)).get? a=some (seqObj "list" #[] e1):=Heap.get?_push_of_some _ (Heap.get?_push_of_some _ ho1)
 have hsnd:Array.map (fun x:Keyed=>x.snd) (arrOf (SortSt.mk' general' (vs.toArray.zip vs.toArray) #[] 7 none))=vs.toArray:=by
   show Array.map (fun x:Value×Value=>x.snd) (vs.toArray.zip vs.toArray)=vs.toArray;apply Array.toList_inj.mp;simp only[Array.toList_map,Array.toList_zip];exact List.map_snd_zip (Nat.le_refl _)
 refine wpAny_bind (seqEpoch_at ho2 rfl ?_);dsimp only;rw[hsnd];refine wpAny_bind (listUpdate_at ho2 rfl ?_ (Nat.zero_le _) (by rw[List.size_toArray,sizeLine_eq];omega));show wpAny (model prog w) A (if (e1 != e1)=true then _ else ret Value.none) P E _;rw[if_neg (by simp)];refine wpAny_pure (h _ _ (fun b o hb q=>?_) (get?_update_seq ho2 fun _=>vs.toArray));rw[(Heap.SameBut.update _ a _).2 b hb];exact Heap.get?_push_of_some _ (Heap.get?_push_of_some _ ((s1.2 b hb).trans q))
theorem qgj {l:Addr}{vs:List Value}{Q:Value->Shared->Prop} (hl:s.heap.IsList l vs.toArray) (h2:vs.length < 2)
   (h:∀ D c h',s.heap.get? D=none->(∀ b o,s.heap.get? b=some o->h'.get? b=some o)->h'.get? D=some (seqObj "list" vs.toArray c)->Q (.ref D) { s with heap:=h' }) :
   wpAny (model prog w) A (call (.builtin "sorted") [.ref l]) Q E s:=by
 refine Calls.call_function_entry kind_sorted plain_sorted entry_sorted (args_sorted1 _) ?_;unfold Builtin.«sorted»;refine wpAny_bind (m:=checkCount "sorted" 1 1 _) (wpAny_pure ?_);refine wpAny_bind (collect_list hl ?_ (by rw[sizeLine_eq];omega));refine wpAny_bind (wpAny_newList ?_ (by rw[sizeLine_eq];omega))
 have hsz:((s.heap.push (seqObj "list" #[] 0)).update s.heap.objs.size (Obj.mapSeq (·++vs.toArray))).objs.size=s.heap.objs.size+1:=by
   rw[Heap.size_update,size_push']
 have hoL:(((s.heap.push (seqObj "list" #[] 0)).update s.heap.objs.size (Obj.mapSeq (·++vs.toArray))).push (seqObj "list" vs.toArray 0)).get? (s.heap.objs.size+1)=some (seqObj "list" vs.toArray 0):=by
   rw[← hsz];exact Heap.get?_push_size _ rfl
 have keep:∀ b o,s.heap.get? b=some o->(((s.heap.push (seqObj "list" #[] 0)).update s.heap.objs.size (Obj.mapSeq (·++vs.toArray))).push (seqObj "list" vs.toArray 0)).get? b=some o:=fun b o q=>by
   have hlt:b < s.heap.objs.size:=Heap.lt_size q;rw[Heap.get?_push_ne _ _ _ (by rw[hsz];exact Nat.ne_of_lt (Nat.lt_succ_of_lt hlt)),Heap.get?_update_ne _ _ _ _ (Nat.ne_of_lt hlt),Heap.get?_push_ne _ _ _ (Nat.ne_of_lt hlt)];exact q
 show wpAny _ _ _ _ _ { s with heap:=((s.heap.push (seqObj "list" #[] 0)).update s.heap.objs.size (Obj.mapSeq (·++vs.toArray))).push (seqObj "list" vs.toArray 0) };rw[hsz];refine wpAny_bind (wpAny_holding (wpAny_call_entry slot_list_sort ⟨_,hoL,rfl⟩ entry_list_sort ?body (args_list_sort _)))
 case body =>
   refine qiQ (s:={ s with heap:=((s.heap.push (seqObj "list" #[] 0)).update s.heap.objs.size (Obj.mapSeq (·++vs.toArray))).push (seqObj "list" vs.toArray 0) }) hoL h2 fun c h' k e=>?_;exact⟨_,rfl,wpAny_pure ⟨_,rfl,h (s.heap.objs.size+1) c h' (Heap.get?_none_of_le (Nat.le_succ _)) (fun b o q=>k b o (Nat.ne_of_lt (Nat.lt_succ_of_lt (Heap.lt_size q))) (keep b o q)) e⟩⟩
end
inductive qfN (K:Frag) (xs:List V) (H:Hp) (Q:VK):Prop
 | mk (l:Addr) (zs:List V) (rs:List (List Int)) (k:Nat) (h1:xs=[.ref l]) (h2:SqL K H l zs) (h3:TupI H zs rs) (h4:(∀ r∈rs,r.length=k)) (h5:0 < k) (h6:zs.length < 64) (h7:∀ (p:Addr) (zs':List V) (rs':List (List Int)),H p=none->rs'.Perm rs->TupI H zs' rs'->rs'.Pairwise (fun a b=>ZN b a=false)->Q (.ref p) (upd H p (.lst zs'))):qfN K xs H Q
def qlP (K:Frag):List V->Hp->VK->Prop:=fun xs H Q=>qfN K xs H Q
theorem qgZ {X:Cx}{pins:List (Addr×Obj)}{σ:List (Option V)}{H:Hp}{s:Shared}{h':Heap} (I:Inv X pins σ H s) (kp:∀ b u,b≠X.env.locals->s.heap.get? b=some u->h'.get? b=some u) :
   ∀ {zs:List V}{rs:List (List Int)}{vs:List Value},TupI H zs rs->Vals zs vs->Paired (qmw h') vs rs
 | [],rs,_,h,.nil=>by
   have:rs=[]:=List.eq_nil_of_length_eq_zero h.len.symm
   subst this;exact .nil
 | z::zs,[],_,h,_=>by have:=h.len;simp at this
 | z::zs,r::rs,_,h,.cons r1 t1=>by
   refine .cons ?_ (qgZ I kp h.tail t1);obtain⟨t,rfl,ht⟩:=h.at_ 0 z r rfl rfl;obtain⟨o,us,n,rv,e,c,d⟩:=I.tupI ht;exact⟨t,o,us,n,r1,rv,kp t o (fun q=>by rw[q,I.free]at ht;cases ht) e,c,d⟩
theorem qgY {H:Hp}{zs:List V}{rs:List (List Int)}{d:V}{e:List Int} (h:TupI H zs rs) {is:List Nat} (hi:∀ i∈is,i < zs.length):TupI H (is.map fun i=>zs.getD i d) (is.map fun i=>rs.getD i e):=by
 refine⟨by rw[List.length_map,List.length_map],fun j z r e1 e2=>?_⟩;rw[List.getElem?_map]at e1 e2
 cases q:is[j]? with
 | none=>rw[q]at e1;cases e1
 | some i =>
   rw[q]at e1 e2;have lt:=hi i (List.mem_of_getElem? q);have lt2:i < rs.length:=by rw[← h.len];exact lt
   have z1:zs.getD i d=z:=Option.some.inj e1;have r1:rs.getD i e=r:=Option.some.inj e2;rw[List.getD_eq_getElem?_getD,List.getElem?_eq_getElem lt]at z1;rw[List.getD_eq_getElem?_getD,List.getElem?_eq_getElem lt2]at r1;exact h.at_ i z r (by rw[List.getElem?_eq_getElem lt];exact congrArg some z1) (by rw[List.getElem?_eq_getElem lt2];exact congrArg some r1)
section
variable {X:Cx}
theorem qgM:Zk X (.builtin "sorted") (qlP X.K):=by
 intro pins s σ H xs us Q I r h;obtain⟨l,zs,rs,k,rfl,hq,tp,hk,k0,h64,q⟩:=h;obtain⟨u,rfl,ru⟩:=Jm r;cases (show u=Value.ref l from ru);obtain⟨its,rv,p,hz⟩:=I.list hq;have hlen:=rv.length;by_cases h2:its.length < 2
 · refine qgj p.isList h2 fun D c h' free kp e=>?_;have I':Inv X pins σ (upd H D (.lst zs)) { s with heap:=h' }:=I.laidL (t':=s.toks) (fun b u _ z=>kp b u z) (fun m ⟨o,es,ep,ho,r⟩=>⟨o,es,ep,kp _ _ ho,r⟩) free ⟨hz,its,c,rv,e⟩;refine⟨.ref D,_,I',rfl,q D zs rs (I.unlaid free) (List.Perm.refl _) tp ?_⟩;have l2:rs.length < 2:=by rw[← tp.len,hlen];exact h2
   match rs,l2 with
   | [],_=>exact .nil
   | [r],_=>exact List.pairwise_singleton _ _
   | _::_::_,l2=>simp at l2;omega
 · obtain⟨m,F⟩:=I.fr;refine PySem.W.kat_sorted F (qct X.base s.heap X.env.locals) p.isList (by omega) (by omega) fun D e1 h' F' N' hD=>?_;have kp:=I.kpN F' N';have pa:=qgZ I kp tp rv;obtain⟨fs,t1,t2,t3⟩:=qfl pa fun r hr=>by rw[hk r hr];exact k0
   refine PySem.W.kat_kind (T:=.type "int") t1 (by omega) (fun v hv=>?_) rfl ?_
   · obtain⟨i,t,rfl⟩:=t3 v hv;exact PySem.W.Looks.of_pure rfl
   refine Srt.RunP.wp (fun i j C hi hj hC=>?_) (fun a ha=>?_) (Srt.sort_ok (n:=its.length) (qhS hk) (by omega))
   · obtain⟨x,ox,ux,nx,ex,rx,hx,cx,dx⟩:=ZW (d:=Value.none) (e:=List.replicate k 0) pa hi;obtain⟨y,oy,uy,ny,ey,ry,hy,cy,dy⟩:=ZW (d:=Value.none) (e:=List.replicate k 0) pa hj;unfold PySem.W.kas_ask;rw[ex,ey];refine PySem.W.kat_lt hx dx hy dy ?_;have lx:=ZZ hk i;have ly:=ZZ hk j;have e1':=rx.length;have e2':=ry.length;rw[List.length_map]at e1' e2';rw[show decide (ux.toArray.size < uy.toArray.size)=false from decide_eq_false (by rw[List.size_toArray,List.size_toArray];omega)];exact qj6 rx ry (by omega) hC
   · obtain⟨hp,up⟩:=ha
     have pl:a.toList.Perm (List.range its.length):=by
       have:=Array.perm_iff_toList_perm.mp hp
       simpa using this
     have inR:∀ i∈a.toList,i < zs.length:=fun i hi=>by rw[hlen];exact List.mem_range.mp (pl.mem_iff.mp hi)
     refine PySem.W.KasFin.intro F' N' (.head fun q hq=>Nat.ne_of_lt (hD q hq)) fun h2 c F2 N2=>?_;have rv2:Vals (a.toList.map fun i=>zs.getD i .non) (a.toList.map fun i=>its.getD i Value.none):=qci rv inR;obtain⟨hn,I'⟩:=I.laidN F F2 N2 hD rv2 (by rw[List.length_map,pl.length_eq,List.length_range,← hlen];exact hz);refine⟨.ref D,_,I',rfl,q D _ (a.toList.map fun i=>rs.getD i (List.replicate k 0)) hn ?_ (qgY tp inR) ?_⟩
     · have:=pl.map fun i=>rs.getD i (List.replicate k 0)
       rw[← hlen,tp.len,jr]at this;exact this
     · have sz:a.size=its.length:=by
         have:=pl.length_eq
         rw[Array.length_toList,List.length_range]at this;exact this
       refine List.pairwise_iff_getElem.mpr fun i j hi hj lt=>?_;have hj':j < a.size:=by simpa using hj
       have hi':i < a.size:=by omega
       have:=Srt.Up.le (qhS hk) up (x:=i) (j - i) (by omega)
       rw[show i+(j - i)=j by omega]at this;simp only[List.getElem_map,Array.getElem_toList];simp only[ltI,Array.getD_eq_getD_getElem?,Array.getElem?_eq_getElem hj',Array.getElem?_eq_getElem hi',Option.getD_some]at this;exact this
end
theorem qeJ:∀ {xs:List V}{us:List Value},us.length=xs.length->(∀ (i:Nat) (x:V) (u:Value),xs[i]?=some x->us[i]?=some u->RelV x u)->Vals xs us
 | [],[],_,_=>.nil
 | [],_::_,h,_=>by cases h
 | _::_,[],h,_=>by cases h
 | x::xs,u::us,h,r=>.cons (r 0 x u rfl rfl) (qeJ (Nat.succ.inj h) fun i y v e1 e2=>r (i+1) y v e1 e2)
theorem qhZ {k:Key}{v:Value} (h:qe8 k v=true):RelV (kV k) v:=by
 rcases zn h with ⟨i,t,rfl,rfl⟩|⟨x,t,rfl,rfl⟩
 · exact⟨t,rfl⟩
 · exact⟨t,rfl⟩
theorem qhW:∀ {kvs:List (Key×V)}{vs:List (Key×Value)},KV kvs vs->∀ {i:Nat}{k:Key}{x:Value},vs[i]?=some (k,x)->∃ y,kvs[i]?=some (k,y)∧RelV y x
 | _,_,.nil,i,k,x,e=>by cases e
 | _,_,.cons (a:=a) (b:=b) r t,i,k,x,e=>by
   cases i with
   | zero =>
     cases e;exact⟨a.2,by rw[List.getElem?_cons_zero];obtain⟨a1,a2⟩:=a;have:=r.1;simp at this;rw[this],r.2⟩
   | succ i=>exact qhW t e
theorem qem:∀ {kvs:List (Key×V)}{vs:List (Key×Value)},KV kvs vs->vs.length=kvs.length
 | _,_,.nil=>rfl
 | _,_,.cons _ t=>by rw[List.length_cons,List.length_cons,qem t]
section
variable {X:Cx}
def qjR:List V->Hp->VK->Prop:=fun xs H Q=>∃ a kvs,xs=[V.ref a]∧Rd H a (.dK kvs)∧∀ l,H l=none->Q (.ref l) (upd H l (.lst (kvs.map fun p=>kV p.1)))
theorem qgP (hc:X.calm=true):Zk X (.type "list") qjR:=by
 intro pins s σ H xs us Q I r h;obtain⟨a,kvs,rfl,hq,q⟩:=h;obtain⟨u,rfl,ru⟩:=Jm r;cases ru;obtain⟨hz,hS,vs,rel,o,es,ep,e,x,d,k,p,n⟩:=qbA I.hok hq;have D:s.heap.DictAt (zy X.prog X.w) a vs ep:=⟨o,es,e,x,d,k,p,n⟩
 refine PySem.W.kdl_call (kdl_dict (knd:=zy X.prog X.w) (kvs:=vs) (ep:=ep) hS) (I.ok.hd hc) D (by rw[qem rel];exact hz) fun h' tk acc' c' kp e' it=>?_;obtain⟨al,ag⟩:=it
 have rv:Vals (kvs.map fun p=>kV p.1) acc'.toList:=by
   refine qeJ (by rw[Array.length_toList,al,List.length_map,qem rel]) fun i y v e1 e2=>?_;obtain⟨k',x',e3,e4⟩:=ag i v (by rw[← Array.getElem?_toList];exact e2);obtain⟨y',e5,_⟩:=qhW rel e3;rw[List.getElem?_map,e5]at e1;cases e1;exact qhZ e4
 refine⟨.ref s.heap.objs.size,_,I.laid (t':=tk) kp (Nat.le_refl _) (show ObjOk X.prog X.w _ h' _ (.lst _) from ⟨by rw[List.length_map];exact hz,acc'.toList,c',rv,?_⟩),rfl,q _ (I.hok.fresh (Nat.le_refl _))⟩;rw[Array.toArray_toList];exact e'
theorem qcx:∀ {ss:List Str}{vs:List Value},Vals (ss.map V.str) vs->StrsAre vs ss
 | [],_,.nil=>.nil
 | n::ns,_,.cons r t=>by
   obtain⟨tk,rfl⟩:=(show ∃ t,_=Value.str n t from r)
   exact .cons n tk (qcx t)
theorem qar:∀ {ss:List Str}{vs:List Value},StrsAre vs ss->Vals (ss.map V.str) vs
 | _,_,.nil=>.nil
 | _,_,.cons n t r=>.cons ⟨t,rfl⟩ (qar r)
def qlQ (K:Frag):List V->Hp->VK->Prop:=fun xs H Q=>∃ (l:Addr) (ss:List Str),xs=[V.ref l]∧SqL K H l (ss.map V.str)∧ss.length < 64∧∀ (p:Addr) (ss':List Str),H p=none->ss'.Perm ss->sortedS ss'=true->Q (.ref p) (upd H p (.lst (ss'.map V.str)))
theorem qgN:Zk X (.builtin "sorted") (qlQ X.K):=by
 intro pins s σ H xs us Q I r h;obtain⟨l,ss,rfl,hq,h64,q⟩:=h;obtain⟨u,rfl,ru⟩:=Jm r;cases ru;obtain⟨its,rv,p,hz⟩:=I.list hq;have hlen:=rv.length;rw[List.length_map]at hlen;refine sorted_strs p.isList (qcx rv) (by omega) fun out ss' a1 a2 a3=>?_;obtain⟨e,he⟩:=sortedAll_at s.heap its out;have hn:H (s.heap.objs.size+1)=none:=I.hok.fresh (Nat.le_succ _);refine⟨.ref _,_,I.laid (t':=s.toks) (fun b u z=>sortedAll_old z) (Nat.le_succ _) (show ObjOk X.prog X.w _ _ _ (.lst (ss'.map V.str)) from ⟨by rw[List.length_map,a2.length_eq,← List.length_map (f:=V.str)];exact hz,out.toList,e,qar a1,?_⟩),rfl,q _ ss' hn a2 a3⟩;rw[Array.toArray_toList];exact he
def qjO:List V->Hp->VK->Prop:=fun xs H Q=>∃ (a:Addr) (kvs:List (Str×V)),xs=[V.ref a]∧Rd H a (.dK (kvs.map fun p=>(.inr p.1,p.2)))∧kvs.length < 64∧∀ (p:Addr) (ss':List Str),H p=none->ss'.Perm (kvs.map (·.1))->sortedS ss'=true->Q (.ref p) (upd H p (.lst (ss'.map V.str)))
theorem qgO (hc:X.calm=true):Zk X (.builtin "sorted") qjO:=by
 intro pins s σ H xs us Q I r h;obtain⟨a,kvs,rfl,hq,h64,q⟩:=h;obtain⟨u,rfl,ru⟩:=Jm r;cases ru;obtain⟨hz,hS,vs,rel,o,es,ep,e,x,d,k,p,n⟩:=qbA I.hok hq;have D:s.heap.DictAt (zy X.prog X.w) a vs ep:=⟨o,es,e,x,d,k,p,n⟩
 have ln:vs.length=kvs.length:=by rw[qem rel,List.length_map]
 refine Calls.call_function_entry kind_sorted plain_sorted entry_sorted (args_sorted1 _) ?_;unfold Builtin.«sorted»;refine wpAny_bind (m:=checkCount "sorted" 1 1 _) (wpAny_pure ?_);refine wpAny_bind (PySem.W.kdu_collect (A:=X.A.in1) (kdl_dict (knd:=zy X.prog X.w) (kvs:=vs) (ep:=ep) hS) (I.ok.hd hc) D (by rw[ln,sizeLine_eq];omega) fun h' tk acc hk it=>?_);obtain⟨al,ag⟩:=it
 have rv:Vals ((kvs.map (·.1)).map V.str) acc.toList:=by
   refine qeJ (by rw[Array.length_toList,al,List.length_map,List.length_map,ln]) fun i y v e1 e2=>?_;obtain⟨k',x',e3,e4⟩:=ag i v (by rw[← Array.getElem?_toList];exact e2);obtain⟨y',e5,_⟩:=qhW rel e3;rw[List.getElem?_map]at e5;rw[List.getElem?_map,List.getElem?_map]at e1
   cases z:kvs[i]? with
   | none=>rw[z]at e1;cases e1
   | some w' =>
     rw[z]at e1 e5;cases e1;cases e5;exact qhZ (k:=.inr w'.1) e4
 have hA:=qcx rv;have hl:acc.toList.length < 64:=by rw[Array.length_toList,al,ln];exact h64
 refine wpAny_bind (wpAny_newList ?_ (by rw[sizeLine_eq];omega));have hoL:(h'.push (seqObj "list" acc.toList.toArray 0)).get? h'.objs.size=some (seqObj "list" acc.toList.toArray 0):=Heap.get?_push_size _ rfl;refine wpAny_bind (wpAny_holding (wpAny_call_entry slot_list_sort ⟨_,hoL,rfl⟩ entry_list_sort (list_sort_treeK strKind_oneLt hoL hA.keysOf (fun v₁ v₂ rest e=>keyKind_strs (by rw[← e];exact hA)) hl fun st' a1 a2=>⟨_,rfl,?_⟩) (args_list_sort _)));refine wpAny_pure ⟨_,rfl,?_⟩;obtain⟨ss',b1,b2,b3⟩:=sorted_out_str hA a1 a2;obtain⟨e',he⟩:=sortedHeap_at (out:=(arrOf st').map (·.2)) hoL
 have free:s.heap.get? h'.objs.size=none:=by
   cases z:s.heap.get? h'.objs.size with
   | none=>rfl
   | some o=>exact absurd (Heap.lt_size (hk _ _ z)) (Nat.lt_irrefl _)
 have kp:∀ b u,s.heap.get? b=some u->(sortedHeap (h'.push (seqObj "list" acc.toList.toArray 0)) h'.objs.size acc.toList ((arrOf st').map (·.2))).get? b=some u:=fun b u z=>by
   have z':=hk _ _ z;have lt:=Heap.lt_size z';rw[sortedHeap_old (Nat.ne_of_lt lt) (Nat.lt_of_lt_of_eq (Nat.lt_succ_of_lt lt) (Heap.size_push ..).symm)];exact Heap.get?_push_of_some _ z'
 have I':Inv X pins σ (upd H h'.objs.size (.lst (ss'.map V.str))) { s with heap:=_,toks:=tk }:=I.laidL (t':=tk) (fun b u _ z=>kp b u z) (fun m ⟨o,es,ep,ho,r⟩=>⟨o,es,ep,kp _ _ ho,r⟩) free ⟨by rw[List.length_map,b2.length_eq,List.length_map,sizeLine_eq];omega,_,e',qar b1,(by rw[Array.toArray_toList];exact he)⟩;exact⟨.ref _,_,I',rfl,q _ ss' (I.unlaid free) b2 b3⟩
def qkB (K:Frag):List V->Hp->VK->Prop:=fun xs H Q=>∃ x C t b,xs=[x,V.ref C]∧qdo K H x t∧kitOne K t (.ref C)=some b∧Q (.bl b) H
theorem Z1:Zk X (.builtin "isinstance") (qkB X.K):=by
 intro pins s σ H xs us Q I r h;obtain⟨x,C,t,b,rfl,ht,hk,q⟩:=h;obtain⟨u,w',rfl,ru,rw'⟩:=qgg r;cases (show w'=Value.ref C from rw');exact qer I ru ht hk fun tk=>⟨.bl _,H,I.tok tk,rfl,q⟩
theorem zA {K:Frag}{C D:Addr}{l:List (Option Addr)} (m:XMro K C l) (hl:l.head?=some (some C)) (d:qiE K D):kitOne K (.ref C) (.ref D)=some (l.contains (some D)):=by
 have e:=qiJ m (by intro z;rw[z]at hl;cases hl) d;unfold kitOne;split
 · rename_i z
   have z':C=D:=Value.ref.inj (eq_of_beq z);subst z';congr 1
   cases l with
   | nil=>cases hl
   | cons x r=>rw[List.head?_cons]at hl;cases hl;simp
 · obtain⟨cd,h1,h2⟩:=m;unfold PySem.W.kitCls;have d1:(PySem.W.clsIn K D).isSome=true:=d.1;simp only[d.2,d1];simp only[qiK,d.2,d1]at e;simpa using e
theorem PE.or {e:Expr}{t u:TE} (h:PE X e t) (h':PE X e u):PE X e (fun σ H Q=>t σ H Q∨u σ H Q):=fun pins s σ H Q I q=>q.elim (h pins s σ H Q I) (h' pins s σ H Q I)
def qnU:R2:=fun x y H Q=>∃ a o,y=.ref a∧qeH H a x o∧Q (.bl o.isSome) H
theorem qj0 (hu:X.A.units+1 < cLine):OpR X (compareOp .In) qnU:=by
 intro pins s σ H x y v u Q I rx ry h;obtain⟨a,o,rfl,g,q⟩:=h;cases ry;exact qn2 hu I g rx fun s' I'=>⟨.bl _,H,I',rfl,q⟩
def qkz:R2:=fun x y H Q=>∃ a o,y=.ref a∧qeH H a x o∧Q (.bl (!o.isSome)) H
theorem qba (hu:X.A.units+1 < cLine):OpR X (compareOp .NotIn) qkz:=by
 intro pins s σ H x y v u Q I rx ry h;obtain⟨a,o,rfl,g,q⟩:=h;cases ry;exact qlg hu I g rx fun s' I'=>⟨.bl _,H,I',rfl,q⟩
end
section
variable {X:Cx}{tg:Expr}
structure InsF (K:Frag) (C:Addr):Prop where
 cl:Cls K C
 ha:PySem.W.findIn K (.ref C) "__class__"=some (some (.builtin "object.__class__"))
 hn:PySem.W.specialIn K (.builtin "object.__class__") "__get__"=some (some (.builtin "getset_descriptor.__get__"))
 htk:PySem.W.takesIn K (.builtin "object.__class__")=some true
 hm:PySem.W.mroIn K C (.type "object")=some true
theorem InsF.ty {K:Frag}{H:Hp}{a C dx:Addr}{fs:List (Str×V)} (i:InsF K C) (e:H a=some (.ins C dx fs)):qdo K H (.ref a) (.ref C):=.ins e i.cl i.ha i.hn i.htk i.hm
end
theorem qdV:∀ (r:List Str) (x:Str),risingS x r=true->(x::r).Pairwise fun a b=>a.cps.toList≤b.cps.toList
 | [],x,_=>List.pairwise_singleton _ _
 | y::r,x,h=>by
   have h':ltCps y.cps.toList x.cps.toList=false∧risingS y r=true:=by simpa[risingS] using h
   have hxy:x.cps.toList≤y.cps.toList:=fun z=>by
     have:=h'.1
     rw[ltCps_eq]at this;exact(of_decide_eq_false this) z
   have ih:=qdV r y h'.2;refine List.pairwise_cons.mpr ⟨fun z m=>?_,ih⟩;rcases List.mem_cons.mp m with rfl|m
   · exact hxy
   · exact List.le_trans hxy ((List.pairwise_cons.mp ih).1 z m)
theorem qb3 {l:List Str} (h:sortedS l=true):l.Pairwise fun a b=>a.cps.toList≤b.cps.toList:=by
 cases l with
 | nil=>exact List.Pairwise.nil
 | cons x r=>exact qdV r x h
theorem qeO {l l':List Str} (p:l.Perm l') (h:sortedS l=true) (h':sortedS l'=true):l=l' :=
 List.Perm.eq_of_pairwise (fun a b _ _ h1 h2=>qks (List.le_antisymm h1 h2)) (qb3 h) (qb3 h') p
theorem dv_strs {H:Hp}:∀ (ns:List Str),DVs H (ns.map V.str) (ns.map PyData.str)
 | []=>.nil
 | n::r=>.cons (.str n) (dv_strs r)
theorem qap:∀ (ns:List Str),(∀ x∈ns,PyData.strOk x=true)->PyData.canLayAll0 (ns.map PyData.str)=true∧PyData.depthAll (ns.map PyData.str)≤1
 | [],_=>⟨rfl,by simp[PyData.depthAll]⟩
 | n::r,h=>by
   obtain⟨h1,h2⟩:=qap r fun x m=>h x (List.mem_cons_of_mem _ m);refine⟨by simp[PyData.canLayAll0,PyData.canLay0,h1,h n List.mem_cons_self],?_⟩;simp only[List.map_cons,PyData.depthAll,PyData.depth];omega
section
variable {X:Cx}
def qhr:List V->Hp->VK->Prop:=fun xs H Q=>∃ a kvs,xs=[V.ref a]∧Rd H a (.dK kvs)∧∀ d,H d=none->Q (.ref d) (upd H d (.dK kvs))
theorem qcr:Zk X (.type "dict") qhr:=by
 intro pins s σ H xs us Q I r h;obtain⟨a,kvs,rfl,hq,q⟩:=h;obtain⟨u,rfl,ru⟩:=Jm r;cases ru;obtain⟨hz,hS,vs,rel,D⟩:=qbA I.hok hq;refine kt_call_dict hS D (by rw[qem rel];exact hz) fun h' dS sb=>?_;have kp:∀ b o,s.heap.get? b=some o->h'.get? b=some o:=fun b o e=>by rw[sb.2 b (Nat.ne_of_lt (Heap.lt_size e))];exact Heap.get?_push_of_some _ e
 refine⟨.ref s.heap.objs.size,_,I.laid (t':=s.toks) kp (Nat.le_refl _) (show ObjOk X.prog X.w _ h' _ (.dK kvs) from ⟨hz,?_,vs,rel,dS⟩),rfl,q _ (I.hok.fresh (Nat.le_refl _))⟩
 have:=I.big
 exact beq_eq_false_iff_ne.mpr (Nat.ne_of_gt this)
def qlW:R2:=fun x y H Q=>∃ a b kvs,x=.ref a∧y=.ref b∧Rd H a (.dK kvs)∧H b=some (.dK [])∧Q (.bl kvs.isEmpty) H
theorem qkM (hu:X.A.units+64 < cLine):OpR X (compareOp .Eq) qlW:=by
 intro pins s σ H x y v u Q I rx ry h;obtain⟨a,b,kvs,rfl,rfl,ha,hb,q⟩:=h;cases (show v=Value.ref a from rx);cases (show u=Value.ref b from ry);obtain⟨_,hs,vs,kv,d⟩:=qbA I.hok ha;obtain⟨_,hs2,vs2,kv2,d2⟩:=qle I.hok hb;cases kv2;refine PySem.W.keq_eq (r:=true) hs hs2 d d2 (by omega) (fun e=>?_) ⟨.bl kvs.isEmpty,H,I,?_,q⟩
 · cases vs with
   | nil=>exact .nil
   | cons _ _=>cases e
 · cases kv with
   | nil=>rfl
   | cons _ _=>rfl
inductive qdX (x:V) (vs:List V) (H:Hp) (Q:VK):Prop
 | mk (l:Addr) (xs:List V) (y:V) (j:Nat) (h1:x=.ref l) (h2:vs=[y]) (h3:H l=some (.lst xs)) (h4:qao y=true) (h5:xs.all qao=true) (h6:∃ w,xs[j]?=some w∧eqV w y=true) (h7:∀ (i:Nat) (w:V),i < j->xs[i]?=some w->eqV w y=false) (h8:Q (.int (j:Int)) H):qdX x vs H Q
def qkA:V->List V->Hp->VK->Prop:=fun x vs H Q=>qdX x vs H Q
theorem qeg:MtM X "list.index" qkA:=by
 intro pins s σ H x vs v us Q I rx rv h;obtain⟨l,xs,y,j,rfl,rfl,hH,fy,fx,⟨w,hw,ew⟩,hno,q⟩:=h;cases rx;obtain⟨u,rfl,ru⟩:=rv.one;obtain⟨z,its,n,r,hl,e⟩:=I.lstM hH;obtain⟨w',hw',rw'⟩:=r.get hw
 have hj:j < its.toArray.size:=by
   have:=(List.getElem?_eq_some_iff.mp hw').1
   rw[List.size_toArray];exact this
 have fl:∀ (k:Nat) (a:V) (b:Value),xs[k]?=some a->its[k]?=some b->eqU y b=eqV a y:=fun k a b h1 h2=>by
   obtain⟨b',hb',rb⟩:=r.get h1;rw[h2]at hb';cases hb';exact qib rb (List.all_eq_true.mp fx a (List.mem_of_getElem? h1))
 have sz:=sizeLine_eq
 have jl:j < 16777216:=by
   have:=(List.getElem?_eq_some_iff.mp hw).1
   omega
 refine call_meets F.slot_list_index ⟨_,e,rfl⟩ F.entry_list_index (F.args_list_index_2 _ _)
   (SeqAt.list_indexAt l its.toArray n none #[] u (eqU y) j hj (by omega) ?_ ?_) ⟨e,fun b hb=>ZX ru fy r fx b (by simpa using hb),⟨.int (j:Int),H,I.tok _,⟨_,rfl⟩,q⟩⟩
 · have:its.toArray[j]=w':=by
     have:=(List.getElem?_eq_some_iff.mp hw').2
     simpa using this
   rw[this,fl j w w' hw hw',ew]
 · intro m hm lt;have hm':m < its.length:=by rw[List.size_toArray]at hm;exact hm
   have hx:m < xs.length:=by rw[r.length];exact hm'
   have:=fl m xs[m] its[m] (List.getElem?_eq_getElem hx) (List.getElem?_eq_getElem hm')
   show eqU y (its.toArray[m])=false;rw[show its.toArray[m]=its[m] by simp,this];exact hno m _ lt (List.getElem?_eq_getElem hx)
def qcf:V->Bool
 | .non=>true
 | .bl _=>true
 | .int _=>true
 | .str _=>true
 | .ref _=>true
 | _=>false
theorem qgI {A:Around}{s:Shared}{v:V}{a b:Value} (h:qcf v=true) (ra:RelV v a) (rb:RelV v b):SeqAt.EqAt A s a b true:=by
 cases v with
 | non=>cases (show a=Value.none from ra);cases (show b=Value.none from rb);exact SeqAt.EqAt.same _
 | bl c=>cases (show a=Value.bool c from ra);cases (show b=Value.bool c from rb);exact SeqAt.EqAt.same _
 | int i =>
   obtain⟨t,q⟩:=(show ∃ t,a=Value.int i t from ra)
   obtain⟨t',q'⟩:=(show ∃ t,b=Value.int i t from rb)
   cases q;cases q'
   have:=keq_flat (A:=A) (s:=s) (.int i t) (.int i t')
   simpa[PyData.eqv] using this
 | str x =>
   obtain⟨t,q⟩:=(show ∃ t,a=Value.str x t from ra)
   obtain⟨t',q'⟩:=(show ∃ t,b=Value.str x t from rb)
   cases q;cases q'
   have:=keq_flat (A:=A) (s:=s) (.str x t) (.str x t')
   simpa[PyData.eqv] using this
 | ref p=>cases (show a=Value.ref p from ra);cases (show b=Value.ref p from rb);exact SeqAt.EqAt.same _
 | _=>cases h
def qnS:R2:=fun x y H Q=>∃ a b xs,x=.ref a∧y=.ref b∧H a=some (.lst xs)∧H b=some (.lst xs)∧xs.all qcf=true∧Q (.bl false) H
theorem qjZ (hu:X.A.units+64 < cLine):OpR X (compareOp .NotEq) qnS:=by
 intro pins s σ H x y v u Q I rx ry h;obtain⟨a,b,xs,rfl,rfl,ha,hb,pl,q⟩:=h;cases (show v=Value.ref a from rx);cases (show u=Value.ref b from ry);obtain⟨_,i1,n1,r1,l1,e1⟩:=I.lstM ha;obtain⟨_,i2,n2,r2,l2,e2⟩:=I.lstM hb;have hs1:i1.toArray.size=xs.length:=by rw[List.size_toArray];exact r1.length.symm
 have hs2:i2.toArray.size=xs.length:=by rw[List.size_toArray];exact r2.length.symm
 have hs:i1.toArray.size=i2.toArray.size:=hs1.trans hs2.symm
 have k:=SeqAt.RcNeAt.lists (A:=X.A) (s:=s) (e:=fun _=>true) ⟨_,e1,rfl,_,rfl⟩ ⟨_,e2,rfl,_,rfl⟩ hs (by omega) (fun j h1 h2=>by
   have hj:j < xs.length:=by omega
   obtain⟨w1,g1,q1⟩:=r1.get (List.getElem?_eq_getElem hj);obtain⟨w2,g2,q2⟩:=r2.get (List.getElem?_eq_getElem hj);have z1:i1.toArray[j]=w1:=by simpa using (List.getElem?_eq_some_iff.mp g1).2
   have z2:i2.toArray[j]=w2:=by simpa using (List.getElem?_eq_some_iff.mp g2).2
   rw[z1,z2]
   exact qgI (List.all_eq_true.mp pl _ (List.getElem_mem hj)) q1 q2)
 refine k _ _ _ _ ⟨.bl false,H,I,?_,q⟩;rw[show (List.range i1.toArray.size).all (fun _=>true)=true by simp];rfl
end
section
variable {X:Cx}{pins:List (Addr×Obj)}{σ:List (Option V)}{H:Hp}{s:Shared}{h':Heap}
theorem Inv.keptL {t':Nat} (I:Inv X pins σ H s) (k:∀ b u,b≠X.env.locals->s.heap.get? b=some u->h'.get? b=some u) (ns:∀ m,s.heap.Ns X.env.locals m->h'.Ns X.env.locals m) :
   Inv X pins σ H { s with heap:=h',toks:=t' }:=by
 have nL:∀ b u,H b=some u->b≠X.env.locals:=fun b u e z=>by rw[z,I.free]at e;cases e
 refine I.step (g':=s.gens) (d':=s.drawn) (ch:=[]) (fun _ z=>nomatch z) (fun b o hb _ _ e _=>k b o hb e) (fun b o hb _ _ e _=>⟨o.slots,k b o hb e⟩) (fun b o _ e n=>n) (fun b o _ e=>?_)
   (fun b xs q=>q) (fun b u xs q=>q) (fun b ps q=>⟨#[],by rw[q];simp⟩) ns (fun b u e=>?_) I.bare
 · by_cases z:b=X.env.locals
   · obtain⟨m,hm,_⟩:=I.loc;obtain⟨o',_,_,ho',_⟩:=ns m hm;exact⟨o',by rw[z];exact ho'⟩
   · exact⟨o,k b o z e⟩
 · refine(I.hok b u e).stay (fun c v hc q=>k c v ?_ q) (fun c q=>q) fun c xs q=>q;rcases hc with z|z
   · rw[z];exact nL b u e
   · exact nL c _ z
theorem Inv.keptN {t':Nat}{m:Str->Option Value} (I:Inv X pins σ H s) (F:Fr X.base X.env.locals s.heap m) (F':Fr X.base X.env.locals h' m) (N':News X.base X.env.locals h' (qeG X.base s.heap X.env.locals)) :
   Inv X pins σ H { s with heap:=h',toks:=t' }:=by
 refine I.keptL (fun b u ne q=>?_) fun m' hm=>?_
 · cases z:X.base.get? b with
   | some o =>
     have:=I.bk b o z
     rw[q]at this;cases this;exact F'.keep b _ z
   | none=>exact(N' _ (Jl q ne z)).1
 · rw[qj1 hm F.ns];exact F'.ns
inductive qhp (K:Frag) (xs:List V) (H:Hp) (Q:VK):Prop
 | mk (l:Addr) (ns:List Int) (h1:xs=[.ref l]) (h2:SqL K H l (ns.map V.int)) (h3:Q (.int ns.sum) H):qhp K xs H Q
def qlO (K:Frag):List V->Hp->VK->Prop:=fun xs H Q=>qhp K xs H Q
theorem qir (hc:X.calm=true):Zk X (.builtin "sum") (qlO X.K):=by
 intro pins s σ H xs us Q I r h;obtain⟨l,ns,rfl,hq,q⟩:=h;obtain⟨u,rfl,ru⟩:=Jm r;cases (show u=Value.ref l from ru);obtain⟨its,rv,p,hz⟩:=I.list hq;obtain⟨m,F⟩:=I.fr;exact LSm.sum_ints F (qct X.base s.heap X.env.locals) (I.ok.hd hc) p.isList (qf2 rv) fun h' tk t' F' N'=>⟨.int ns.sum,H,I.keptN F F' N',⟨t',rfl⟩,q⟩
end
end L2
namespace M04
open L2
def Mem (ws:List (Int×Int)) (n:Int):Prop:=∃ w∈ws,w.1≤n∧n≤w.2
def zd (ws:List (Int×Int)):Prop:=(∀ w∈ws,w.1≤w.2)∧ws.Pairwise fun a b=>a.2+1 < b.1
def qbW (acc:List (Int×Int)) (w:Int×Int):List (Int×Int):=match acc.getLast? with
 | some l=>if w.1≤l.2+1 then acc.set (acc.length - 1) (l.1,if w.2 > l.2 then w.2 else l.2) else acc++[w]
 | none=>[w]
theorem qc9 (xs ys:List (Int×Int)) (n:Int):Mem (xs++ys) n↔Mem xs n∨Mem ys n:=by
 constructor
 · rintro⟨w,hw,h⟩;rcases List.mem_append.mp hw with m|m
   · exact .inl ⟨w,m,h⟩
   · exact .inr ⟨w,m,h⟩
 · rintro (⟨w,hw,h⟩|⟨w,hw,h⟩)
   · exact⟨w,List.mem_append.mpr (.inl hw),h⟩
   · exact⟨w,List.mem_append.mpr (.inr hw),h⟩
theorem qbm (w:Int×Int) (n:Int):Mem [w] n↔w.1≤n∧n≤w.2:=by
 constructor
 · rintro⟨x,hx,h⟩;have e:x=w:=by simpa using hx
   rw[← e];exact h
 · intro h;exact⟨w,by simp,h⟩
theorem mem_cons (w:Int×Int) (ws:List (Int×Int)) (n:Int):Mem (w::ws) n↔(w.1≤n∧n≤w.2)∨Mem ws n:=by
 rw[show w::ws=[w]++ws from rfl,qc9,qbm]
theorem qjj {acc:List (Int×Int)}{l:Int×Int} (h:acc.getLast?=some l):∃ init,acc=init++[l] :=
 ⟨acc.dropLast,by
   have ne:acc≠[]:=fun z=>by rw[z]at h;cases h
   have e:acc.getLast ne=l:=by rw[List.getLast?_eq_some_getLast ne]at h;exact Option.some.inj h
   rw[← e];exact(List.dropLast_concat_getLast ne).symm⟩
theorem qiR (init:List (Int×Int)) (l x:Int×Int):(init++[l]).set ((init++[l]).length - 1) x=init++[x]:=by
 rw[List.length_append,show init.length+[l].length - 1=init.length by simp,List.set_append_right _ _ (Nat.le_refl _),Nat.sub_self];rfl
theorem canon_snoc {init:List (Int×Int)}{l:Int×Int}:zd (init++[l])↔zd init∧l.1≤l.2∧∀ a∈init,a.2+1 < l.1:=by
 unfold zd;constructor
 · rintro⟨h1,h2⟩;obtain⟨p1,_,p3⟩:=List.pairwise_append.mp h2;exact⟨⟨fun w m=>h1 w (by simp[m]),p1⟩,h1 l (by simp),fun a m=>p3 a m l (by simp)⟩
 · rintro⟨⟨h1,h2⟩,h3,h4⟩;refine⟨fun w m=>?_,List.pairwise_append.mpr ⟨h2,List.pairwise_singleton _ _,fun a ma b mb=>?_⟩⟩
   · rcases List.mem_append.mp m with m|m
     · exact h1 w m
     · have:w=l:=by simpa using m
       rw[this];exact h3
   · have:b=l:=by simpa using mb
     rw[this];exact h4 a ma
theorem qkt {acc:List (Int×Int)}{w:Int×Int} (c:zd acc) (hw:w.1≤w.2) (hl:∀ l∈acc,l.1≤w.1) :
   zd (qbW acc w)∧(∀ n,Mem (qbW acc w) n↔Mem acc n∨(w.1≤n∧n≤w.2))∧∀ l∈qbW acc w,l.1≤w.1:=by
 cases e:acc.getLast? with
 | none =>
   have e0:acc=[]:=List.getLast?_eq_none_iff.mp e;subst e0;show zd [w]∧(∀ n,Mem [w] n↔Mem [] n∨_)∧∀ l∈[w],l.1≤w.1;refine⟨⟨fun x m=>?_,List.pairwise_singleton _ _⟩,fun n=>?_,fun x m=>?_⟩
   · have:x=w:=by simpa using m
     rw[this];exact hw
   · rw[qbm];exact⟨.inr,fun h=>h.elim (fun⟨_,z,_⟩=>nomatch z) id⟩
   · have:x=w:=by simpa using m
     rw[this];exact Int.le_refl _
 | some l =>
   obtain⟨init,rfl⟩:=qjj e;obtain⟨c1,c2,c3⟩:=canon_snoc.mp c;have hl1:=hl l (by simp);unfold qbW;rw[e];dsimp only;by_cases g:w.1≤l.2+1
   · rw[if_pos g,qiR];refine⟨canon_snoc.mpr ⟨c1,by show l.1≤(if w.2 > l.2 then w.2 else l.2);split<;>omega,c3⟩,fun n=>?_,fun x m=>?_⟩
     · rw[qc9,qc9,qbm,qbm,or_assoc];show _∨(l.1≤n∧n≤(if w.2 > l.2 then w.2 else l.2))↔_
       have:(l.1≤n∧n≤(if w.2 > l.2 then w.2 else l.2))↔((l.1≤n∧n≤l.2)∨(w.1≤n∧n≤w.2)):=by
         split<;>omega
       rw[this]
     · rcases List.mem_append.mp m with m|m
       · exact hl x (by simp[m])
       · have:x=(l.1,if w.2 > l.2 then w.2 else l.2):=by simpa using m
         rw[this];exact hl1
   · rw[if_neg g];refine⟨canon_snoc.mpr ⟨c,hw,fun a m=>?_⟩,fun n=>by rw[qc9 _ [w],qbm],fun x m=>?_⟩
     · rcases List.mem_append.mp m with m|m
       · have:=c3 a m;omega
       · have:a=l:=by simpa using m
         rw[this];omega
     · rcases List.mem_append.mp m with m|m
       · exact hl x m
       · have:x=w:=by simpa using m
         rw[this];exact Int.le_refl _
theorem qia:∀ (S acc:List (Int×Int)),zd acc->(∀ w∈S,w.1≤w.2)->S.Pairwise (fun a b=>a.1≤b.1)->(∀ l∈acc,∀ w∈S,l.1≤w.1)->zd (S.foldl qbW acc)∧∀ n,Mem (S.foldl qbW acc) n↔Mem acc n∨Mem S n
 | [],acc,c,_,_,_=>⟨c,fun n=>⟨.inl,fun h=>h.elim id fun⟨_,z,_⟩=>nomatch z⟩⟩
 | w::S,acc,c,ok,hp,hl=>by
   obtain⟨p1,p2⟩:=List.pairwise_cons.mp hp;obtain⟨s1,s2,s3⟩:=qkt c (ok w (by simp)) fun l m=>hl l m w (by simp);obtain⟨f1,f2⟩:=qia S (qbW acc w) s1 (fun x m=>ok x (by simp[m])) p2 fun l m x mx=>Int.le_trans (s3 l m) (p1 x mx);refine⟨f1,fun n=>?_⟩;rw[List.foldl_cons,f2,s2,mem_cons,or_assoc]
theorem Z0 {w:Int×Int}{ws:List (Int×Int)} (c:zd (w::ws)):zd ws∧w.1≤w.2∧∀ n,Mem ws n->w.2+1 < n:=by
 obtain⟨h1,h2⟩:=c;obtain⟨p1,p2⟩:=List.pairwise_cons.mp h2;exact⟨⟨fun x m=>h1 x (by simp[m]),p2⟩,h1 w (by simp),fun n ⟨x,m,a,b⟩=>by have:=p1 x m;omega⟩
theorem qex:∀ {xs ys:List (Int×Int)},zd xs->zd ys->(∀ n,Mem xs n↔Mem ys n)->xs=ys
 | [],[],_,_,_=>rfl
 | [],y::ys,_,c,h=>by
   obtain⟨_,k,_⟩:=Z0 c;obtain⟨_,z,_⟩:=(h y.1).mpr ((mem_cons _ _ _).mpr (.inl ⟨Int.le_refl _,k⟩));cases z
 | x::xs,[],c,_,h=>by
   obtain⟨_,k,_⟩:=Z0 c;obtain⟨_,z,_⟩:=(h x.1).mp ((mem_cons _ _ _).mpr (.inl ⟨Int.le_refl _,k⟩));cases z
 | x::xs,y::ys,c,d,h=>by
   obtain⟨c1,c2,c3⟩:=Z0 c;obtain⟨d1,d2,d3⟩:=Z0 d;have h':∀ n,((x.1≤n∧n≤x.2)∨Mem xs n)↔((y.1≤n∧n≤y.2)∨Mem ys n):=fun n=>by rw[← mem_cons,← mem_cons];exact h n
   have a1:y.1≤x.1:=by
     rcases (h' x.1).mp (.inl ⟨Int.le_refl _,c2⟩) with k|k
     · exact k.1
     · have:=d3 _ k;omega
   have a2:x.1≤y.1:=by
     rcases (h' y.1).mpr (.inl ⟨Int.le_refl _,d2⟩) with k|k
     · exact k.1
     · have:=c3 _ k;omega
   have b1:y.2≤x.2:=by
     rcases Int.lt_or_le x.2 y.2 with lt|le
     · rcases (h' (x.2+1)).mpr (.inl ⟨by omega,by omega⟩) with k|k
       · omega
       · have:=c3 _ k;omega
     · exact le
   have b2:x.2≤y.2:=by
     rcases Int.lt_or_le y.2 x.2 with lt|le
     · rcases (h' (y.2+1)).mp (.inl ⟨by omega,by omega⟩) with k|k
       · omega
       · have:=d3 _ k;omega
     · exact le
   have e:x=y:=Prod.ext (by omega) (by omega);subst e;rw[qex c1 d1 fun n=>?_];constructor
   · intro k
     have:=c3 n k
     rcases (h' n).mp (.inr k) with z|z
     · omega
     · exact z
   · intro k
     have:=d3 n k
     rcases (h' n).mpr (.inr k) with z|z
     · omega
     · exact z
end M04
namespace K76
open PySem L2 PySem.NumText PyProof.Rows KC M04
open PySem.W (Frag keepIn kitOne fnOf codeIn nsIn)
def top (i:Nat):Stmt:=PySem.Challenge.pw_foldlog_k76_picked.main.body.getD i (.Pass ⟨0,0,0,0⟩)
abbrev qaW:Stmt:=top 20
theorem qdD:ql ["thing"] ["thing"] (qg qaW):=⟨rfl,rfl,rfl,by decide +kernel,rfl,by decide +kernel,by decide +kernel⟩
abbrev qb5:Stmt:=top 21
theorem qeP:ql ["thing","low","high"] ["thing","low","high"] (qg qb5):=⟨rfl,rfl,rfl,by decide +kernel,rfl,by decide +kernel,by decide +kernel⟩
abbrev qaX:Stmt:=top 22
theorem qdE:ql ["thing"] ["thing"] (qg qaX):=⟨rfl,rfl,rfl,by decide +kernel,rfl,by decide +kernel,by decide +kernel⟩
abbrev JN:Stmt:=top 23
theorem qcE:ql ["thing"] ["thing"] (qg JN):=⟨rfl,rfl,rfl,by decide +kernel,rfl,by decide +kernel,by decide +kernel⟩
abbrev JO:Stmt:=top 24
theorem qcF:ql ["thing"] ["thing"] (qg JO):=⟨rfl,rfl,rfl,by decide +kernel,rfl,by decide +kernel,by decide +kernel⟩
abbrev qdN:Stmt:=top 25
theorem qgl:ql ["thing"] ["thing"] (qg qdN):=⟨rfl,rfl,rfl,by decide +kernel,rfl,by decide +kernel,by decide +kernel⟩
abbrev JL:Stmt:=top 27
theorem qcD:ql ["thing"] ["thing"] (qg JL):=⟨rfl,rfl,rfl,by decide +kernel,rfl,by decide +kernel,by decide +kernel⟩
abbrev QT:Stmt:=top 28
theorem sc_check_stretches:ql ["stretches","place","stretch"] ["stretches"] (qg QT):=⟨rfl,rfl,rfl,by decide +kernel,rfl,by decide +kernel,by decide +kernel⟩
abbrev qb4:Stmt:=top 29
theorem sc_spans_of:ql ["stretches","told","low","high"] ["stretches"] (qg qb4):=⟨rfl,rfl,rfl,by decide +kernel,rfl,by decide +kernel,by decide +kernel⟩
abbrev qjK:Stmt:=top 30
theorem sc_both:ql ["one","other","told","at_one","at_other","low","high"] ["one","other"] (qg qjK):=⟨rfl,rfl,rfl,by decide +kernel,rfl,by decide +kernel,by decide +kernel⟩
abbrev qb6:Stmt:=top 31
theorem qeQ:ql ["spans"] ["spans"] (qg qb6):=⟨rfl,rfl,rfl,by decide +kernel,rfl,by decide +kernel,by decide +kernel⟩
abbrev JR:Stmt:=top 35
theorem qcG:ql ["thing"] ["thing"] (qg JR):=⟨rfl,rfl,rfl,by decide +kernel,rfl,by decide +kernel,by decide +kernel⟩
abbrev jg:Stmt:=top 36
theorem qaP:ql ["thing"] ["thing"] (qg jg):=⟨rfl,rfl,rfl,by decide +kernel,rfl,by decide +kernel,by decide +kernel⟩
abbrev ZE:Stmt:=top 37
theorem qad:ql ["thing"] ["thing"] (qg ZE):=⟨rfl,rfl,rfl,by decide +kernel,rfl,by decide +kernel,by decide +kernel⟩
abbrev j3:Stmt:=top 45
theorem sc_check_parts:ql ["parts","part"] ["parts"] (qg j3):=⟨rfl,rfl,rfl,by decide +kernel,rfl,by decide +kernel,by decide +kernel⟩
abbrev JQ:Stmt:=top 46
theorem sc_check_part:ql ["part","many"] ["part"] (qg JQ):=⟨rfl,rfl,rfl,by decide +kernel,rfl,by decide +kernel,by decide +kernel⟩
abbrev qfz:Stmt:=top 53
theorem qhh:ql ["thing","keyed"] ["thing","keyed"] (qg qfz):=⟨rfl,rfl,rfl,by decide +kernel,rfl,by decide +kernel,by decide +kernel⟩
abbrev qfy:Stmt:=top 56
theorem qhg:ql ["thing","widest"] ["thing","widest"] (qg qfy):=⟨rfl,rfl,rfl,by decide +kernel,rfl,by decide +kernel,by decide +kernel⟩
abbrev qaV:Stmt:=top 57
theorem qdC:ql ["rows","place"] ["rows","place"] (qg qaV):=⟨rfl,rfl,rfl,by decide +kernel,rfl,by decide +kernel,by decide +kernel⟩
abbrev JP:Stmt:=top 58
theorem sc_check_rows:ql ["rows","most","widest","place","row"] ["rows","most","widest"] (qg JP):=⟨rfl,rfl,rfl,by decide +kernel,rfl,by decide +kernel,by decide +kernel⟩
abbrev qeV:Stmt:=top 59
abbrev qfx:Stmt:=top 64
theorem sc_picked:ql ["log","names","name","told"] ["log","names"] (qg qfx):=⟨rfl,rfl,rfl,by decide +kernel,rfl,by decide +kernel,by decide +kernel⟩
abbrev qhl:Stmt:=top 66
theorem qiS:ql ["_law_script","_law_k"] ["_law_script","_law_k"] (qg qhl):=⟨rfl,rfl,rfl,by decide +kernel,rfl,by decide +kernel,by decide +kernel⟩
abbrev qjL:Stmt:=top 67
theorem sc_Lrow:ql ["_law_cell_here","_law_sizes","_law_found","_law_left","_law_number","_law_k","_law_other"] ["_law_cell_here","_law_sizes"] (qg qjL):=⟨rfl,rfl,rfl,by decide +kernel,rfl,by decide +kernel,by decide +kernel⟩
abbrev qfH:Stmt:=top 68
theorem sc_Ldraws:ql ["_law_cell_here","_law_sizes"] ["_law_cell_here"] (qg qfH):=⟨rfl,rfl,rfl,by decide +kernel,rfl,by decide +kernel,by decide +kernel⟩
abbrev qhm:Stmt:=top 69
theorem qiT:ql ["_law_xs"] ["_law_xs"] (qg qhm):=⟨rfl,rfl,rfl,by decide +kernel,rfl,by decide +kernel,by decide +kernel⟩
abbrev qfB:Stmt:=top 70
theorem sc_Ltable:ql ["_law_xs","_law_base_here","_law_rows","_law_moment_here","_law_k"] ["_law_xs","_law_base_here"] (qg qfB):=⟨rfl,rfl,rfl,by decide +kernel,rfl,by decide +kernel,by decide +kernel⟩
abbrev qdO:Stmt:=top 71
theorem qgm:ql ["_law_xs","_law_base_here"] ["_law_xs","_law_base_here"] (qg qdO):=⟨rfl,rfl,rfl,by decide +kernel,rfl,by decide +kernel,by decide +kernel⟩
abbrev qcc:Stmt:=top 72
theorem sc_Lbetween:ql ["_law_rows","_law_low","_law_high","_law_ends","_law_spans","_law_k","_law_first","_law_last"] ["_law_rows","_law_low","_law_high"] (qg qcc):=⟨rfl,rfl,rfl,by decide +kernel,rfl,by decide +kernel,by decide +kernel⟩
abbrev qfF:Stmt:=top 73
theorem qhj:ql ["_law_moment_here"] ["_law_moment_here"] (qg qfF):=⟨rfl,rfl,rfl,by decide +kernel,rfl,by decide +kernel,by decide +kernel⟩
abbrev qhk:Stmt:=top 74
theorem sc_Lkept:ql ["_law_low","_law_high","_law_spans","_law_moment_here"] ["_law_low","_law_high"] (qg qhk):=⟨rfl,rfl,rfl,by decide +kernel,rfl,by decide +kernel,by decide +kernel⟩
abbrev qfG:Stmt:=top 75
theorem sc_Lentry:ql ["_law_name","_law_xs","_law_base_here","_law_tables_here","_law_low","_law_high","_law_place","_law_rows","_law_reading","_law_parts","_law_some"] ["_law_name","_law_xs","_law_base_here","_law_tables_here"] (qg qfG):=⟨rfl,rfl,rfl,by decide +kernel,rfl,by decide +kernel,by decide +kernel⟩
abbrev qdQ:Stmt:=top 76
theorem sc_Lmoment:ql ["_law_spans","_law_number","_law_base_here","_law_low","_law_high"] ["_law_spans","_law_number","_law_base_here"] (qg qdQ):=⟨rfl,rfl,rfl,by decide +kernel,rfl,by decide +kernel,by decide +kernel⟩
abbrev qcb:Stmt:=top 77
theorem qeU:ql ["_law_style","_law_number","_law_gap"] ["_law_style","_law_number","_law_gap"] (qg qcb):=⟨rfl,rfl,rfl,by decide +kernel,rfl,by decide +kernel,by decide +kernel⟩
abbrev qfD:Stmt:=top 78
theorem sc_Lnames:ql ["_law_xs","_law_pool"] ["_law_xs"] (qg qfD):=⟨rfl,rfl,rfl,by decide +kernel,rfl,by decide +kernel,by decide +kernel⟩
abbrev qfI:Stmt:=top 79
theorem sc_Ldrawn:ql ["_law_xs","_law_base_here","_law_tables_here","_law_names_here","_law_entries","_law_sets","_law_moments","_law_k","_law_entry_here","_law_spans","_law_bonds","_law_later","_law_earlier","_law_style"] ["_law_xs","_law_base_here","_law_tables_here"] (qg qfI):=⟨rfl,rfl,rfl,by decide +kernel,rfl,by decide +kernel,by decide +kernel⟩
abbrev qfE:Stmt:=top 80
theorem qhi:ql ["_law_drawn_here"] ["_law_drawn_here"] (qg qfE):=⟨rfl,rfl,rfl,by decide +kernel,rfl,by decide +kernel,by decide +kernel⟩
abbrev qfJ:Stmt:=top 81
theorem sc_Lbuilt:ql ["_law_drawn_here","_law_log_here","_law_place","_law_rows","_law_entry_here","_law_later","_law_earlier","_law_minutes_here"] ["_law_drawn_here"] (qg qfJ):=⟨rfl,rfl,rfl,by decide +kernel,rfl,by decide +kernel,by decide +kernel⟩
abbrev qjM:Stmt:=top 82
theorem sc_Llog:ql ["_law_cell_here","_law_xs","_law_base_here"] ["_law_cell_here"] (qg qjM):=⟨rfl,rfl,rfl,by decide +kernel,rfl,by decide +kernel,by decide +kernel⟩
abbrev qfA:Stmt:=top 83
theorem sc_Ltells:ql ["_law_log_here","_law_drawn_here","_law_place","_law_rows","_law_k","_law_entry_here"] ["_law_log_here","_law_drawn_here"] (qg qfA):=⟨rfl,rfl,rfl,by decide +kernel,rfl,by decide +kernel,by decide +kernel⟩
abbrev qjN:Stmt:=top 84
theorem sc_Ldue:ql ["_law_drawn_here","_law_wanted","_law_kept_here","_law_bonds","_law_later","_law_earlier","_law_minutes_here","_law_names_here"] ["_law_drawn_here","_law_wanted"] (qg qjN):=⟨rfl,rfl,rfl,by decide +kernel,rfl,by decide +kernel,by decide +kernel⟩
abbrev qb7:Stmt:=top 85
theorem sc_Lrefused:ql ["_law_log_here","_law_names_here","_law_bad","_law_kept_here","e"] ["_law_log_here","_law_names_here","_law_bad"] (qg qb7):=⟨rfl,rfl,rfl,by decide +kernel,rfl,by decide +kernel,by decide +kernel⟩
abbrev qdR:Stmt:=top 86
theorem qgn:ql ["_law_log_here"] ["_law_log_here"] (qg qdR):=⟨rfl,rfl,rfl,by decide +kernel,rfl,by decide +kernel,by decide +kernel⟩
abbrev qfC:Stmt:=top 87
theorem sc_Lright:ql ["_law_drawn_here","_law_wanted","_law_log_here","_law_due_here","_law_handed","_law_found","_law_beside","_law_name"] ["_law_drawn_here","_law_wanted"] (qg qfC):=⟨rfl,rfl,rfl,by decide +kernel,rfl,by decide +kernel,by decide +kernel⟩
abbrev qa1:Stmt:=top 88
theorem sc_Lrefusals:ql ["_law_drawn_here","_law_wanted","_law_number","_law_log_here","_law_at","_law_bad"] ["_law_drawn_here","_law_wanted","_law_number"] (qg qa1):=⟨rfl,rfl,rfl,by decide +kernel,rfl,by decide +kernel,by decide +kernel⟩
abbrev qlL:Stmt:=top 89
theorem sc_law:ql ["_law_script","_law_k","_law_drawn_here","_law_xs","_law_wanted"] ["_law_script"] (qg qlL):=⟨rfl,rfl,rfl,by decide +kernel,rfl,by decide +kernel,by decide +kernel⟩
abbrev J0:Stmt:=qD (top 38) 0
theorem qcO:ql ["self","name"] ["self","name"] (qg J0):=⟨rfl,rfl,rfl,by decide +kernel,rfl,by decide +kernel,by decide +kernel⟩
abbrev JZ:Stmt:=qD (top 38) 1
theorem qcN:ql ["self"] ["self"] (qg JZ):=⟨rfl,rfl,rfl,by decide +kernel,rfl,by decide +kernel,by decide +kernel⟩
abbrev jo:Stmt:=qD (top 38) 2
theorem qaS:ql ["self"] ["self"] (qg jo):=⟨rfl,rfl,rfl,by decide +kernel,rfl,by decide +kernel,by decide +kernel⟩
abbrev j9:Stmt:=qD (top 38) 3
theorem qbL:ql ["self","tables"] ["self","tables"] (qg j9):=⟨rfl,rfl,rfl,by decide +kernel,rfl,by decide +kernel,by decide +kernel⟩
abbrev j5:Stmt:=qD (top 39) 0
theorem qbI:ql ["self","name","low","high"] ["self","name","low","high"] (qg j5):=⟨rfl,rfl,rfl,by decide +kernel,rfl,by decide +kernel,by decide +kernel⟩
abbrev j4:Stmt:=qD (top 39) 1
theorem qbH:ql ["self"] ["self"] (qg j4):=⟨rfl,rfl,rfl,by decide +kernel,rfl,by decide +kernel,by decide +kernel⟩
abbrev jh:Stmt:=qD (top 39) 2
theorem qaQ:ql ["self","tables"] ["self","tables"] (qg jh):=⟨rfl,rfl,rfl,by decide +kernel,rfl,by decide +kernel,by decide +kernel⟩
abbrev qdT:Stmt:=qD (top 40) 0
theorem qgp:ql ["self","name","moment"] ["self","name","moment"] (qg qdT):=⟨rfl,rfl,rfl,by decide +kernel,rfl,by decide +kernel,by decide +kernel⟩
abbrev qdS:Stmt:=qD (top 40) 1
theorem qgo:ql ["self"] ["self"] (qg qdS):=⟨rfl,rfl,rfl,by decide +kernel,rfl,by decide +kernel,by decide +kernel⟩
abbrev jq:Stmt:=qD (top 41) 0
theorem qaU:ql ["self","name","place","low","high"] ["self","name","place","low","high"] (qg jq):=⟨rfl,rfl,rfl,by decide +kernel,rfl,by decide +kernel,by decide +kernel⟩
abbrev jp:Stmt:=qD (top 41) 1
theorem qaT:ql ["self"] ["self"] (qg jp):=⟨rfl,rfl,rfl,by decide +kernel,rfl,by decide +kernel,by decide +kernel⟩
abbrev Ze:Stmt:=qD (top 41) 2
theorem Jr:ql ["self"] ["self"] (qg Ze):=⟨rfl,rfl,rfl,by decide +kernel,rfl,by decide +kernel,by decide +kernel⟩
abbrev ZH:Stmt:=qD (top 41) 3
theorem qag:ql ["self","tables"] ["self","tables"] (qg ZH):=⟨rfl,rfl,rfl,by decide +kernel,rfl,by decide +kernel,by decide +kernel⟩
abbrev qa0:Stmt:=qD (top 42) 0
theorem qdG:ql ["self","name","place","reading"] ["self","name","place","reading"] (qg qa0):=⟨rfl,rfl,rfl,by decide +kernel,rfl,by decide +kernel,by decide +kernel⟩
abbrev qaZ:Stmt:=qD (top 42) 1
theorem qdF:ql ["self"] ["self"] (qg qaZ):=⟨rfl,rfl,rfl,by decide +kernel,rfl,by decide +kernel,by decide +kernel⟩
abbrev JY:Stmt:=qD (top 43) 0
theorem qcM:ql ["self","name","parts"] ["self","name","parts"] (qg JY):=⟨rfl,rfl,rfl,by decide +kernel,rfl,by decide +kernel,by decide +kernel⟩
abbrev JX:Stmt:=qD (top 43) 1
theorem qcL:ql ["self"] ["self"] (qg JX):=⟨rfl,rfl,rfl,by decide +kernel,rfl,by decide +kernel,by decide +kernel⟩
abbrev qcP:Stmt:=qD (top 43) 2
abbrev jm:Stmt:=qD (top 43) 3
theorem sc_Joint_places:ql ["self","told","part"] ["self"] (qg jm):=⟨rfl,rfl,rfl,by decide +kernel,rfl,by decide +kernel,by decide +kernel⟩
abbrev j8:Stmt:=qD (top 43) 4
theorem sc_Joint_spans:ql ["self","tables","told","part"] ["self","tables"] (qg j8):=⟨rfl,rfl,rfl,by decide +kernel,rfl,by decide +kernel,by decide +kernel⟩
abbrev j7:Stmt:=qD (top 44) 0
theorem qbK:ql ["self","name","part","keeps"] ["self","name","part","keeps"] (qg j7):=⟨rfl,rfl,rfl,by decide +kernel,rfl,by decide +kernel,by decide +kernel⟩
abbrev j6:Stmt:=qD (top 44) 1
theorem qbJ:ql ["self"] ["self"] (qg j6):=⟨rfl,rfl,rfl,by decide +kernel,rfl,by decide +kernel,by decide +kernel⟩
abbrev ZF:Stmt:=qD (top 44) 2
theorem qae:ql ["self"] ["self"] (qg ZF):=⟨rfl,rfl,rfl,by decide +kernel,rfl,by decide +kernel,by decide +kernel⟩
abbrev jj:Stmt:=qD (top 44) 3
theorem sc_Sifted_spans:ql ["self","tables","keeps","told","low","high"] ["self","tables"] (qg jj):=⟨rfl,rfl,rfl,by decide +kernel,rfl,by decide +kernel,by decide +kernel⟩
abbrev qb8:Stmt:=qD (top 54) 0
theorem qeR:ql ["self"] ["self"] (qg qb8):=⟨rfl,rfl,rfl,by decide +kernel,rfl,by decide +kernel,by decide +kernel⟩
abbrev qa6:Stmt:=qD (top 54) 1
theorem qdL:ql ["self","place","table"] ["self","place","table"] (qg qa6):=⟨rfl,rfl,rfl,by decide +kernel,rfl,by decide +kernel,by decide +kernel⟩
abbrev qdP:Stmt:=qD (top 54) 2
theorem sc_Log_put:ql ["self","entry","place"] ["self","entry"] (qg qdP):=⟨rfl,rfl,rfl,by decide +kernel,rfl,by decide +kernel,by decide +kernel⟩
abbrev qca:Stmt:=qD (top 54) 3
theorem qeT:ql ["self","later","earlier","minutes"] ["self","later","earlier","minutes"] (qg qca):=⟨rfl,rfl,rfl,by decide +kernel,rfl,by decide +kernel,by decide +kernel⟩
abbrev JU:Stmt:=qD (top 54) 4
theorem qcJ:ql ["self","number"] ["self","number"] (qg JU):=⟨rfl,rfl,rfl,by decide +kernel,rfl,by decide +kernel,by decide +kernel⟩
abbrev qb9:Stmt:=qD (top 54) 5
theorem qeS:ql ["self","name"] ["self","name"] (qg qb9):=⟨rfl,rfl,rfl,by decide +kernel,rfl,by decide +kernel,by decide +kernel⟩
abbrev QU:Stmt:=qD (top 54) 6
theorem j0:ql ["self","name"] ["self","name"] (qg QU):=⟨rfl,rfl,rfl,by decide +kernel,rfl,by decide +kernel,by decide +kernel⟩
abbrev Zd:Stmt:=qD (top 54) 7
theorem Jq:ql ["self","number"] ["self","number"] (qg Zd):=⟨rfl,rfl,rfl,by decide +kernel,rfl,by decide +kernel,by decide +kernel⟩
abbrev qa4:Stmt:=qD (top 54) 8
theorem qdJ:ql ["self"] ["self"] (qg qa4):=⟨rfl,rfl,rfl,by decide +kernel,rfl,by decide +kernel,by decide +kernel⟩
abbrev qa5:Stmt:=qD (top 54) 9
theorem qdK:ql ["self","name"] ["self","name"] (qg qa5):=⟨rfl,rfl,rfl,by decide +kernel,rfl,by decide +kernel,by decide +kernel⟩
abbrev qa3:Stmt:=qD (top 54) 10
theorem qdI:ql ["self","name"] ["self","name"] (qg qa3):=⟨rfl,rfl,rfl,by decide +kernel,rfl,by decide +kernel,by decide +kernel⟩
abbrev qa7:Stmt:=qD (top 54) 11
theorem qdM:ql ["self"] ["self"] (qg qa7):=⟨rfl,rfl,rfl,by decide +kernel,rfl,by decide +kernel,by decide +kernel⟩
abbrev JV:Stmt:=qD (top 54) 12
theorem qcK:ql ["self"] ["self"] (qg JV):=⟨rfl,rfl,rfl,by decide +kernel,rfl,by decide +kernel,by decide +kernel⟩
abbrev qa2:Stmt:=qD (top 54) 13
theorem qdH:ql ["self","place"] ["self","place"] (qg qa2):=⟨rfl,rfl,rfl,by decide +kernel,rfl,by decide +kernel,by decide +kernel⟩
abbrev JW:Stmt:=qD (top 54) 15
theorem sc_Log_copied:ql ["self","told"] ["self"] (qg JW):=⟨rfl,rfl,rfl,by decide +kernel,rfl,by decide +kernel,by decide +kernel⟩
abbrev JT:Stmt:=qD (top 62) 0
theorem qcI:ql ["self","rows"] ["self","rows"] (qg JT):=⟨rfl,rfl,rfl,by decide +kernel,rfl,by decide +kernel,by decide +kernel⟩
abbrev JS:Stmt:=qD (top 62) 1
theorem qcH:ql ["self"] ["self"] (qg JS):=⟨rfl,rfl,rfl,by decide +kernel,rfl,by decide +kernel,by decide +kernel⟩
abbrev ji:Stmt:=qD (top 62) 2
theorem sc_Table_pieces:ql ["self","ends"] ["self"] (qg ji):=⟨rfl,rfl,rfl,by decide +kernel,rfl,by decide +kernel,by decide +kernel⟩
abbrev qah:Stmt:=qD (top 62) 3
abbrev qaY:Stmt:=qD (top 62) 4
abbrev zP:Stmt:=qD (top 62) 6
theorem QS:ql ["self","low","high"] ["self","low","high"] (qg zP):=⟨rfl,rfl,rfl,by decide +kernel,rfl,by decide +kernel,by decide +kernel⟩
abbrev jk:Stmt:=qD (top 10) 0
theorem qaR:ql ["self","found"] ["self","found"] (qg jk):=⟨rfl,rfl,rfl,by decide +kernel,rfl,by decide +kernel,by decide +kernel⟩
abbrev ZG:Stmt:=qD (top 2) 0
theorem qaf:ql ["self","text"] ["self","text"] (qg ZG):=⟨rfl,rfl,rfl,by decide +kernel,rfl,by decide +kernel,by decide +kernel⟩
set_option genInjectivity false in
structure Ad where
 c_LogError:Addr
 c_NoSpans:Addr
 c_NoTable:Addr
 c_TooMany:Addr
 c_NoMoment:Addr
 c_NoReading:Addr
 c_NoName:Addr
 c_NoPlace:Addr
 c_NoEntry:Addr
 c_Taken:Addr
 c_NoMinutes:Addr
 c_NoBond:Addr
 c_Entry:Addr
 c_Within:Addr
 c_At:Addr
 c_Between:Addr
 c_Read:Addr
 c_Joint:Addr
 c_Sifted:Addr
 c_Log:Addr
 c_Table:Addr
 f_n:Addr
 fd_n:FuncData
 f_a:Addr
 fd_a:FuncData
 f_w:Addr
 fd_w:FuncData
 f_o:Addr
 fd_o:FuncData
 f_V:Addr
 fd_V:FuncData
 f_x:Addr
 fd_x:FuncData
 f_W:Addr
 fd_W:FuncData
 f_X:Addr
 fd_X:FuncData
 f_j:Addr
 fd_j:FuncData
 f_Y:Addr
 fd_Y:FuncData
 f_Z:Addr
 fd_Z:FuncData
 f_y:Addr
 fd_y:FuncData
 f_I:Addr
 fd_I:FuncData
 f_J:Addr
 fd_J:FuncData
 f_0:Addr
 fd_0:FuncData
 f_1:Addr
 fd_1:FuncData
 f_z:Addr
 fd_z:FuncData
 f_2:Addr
 fd_2:FuncData
 f_3:Addr
 fd_3:FuncData
 f_4:Addr
 fd_4:FuncData
 f_aB:Addr
 fd_aB:FuncData
 f_p:Addr
 fd_p:FuncData
 f_K:Addr
 fd_K:FuncData
 f_A:Addr
 fd_A:FuncData
 f_5:Addr
 fd_5:FuncData
 f_6:Addr
 fd_6:FuncData
 f_L:Addr
 fd_L:FuncData
 f_7:Addr
 fd_7:FuncData
 f_t:Addr
 fd_t:FuncData
 f_D:Addr
 fd_D:FuncData
 f_8:Addr
 fd_8:FuncData
 f_9:Addr
 fd_9:FuncData
 f_aa:Addr
 fd_aa:FuncData
 f_ab:Addr
 fd_ab:FuncData
 f_ac:Addr
 fd_ac:FuncData
 f_ad:Addr
 fd_ad:FuncData
 f_B:Addr
 fd_B:FuncData
 f_C:Addr
 fd_C:FuncData
 f_ae:Addr
 fd_ae:FuncData
 f_c:Addr
 fd_c:FuncData
 f_af:Addr
 fd_af:FuncData
 f_M:Addr
 fd_M:FuncData
 f_N:Addr
 fd_N:FuncData
 f_u:Addr
 fd_u:FuncData
 f_ag:Addr
 fd_ag:FuncData
 f_aA:Addr
 fd_aA:FuncData
 f_f:Addr
 fd_f:FuncData
 f_O:Addr
 fd_O:FuncData
 f_d:Addr
 fd_d:FuncData
 f_E:Addr
 fd_E:FuncData
 f_k:Addr
 fd_k:FuncData
 f_P:Addr
 fd_P:FuncData
 f_b:Addr
 fd_b:FuncData
 f_G:Addr
 fd_G:FuncData
 f_Q:Addr
 fd_Q:FuncData
 f_v:Addr
 fd_v:FuncData
 f_R:Addr
 fd_R:FuncData
 f_h:Addr
 fd_h:FuncData
 f_i:Addr
 fd_i:FuncData
 f_ah:Addr
 fd_ah:FuncData
 f_S:Addr
 fd_S:FuncData
 f_ai:Addr
 fd_ai:FuncData
 f_T:Addr
 fd_T:FuncData
 f_aC:Addr
 fd_aC:FuncData
 f_aj:Addr
 fd_aj:FuncData
 f_ak:Addr
 fd_ak:FuncData
 f_al:Addr
 fd_al:FuncData
 f_U:Addr
 fd_U:FuncData
 f_am:Addr
 fd_am:FuncData
 f_an:Addr
 fd_an:FuncData
 f_H:Addr
 fd_H:FuncData
 f_l:Addr
 fd_l:FuncData
 f_F:Addr
 fd_F:FuncData
 f_r:Addr
 fd_r:FuncData
 f_ao:Addr
 fd_ao:FuncData
 f_s:Addr
 fd_s:FuncData
 f_g:Addr
 fd_g:FuncData
 f_ap:Addr
 fd_ap:FuncData
 f_m:Addr
 fd_m:FuncData
 f_e:Addr
 fd_e:FuncData
 f_aq:Addr
 fd_aq:FuncData
 f_ar:Addr
 fd_ar:FuncData
 f_as:Addr
 fd_as:FuncData
 f_at:Addr
 fd_at:FuncData
 f_au:Addr
 fd_au:FuncData
 f_q:Addr
 fd_q:FuncData
 f_av:Addr
 fd_av:FuncData
 f_aw:Addr
 fd_aw:FuncData
 f_aD:Addr
 fd_aD:FuncData
 f_aE:Addr
 fd_aE:FuncData
 f_ax:Addr
 fd_ax:FuncData
 f_ay:Addr
 fd_ay:FuncData
 f_az:Addr
 fd_az:FuncData
structure DfM (K:Frag) (C:Addr) (x q:Str) (st:Stmt) (ps:List Str) (f:Addr) (fd:FuncData):Prop where
 F:Fun K x q st f fd
 b:Binds K fd ps []
 mt:qiG K C x f
structure Txt (K:Frag) (mg:Str->Option Value) (a:Ad):Prop where
 d_n:Df K mg "is_number" qaW ["thing"] a.f_n a.fd_n
 d_a:Df K mg "is_whole" qb5 ["thing","low","high"] a.f_a a.fd_a
 d_w:Df K mg "is_moment" qaX ["thing"] a.f_w a.fd_w
 d_o:Df K mg "is_reading" JN ["thing"] a.f_o a.fd_o
 d_V:Df K mg "is_minutes" JO ["thing"] a.f_V a.fd_V
 d_x:Df K mg "is_name" qdN ["thing"] a.f_x a.fd_x
 d_W:Df K mg "is_stretch" JL ["thing"] a.f_W a.fd_W
 d_X:Df K mg "check_stretches" QT ["stretches"] a.f_X a.fd_X
 d_j:Df K mg "spans_of" qb4 ["stretches"] a.f_j a.fd_j
 d_Y:Df K mg "both" qjK ["one","other"] a.f_Y a.fd_Y
 d_Z:Df K mg "how_many" qb6 ["spans"] a.f_Z a.fd_Z
 d_y:Df K mg "check_name" JR ["thing"] a.f_y a.fd_y
 d_I:Df K mg "check_moment" jg ["thing"] a.f_I a.fd_I
 d_J:Df K mg "check_reading" ZE ["thing"] a.f_J a.fd_J
 d_0:Df K mg "check_parts" j3 ["parts"] a.f_0 a.fd_0
 d_1:Df K mg "check_part" JQ ["part"] a.f_1 a.fd_1
 d_z:Df K mg "is_key" qfz ["thing","keyed"] a.f_z a.fd_z
 d_2:Df K mg "is_row" qfy ["thing","widest"] a.f_2 a.fd_2
 d_3:Df K mg "may_stand" qaV ["rows","place"] a.f_3 a.fd_3
 d_4:Df K mg "check_rows" JP ["rows","most","widest"] a.f_4 a.fd_4
 d_aB:Df K mg "number_at" qeV ["rows","moment"] a.f_aB a.fd_aB
 d_p:Df K mg "picked" qfx ["log","names"] a.f_p a.fd_p
 d_K:Df K mg "_law_cell" qhl ["_law_script","_law_k"] a.f_K a.fd_K
 d_A:Df K mg "_law_row" qjL ["_law_cell_here","_law_sizes"] a.f_A a.fd_A
 d_5:Df K mg "_law_draws" qfH ["_law_cell_here"] a.f_5 a.fd_5
 d_6:Df K mg "_law_base" qhm ["_law_xs"] a.f_6 a.fd_6
 d_L:Df K mg "_law_table" qfB ["_law_xs","_law_base_here"] a.f_L a.fd_L
 d_7:Df K mg "_law_tables" qdO ["_law_xs","_law_base_here"] a.f_7 a.fd_7
 d_t:Df K mg "_law_between" qcc ["_law_rows","_law_low","_law_high"] a.f_t a.fd_t
 d_D:Df K mg "_law_keeps" qfF ["_law_moment_here"] a.f_D a.fd_D
 d_8:Df K mg "_law_kept" qhk ["_law_low","_law_high"] a.f_8 a.fd_8
 d_9:Df K mg "_law_entry" qfG ["_law_name","_law_xs","_law_base_here","_law_tables_here"] a.f_9 a.fd_9
 d_aa:Df K mg "_law_moment" qdQ ["_law_spans","_law_number","_law_base_here"] a.f_aa a.fd_aa
 d_ab:Df K mg "_law_minutes" qcb ["_law_style","_law_number","_law_gap"] a.f_ab a.fd_ab
 d_ac:Df K mg "_law_names" qfD ["_law_xs"] a.f_ac a.fd_ac
 d_ad:Df K mg "_law_drawn" qfI ["_law_xs","_law_base_here","_law_tables_here"] a.f_ad a.fd_ad
 d_B:Df K mg "_law_named" qfE ["_law_drawn_here"] a.f_B a.fd_B
 d_C:Df K mg "_law_built" qfJ ["_law_drawn_here"] a.f_C a.fd_C
 d_ae:Df K mg "_law_log" qjM ["_law_cell_here"] a.f_ae a.fd_ae
 d_c:Df K mg "_law_tells" qfA ["_law_log_here","_law_drawn_here"] a.f_c a.fd_c
 d_af:Df K mg "_law_due" qjN ["_law_drawn_here","_law_wanted"] a.f_af a.fd_af
 d_M:Df K mg "_law_refused" qb7 ["_law_log_here","_law_names_here","_law_bad"] a.f_M a.fd_M
 d_N:Df K mg "_law_change" qdR ["_law_log_here"] a.f_N a.fd_N
 d_u:Df K mg "_law_right" qfC ["_law_drawn_here","_law_wanted"] a.f_u a.fd_u
 d_ag:Df K mg "_law_refusals" qa1 ["_law_drawn_here","_law_wanted","_law_number"] a.f_ag a.fd_ag
 d_aA:Df K mg "law" qlL ["_law_script"] a.f_aA a.fd_aA
 d_f:DfM K a.c_Entry "__init__" "Entry.__init__" J0 ["self","name"] a.f_f a.fd_f
 d_O:DfM K a.c_Entry "word" "Entry.word" JZ ["self"] a.f_O a.fd_O
 d_d:DfM K a.c_Entry "places" "Entry.places" jo ["self"] a.f_d a.fd_d
 d_E:DfM K a.c_Entry "spans" "Entry.spans" j9 ["self","tables"] a.f_E a.fd_E
 d_k:DfM K a.c_Within "__init__" "Within.__init__" j5 ["self","name","low","high"] a.f_k a.fd_k
 d_P:DfM K a.c_Within "word" "Within.word" j4 ["self"] a.f_P a.fd_P
 d_b:DfM K a.c_Within "spans" "Within.spans" jh ["self","tables"] a.f_b a.fd_b
 d_G:DfM K a.c_At "__init__" "At.__init__" qdT ["self","name","moment"] a.f_G a.fd_G
 d_Q:DfM K a.c_At "word" "At.word" qdS ["self"] a.f_Q a.fd_Q
 d_v:DfM K a.c_Between "__init__" "Between.__init__" jq ["self","name","place","low","high"] a.f_v a.fd_v
 d_R:DfM K a.c_Between "word" "Between.word" jp ["self"] a.f_R a.fd_R
 d_h:DfM K a.c_Between "places" "Between.places" Ze ["self"] a.f_h a.fd_h
 d_i:DfM K a.c_Between "spans" "Between.spans" ZH ["self","tables"] a.f_i a.fd_i
 d_ah:DfM K a.c_Read "__init__" "Read.__init__" qa0 ["self","name","place","reading"] a.f_ah a.fd_ah
 d_S:DfM K a.c_Read "word" "Read.word" qaZ ["self"] a.f_S a.fd_S
 d_ai:DfM K a.c_Joint "__init__" "Joint.__init__" JY ["self","name","parts"] a.f_ai a.fd_ai
 d_T:DfM K a.c_Joint "word" "Joint.word" JX ["self"] a.f_T a.fd_T
 d_aC:DfM K a.c_Joint "parts" "Joint.parts" qcP ["self"] a.f_aC a.fd_aC
 d_aj:DfM K a.c_Joint "places" "Joint.places" jm ["self"] a.f_aj a.fd_aj
 d_ak:DfM K a.c_Joint "spans" "Joint.spans" j8 ["self","tables"] a.f_ak a.fd_ak
 d_al:DfM K a.c_Sifted "__init__" "Sifted.__init__" j7 ["self","name","part","keeps"] a.f_al a.fd_al
 d_U:DfM K a.c_Sifted "word" "Sifted.word" j6 ["self"] a.f_U a.fd_U
 d_am:DfM K a.c_Sifted "places" "Sifted.places" ZF ["self"] a.f_am a.fd_am
 d_an:DfM K a.c_Sifted "spans" "Sifted.spans" jj ["self","tables"] a.f_an a.fd_an
 d_H:DfM K a.c_Log "__init__" "Log.__init__" qb8 ["self"] a.f_H a.fd_H
 d_l:DfM K a.c_Log "clock" "Log.clock" qa6 ["self","place","table"] a.f_l a.fd_l
 d_F:DfM K a.c_Log "put" "Log.put" qdP ["self","entry"] a.f_F a.fd_F
 d_r:DfM K a.c_Log "bind" "Log.bind" qca ["self","later","earlier","minutes"] a.f_r a.fd_r
 d_ao:DfM K a.c_Log "unbind" "Log.unbind" JU ["self","number"] a.f_ao a.fd_ao
 d_s:DfM K a.c_Log "drop" "Log.drop" qb9 ["self","name"] a.f_s a.fd_s
 d_g:DfM K a.c_Log "check_entry" "Log.check_entry" QU ["self","name"] a.f_g a.fd_g
 d_ap:DfM K a.c_Log "check_bond" "Log.check_bond" Zd ["self","number"] a.f_ap a.fd_ap
 d_m:DfM K a.c_Log "names" "Log.names" qa4 ["self"] a.f_m a.fd_m
 d_e:DfM K a.c_Log "entry" "Log.entry" qa5 ["self","name"] a.f_e a.fd_e
 d_aq:DfM K a.c_Log "spans" "Log.spans" qa3 ["self","name"] a.f_aq a.fd_aq
 d_ar:DfM K a.c_Log "bonds" "Log.bonds" qa7 ["self"] a.f_ar a.fd_ar
 d_as:DfM K a.c_Log "places" "Log.places" JV ["self"] a.f_as a.fd_as
 d_at:DfM K a.c_Log "table" "Log.table" qa2 ["self","place"] a.f_at a.fd_at
 d_au:DfM K a.c_Log "copied" "Log.copied" JW ["self"] a.f_au a.fd_au
 d_q:DfM K a.c_Table "__init__" "Table.__init__" JT ["self","rows"] a.f_q a.fd_q
 d_av:DfM K a.c_Table "rows" "Table.rows" JS ["self"] a.f_av a.fd_av
 d_aw:DfM K a.c_Table "pieces" "Table.pieces" ji ["self"] a.f_aw a.fd_aw
 d_aD:DfM K a.c_Table "shift_at" "Table.shift_at" qah ["self","moment"] a.f_aD a.fd_aD
 d_aE:DfM K a.c_Table "reading" "Table.reading" qaY ["self","moment"] a.f_aE a.fd_aE
 d_ax:DfM K a.c_Table "moments_between" "Table.moments_between" zP ["self","low","high"] a.f_ax a.fd_ax
 d_ay:DfM K a.c_NoEntry "__init__" "NoEntry.__init__" jk ["self","found"] a.f_ay a.fd_ay
 d_az:DfM K a.c_LogError "__init__" "LogError.__init__" ZG ["self","text"] a.f_az a.fd_az
 g_Entry:mg "Entry"=some (.ref a.c_Entry)
 cl_Entry:Cls K a.c_Entry
 M_Entry:Mk K a.c_Entry a.f_f
 n_Entry_name:NoAttr K a.c_Entry "name"
 g_Within:mg "Within"=some (.ref a.c_Within)
 cl_Within:Cls K a.c_Within
 M_Within:Mk K a.c_Within a.f_k
 n_Within_low:NoAttr K a.c_Within "low"
 n_Within_high:NoAttr K a.c_Within "high"
 n_Within_name:NoAttr K a.c_Within "name"
 g_At:mg "At"=some (.ref a.c_At)
 cl_At:Cls K a.c_At
 M_At:Mk K a.c_At a.f_G
 n_At_low:NoAttr K a.c_At "low"
 n_At_high:NoAttr K a.c_At "high"
 n_At_name:NoAttr K a.c_At "name"
 g_Between:mg "Between"=some (.ref a.c_Between)
 cl_Between:Cls K a.c_Between
 M_Between:Mk K a.c_Between a.f_v
 n_Between_place:NoAttr K a.c_Between "place"
 n_Between_low:NoAttr K a.c_Between "low"
 n_Between_high:NoAttr K a.c_Between "high"
 n_Between_name:NoAttr K a.c_Between "name"
 g_Read:mg "Read"=some (.ref a.c_Read)
 cl_Read:Cls K a.c_Read
 M_Read:Mk K a.c_Read a.f_ah
 n_Read_place:NoAttr K a.c_Read "place"
 n_Read_low:NoAttr K a.c_Read "low"
 n_Read_high:NoAttr K a.c_Read "high"
 n_Read_name:NoAttr K a.c_Read "name"
 g_Joint:mg "Joint"=some (.ref a.c_Joint)
 cl_Joint:Cls K a.c_Joint
 M_Joint:Mk K a.c_Joint a.f_ai
 n_Joint_kept_parts:NoAttr K a.c_Joint "kept_parts"
 n_Joint_name:NoAttr K a.c_Joint "name"
 g_Sifted:mg "Sifted"=some (.ref a.c_Sifted)
 cl_Sifted:Cls K a.c_Sifted
 M_Sifted:Mk K a.c_Sifted a.f_al
 n_Sifted_part:NoAttr K a.c_Sifted "part"
 n_Sifted_keeps:NoAttr K a.c_Sifted "keeps"
 n_Sifted_name:NoAttr K a.c_Sifted "name"
 g_Log:mg "Log"=some (.ref a.c_Log)
 cl_Log:Cls K a.c_Log
 M_Log:Mk K a.c_Log a.f_H
 n_Log_tables:NoAttr K a.c_Log "tables"
 n_Log_entries:NoAttr K a.c_Log "entries"
 n_Log_bound:NoAttr K a.c_Log "bound"
 g_Table:mg "Table"=some (.ref a.c_Table)
 cl_Table:Cls K a.c_Table
 M_Table:Mk K a.c_Table a.f_q
 n_Table_kept:NoAttr K a.c_Table "kept"
 n_len:mg "len"=none
 n_max:mg "max"=none
 n_min:mg "min"=none
 n_isinstance:mg "isinstance"=none
 n_range:mg "range"=none
 n_enumerate:mg "enumerate"=none
 n_int:mg "int"=none
 n_bool:mg "bool"=none
 n_str:mg "str"=none
 n_list:mg "list"=none
 n_tuple:mg "tuple"=none
 n_dict:mg "dict"=none
 n_sorted:mg "sorted"=none
 n_sum:mg "sum"=none
 n_zip:mg "zip"=none
 n_all:mg "all"=none
 g_LAST:∃ t,mg "LAST"=some (.int 1000000000 t)
 g_WIDEST_READING:∃ t,mg "WIDEST_READING"=some (.int 10000000000 t)
 g_MOST_MINUTES:∃ t,mg "MOST_MINUTES"=some (.int 2000000001 t)
 g_LONGEST_NAME:∃ t,mg "LONGEST_NAME"=some (.int 8 t)
 g_MOST_PARTS:∃ t,mg "MOST_PARTS"=some (.int 8 t)
 g_MOST_SIFTED:∃ t,mg "MOST_SIFTED"=some (.int 1000 t)
 g_LATER:∃ t,mg "LATER"=some (.int 0 t)
 g_EARLIER:∃ t,mg "EARLIER"=some (.int 1 t)
 g_MOST_PLACES:∃ t,mg "MOST_PLACES"=some (.int 6 t)
 g_MOST_ENTRIES:∃ t,mg "MOST_ENTRIES"=some (.int 60 t)
 g_MOST_BONDS:∃ t,mg "MOST_BONDS"=some (.int 100 t)
 g_MOST_ROWS:∃ t,mg "MOST_ROWS"=some (.int 21 t)
 g_WIDEST_SHIFT:∃ t,mg "WIDEST_SHIFT"=some (.int 2880 t)
 n_ValueError:mg "ValueError"=none
 g_LogError:mg "LogError"=some (.ref a.c_LogError)
 g_NoSpans:mg "NoSpans"=some (.ref a.c_NoSpans)
 g_NoTable:mg "NoTable"=some (.ref a.c_NoTable)
 g_TooMany:mg "TooMany"=some (.ref a.c_TooMany)
 g_NoMoment:mg "NoMoment"=some (.ref a.c_NoMoment)
 g_NoReading:mg "NoReading"=some (.ref a.c_NoReading)
 g_NoName:mg "NoName"=some (.ref a.c_NoName)
 g_NoPlace:mg "NoPlace"=some (.ref a.c_NoPlace)
 g_NoEntry:mg "NoEntry"=some (.ref a.c_NoEntry)
 g_Taken:mg "Taken"=some (.ref a.c_Taken)
 g_NoMinutes:mg "NoMinutes"=some (.ref a.c_NoMinutes)
 g_NoBond:mg "NoBond"=some (.ref a.c_NoBond)
 xl_LogError:xIn K a.c_LogError=true
 ci_LogError:qiF K a.c_LogError a.f_az
 X_NoEntry:XMk K a.c_NoEntry a.f_ay
 up_NoEntry:PySem.W.mroIn K a.c_NoEntry (.ref a.c_LogError)=some true
 n_NoEntry_found:NoAttr K a.c_NoEntry "found"
 is_NoEntry_NoEntry:qiK K a.c_NoEntry (.ref a.c_NoEntry)=some true
 is_NoEntry_NoName:qiK K a.c_NoEntry (.ref a.c_NoName)=some false
 i_Within_places:qiG K a.c_Within "places" a.f_d
 i_At_places:qiG K a.c_At "places" a.f_d
 i_At_spans:qiG K a.c_At "spans" a.f_b
 i_Read_places:qiG K a.c_Read "places" a.f_h
 i_Read_spans:qiG K a.c_Read "spans" a.f_i
 ci_Entry:qiF K a.c_Entry a.f_f
 ci_Within:qiF K a.c_Within a.f_k
 ci_Between:qiF K a.c_Between a.f_v
 mr_Entry:XMro K a.c_Entry [some a.c_Entry,none]
 io_Entry:InsF K a.c_Entry
 mr_Within:XMro K a.c_Within [some a.c_Within,some a.c_Entry,none]
 io_Within:InsF K a.c_Within
 mr_At:XMro K a.c_At [some a.c_At,some a.c_Within,some a.c_Entry,none]
 io_At:InsF K a.c_At
 mr_Between:XMro K a.c_Between [some a.c_Between,some a.c_Entry,none]
 io_Between:InsF K a.c_Between
 mr_Read:XMro K a.c_Read [some a.c_Read,some a.c_Between,some a.c_Entry,none]
 io_Read:InsF K a.c_Read
 mr_Joint:XMro K a.c_Joint [some a.c_Joint,some a.c_Entry,none]
 io_Joint:InsF K a.c_Joint
 mr_Sifted:XMro K a.c_Sifted [some a.c_Sifted,some a.c_Entry,none]
 io_Sifted:InsF K a.c_Sifted
 mr_Log:XMro K a.c_Log [some a.c_Log,none]
 io_Log:InsF K a.c_Log
 mr_Table:XMro K a.c_Table [some a.c_Table,none]
 io_Table:InsF K a.c_Table
 t_Entry:qiE K a.c_Entry
 t_Within:qiE K a.c_Within
 t_At:qiE K a.c_At
 t_Between:qiE K a.c_Between
 t_Read:qiE K a.c_Read
 t_Joint:qiE K a.c_Joint
 t_Sifted:qiE K a.c_Sifted
 t_Log:qiE K a.c_Log
 t_Table:qiE K a.c_Table
 ndc:([a.c_Entry,a.c_Within,a.c_At,a.c_Between,a.c_Read,a.c_Joint,a.c_Sifted,a.c_Log,a.c_Table]:List Addr).Nodup
theorem qk3 {n j:Nat} (h:j < n):ixN n (j:Int)=some j:=by
 unfold ixN;rw[if_pos (by omega),if_pos (by omega)];simp
theorem qhR {α β:Type}{f:α->β}{xs:List α}{i:Nat}{y:β} (h:(xs.map f)[i]?=some y):∃ x,xs[i]?=some x∧y=f x:=by
 rw[List.getElem?_map]at h
 cases e:xs[i]? with
 | none=>rw[e]at h;cases h
 | some x=>rw[e]at h;exact⟨x,rfl,(Option.some.inj h).symm⟩
def Asc (rows:List (Int×Int)):Prop:=rows.Pairwise fun a b=>a.1 < b.1
def g2 (p:Int×Int):List Int:=[p.1,p.2]
abbrev pr:Int×Int->List V:=fun p=>(g2 p).map V.int
structure Good (rows:List (Int×Int)):Prop where
 few:rows.length≤21
 fst:∃ n,rows.head?=some (0,n)
 asc:Asc rows
 ok:∀ r∈rows,0≤r.1∧r.1≤1000000000∧-2880≤r.2∧r.2≤2880
theorem Q5 {α:Type}{xs:List α}{x:α} (h:xs.getLast?=some x):atI xs (-1)=some x:=by
 have hne:0 < xs.length:=List.length_pos_iff.mpr (fun z=>by rw[z]at h;cases h);unfold atI ixN;rw[if_neg (by decide),if_pos (by omega)];show xs[((-1:Int)+(xs.length:Int)).toNat]?=_;rw[tn_ xs.length,← List.getLast?_eq_getElem?];exact h
theorem qdc {n:Nat} (h:0 < n):ixN n (-1)=some (n - 1):=by
 unfold ixN;rw[if_neg (by decide),if_pos (by omega)];rw[tn_ n]
theorem TupL.last {H:Hp}{zs:List V}{ps:List (Int×Int)}{p:Int×Int} (h:TupL pr H zs ps) (e:ps.getLast?=some p):∃ t,zs.getLast?=some (.ref t)∧H t=some (.tup (pr p)):=by
 rw[List.getLast?_eq_getElem?]at e;obtain⟨t,h1,h2⟩:=h.at_ e;exact⟨t,by rw[List.getLast?_eq_getElem?,h.1];exact h1,h2⟩
theorem TupL.set {H:Hp}{zs:List V}{ps:List (Int×Int)}{i:Nat}{t:Addr}{p:Int×Int} (h:TupL pr H zs ps) (e:H t=some (.tup (pr p))):TupL pr H (zs.set i (.ref t)) (ps.set i p):=⟨by rw[List.length_set,List.length_set,h.1],fun j z y e1 e2=>by
 rw[List.getElem?_set]at e1 e2;by_cases hj:i=j
 · rw[if_pos hj]at e1 e2;split at e1
   · split at e2
     · cases e1;cases e2;exact⟨t,rfl,e⟩
     · cases e2
   · cases e1
 · rw[if_neg hj]at e1 e2
   exact h.2 j z y e1 e2⟩
inductive qnB (H:Hp) (q:Addr) (rows:List (Int×Int)):Prop
 | mk (zs:_) (h1:H q=some (.lst zs)) (h2:TupL pr H zs rows):qnB H q rows
def Rs (H:Hp) (q:Addr) (rows:List (Int×Int)):Prop:=qnB H q rows
inductive qb1 (K:Frag) (vs:List V) (H:Hp) (Q:VK):Prop
 | mk (sa:Addr) (ns:List Int) (k:Int) (h1:vs=[.ref sa,.int k]) (h2:SqL K H sa (ns.map V.int)) (h3:0≤k) (h4:∀ (c:Int) (H':Hp),Same H H'->Q (.int c) H'):qb1 K vs H Q
def qfv (K:Frag):Sp:=fun vs H Q _=>qb1 K vs H Q
def sgn (c:Nat):Bool:=(!decide ((⟨#[c]⟩:Str).cps.toList < ("a":Str).cps.toList)) && (!decide (("z":Str).cps.toList < (⟨#[c]⟩:Str).cps.toList))
def zC:V->Bool
 | .str x=>decide (1≤x.length) && decide (x.length≤8) && x.cps.toList.all sgn
 | _=>false
theorem qg2 {l:List Nat}{i c:Nat} (h:l[i]?=some c):l.take (i+1)=l.take i++[c]:=by
 rw[List.take_add_one,h];rfl
theorem qkv {n:Nat} (h:n≤2000):n≤sizeLine:=Nat.le_trans h (by decide)
inductive Z4 (vs:List V) (H:Hp) (Q:VK):Prop
 | mk (i:_) (h1:vs=[.int i]) (h2:Q (.bl true) H):Z4 vs H Q
def Zn:Sp:=fun vs H Q _=>Z4 vs H Q
inductive jI (vs:List V) (H:Hp) (Q:VK):Prop
 | mk (i lo hi:Int) (h1:vs=[.int i,.int lo,.int hi]) (h2:lo≤i) (h3:i≤hi) (h4:Q (.bl true) H):jI vs H Q
def zW:Sp:=fun vs H Q _=>jI vs H Q
inductive Z5 (vs:List V) (H:Hp) (Q:VK):Prop
 | mk (i:Int) (h1:vs=[.int i]) (h2:0≤i) (h3:i≤1000000000) (h4:Q (.bl true) H):Z5 vs H Q
def Zo:Sp:=fun vs H Q _=>Z5 vs H Q
inductive Zm (vs:List V) (H:Hp) (Q:VK):Prop
 | mk (i:Int) (h1:vs=[.int i]) (h2:-10000000000≤i) (h3:i≤10000000000) (h4:Q (.bl true) H):Zm vs H Q
def QY:Sp:=fun vs H Q _=>Zm vs H Q
inductive JA (vs:List V) (H:Hp) (Q:VK):Prop
 | mk (x:Str) (h1:vs=[.str x]) (h2:zC (.str x)=true) (h3:∀ H',Same H H'->Q (.bl true) H'):JA vs H Q
def Jn:Sp:=fun vs H Q _=>JA vs H Q
inductive Zs (vs:List V) (H:Hp) (Q:VK):Prop
 | mk (x:Str) (h1:vs=[.str x]) (h2:zC (.str x)=true) (h3:∀ H',Same H H'->Q .non H'):Zs vs H Q
def QZ:Sp:=fun vs H Q _=>Zs vs H Q
inductive QI (vs:List V) (H:Hp) (Q:VK):Prop
 | mk (i:Int) (h1:vs=[.int i]) (h2:0≤i) (h3:i≤1000000000) (h4:Q .non H):QI vs H Q
def Zt:Sp:=fun vs H Q _=>QI vs H Q
inductive Qw (vs:List V) (H:Hp) (Q:VK):Prop
 | mk (i:Int) (h1:vs=[.int i]) (h2:-10000000000≤i) (h3:i≤10000000000) (h4:Q .non H):Qw vs H Q
def Q6:Sp:=fun vs H Q _=>Qw vs H Q
inductive ZD (K:Frag) (vs:List V) (H:Hp) (Q:VK):Prop
 | mk (x C dx:Addr) (nm:Str) (h1:vs=[.ref x,.str nm]) (h2:H x=some (.ins C dx [])) (h3:zC (.str nm)=true) (h4:Cls K C) (h5:NoAttr K C "name") (h6:∀ H',But x H H'->H' x=some (.ins C dx [("name",.str nm)])->Q .non H'):ZD K vs H Q
def zE (K:Frag):Sp:=fun vs H Q _=>ZD K vs H Q
inductive Q8 (K:Frag) (vs:List V) (H:Hp) (Q:VK):Prop
 | mk (x C dx:Addr) (nm:Str) (lo hi:Int) (h1:vs=[.ref x,.str nm,.int lo,.int hi]) (h2:H x=some (.ins C dx [])) (h3:zC (.str nm)=true) (h4:(0≤lo∧lo≤1000000000)) (h5:(0≤hi∧hi≤1000000000)) (h6:Cls K C) (h7:NoAttr K C "name") (h8:NoAttr K C "low") (h9:NoAttr K C "high") (h10:∀ H',But x H H'->H' x=some (.ins C dx [("name",.str nm),("low",.int lo),("high",.int hi)])->Q .non H'):Q8 K vs H Q
def QD (K:Frag):Sp:=fun vs H Q _=>Q8 K vs H Q
inductive JK (a:Ad) (vs:List V) (H:Hp) (Q:VK):Prop
 | mk (x dx:Addr) (nm:Str) (m:Int) (h1:vs=[.ref x,.str nm,.int m]) (h2:H x=some (.ins a.c_At dx [])) (h3:zC (.str nm)=true) (h4:(0≤m∧m≤1000000000)) (h5:∀ H',But x H H'->H' x=some (.ins a.c_At dx [("name",.str nm),("low",.int m),("high",.int m)])->Q .non H'):JK a vs H Q
def Jp (a:Ad):Sp:=fun vs H Q _=>JK a vs H Q
inductive QQ (K:Frag) (vs:List V) (H:Hp) (Q:VK):Prop
 | mk (x C dx:Addr) (nm pl:Str) (lo hi:Int) (h1:vs=[.ref x,.str nm,.str pl,.int lo,.int hi]) (h2:H x=some (.ins C dx [])) (h3:zC (.str nm)=true) (h4:zC (.str pl)=true) (h5:(-10000000000≤lo∧lo≤10000000000)) (h6:(-10000000000≤hi∧hi≤10000000000)) (h7:Cls K C) (h8:NoAttr K C "name") (h9:NoAttr K C "place") (h10:NoAttr K C "low") (h11:NoAttr K C "high") (h12:∀ H',But x H H'->H' x=some (.ins C dx [("name",.str nm),("place",.str pl),("low",.int lo),("high",.int hi)])->Q .non H'):QQ K vs H Q
def Qr (K:Frag):Sp:=fun vs H Q _=>QQ K vs H Q
inductive Z8 (a:Ad) (vs:List V) (H:Hp) (Q:VK):Prop
 | mk (x dx:Addr) (nm pl:Str) (m:Int) (h1:vs=[.ref x,.str nm,.str pl,.int m]) (h2:H x=some (.ins a.c_Read dx [])) (h3:zC (.str nm)=true) (h4:zC (.str pl)=true) (h5:(-10000000000≤m∧m≤10000000000)) (h6:∀ H',But x H H'->H' x=some (.ins a.c_Read dx [("name",.str nm),("place",.str pl),("low",.int m),("high",.int m)])->Q .non H'):Z8 a vs H Q
def JB (a:Ad):Sp:=fun vs H Q _=>Z8 a vs H Q
def qaO (w:Str):Sp:=fun vs H Q _=>∃ v:V,vs=[v]∧Q (.str w) H
abbrev Qj:Sp:=qaO "any"
abbrev zZ:Sp:=qaO "within"
abbrev ZV:Sp:=qaO "at"
abbrev zO:Sp:=qaO "between"
abbrev Qy:Sp:=qaO "read"
inductive QP (vs:List V) (H:Hp) (Q:VK):Prop
 | mk (v:V) (h1:vs=[v]) (h2:∀ l,H l=none->Q (.ref l) (upd H l (.lst []))):QP vs H Q
def qN:Sp:=fun vs H Q _=>QP vs H Q
section
variable {P:Program}{w:World}{K:Frag}{mg:Str->Option Value}{base:Heap}
theorem J8 {a:Ad} (T:Txt K mg a):qy P w K mg base CX0 1 a.f_n a.fd_n ["thing"] Zn:=by
 refine T.d_n.F.ok qdD (fun vs H Q E h=>?_) (fun cdv A outer s H vs Q E hr h=>?_)
 · obtain⟨i,rfl,kk⟩:=h;rfl
 · obtain⟨i,rfl,kk⟩:=h;refine⟨_,(qf (qu (J6 (qq zV (by rfl) T.n_isinstance qv (qa (pv 0) (qa (Qc (v:=.ty "int") rfl T.n_int qeA rfl) qb))) (qch (ql3 (qq zV (by rfl) T.n_isinstance qv (qa (pv 0) (qa (Qc (v:=.ty "bool") rfl T.n_bool Jy rfl) qb)))))))),?_⟩;(try dsimp only [ze,Cx.nox]);refine⟨_,rfl,_,_,_,rfl,(by decide),rfl,true,rfl,qgF ?_⟩;exact⟨_,rfl,_,_,_,rfl,(by decide),rfl,false,rfl,kk⟩
theorem Qs {a:Ad} (T:Txt K mg a):qy P w K mg base CX0 2 a.f_a a.fd_a ["thing","low","high"] zW:=by
 have G_n:=J8 (P:=P) (w:=w) (base:=base) T;refine T.d_a.F.ok qeP (fun vs H Q E h=>?_) (fun cdv A outer s H vs Q E hr h=>?_)
 · obtain⟨i,lo,hi,rfl,h1,h2,kk⟩:=h;rfl
 · obtain⟨i,lo,hi,rfl,h1,h2,kk⟩:=h;have h_n:Room (1) _:=hr.mono (by decide);refine⟨_,(qf (qu (J6 (qp G_n h_n rfl T.d_n.m T.d_n.k T.d_n.b .nil qo (qa (pv 0) qb)) (qch (qfR qcT qcT (pv 1) (pv 0) (pv 2)))))),?_⟩;(try dsimp only [ze,Cx.nox]);refine⟨_,rfl,i,rfl,true,rfl,qgF ?_⟩;refine⟨_,rfl,_,rfl,_,_,rfl,rfl,_,rfl,jE (fun _=>?_) (fun g=>absurd h1 g)⟩;refine⟨_,rfl,_,_,rfl,rfl,?_⟩;show Q (.bl (decide (i≤hi))) H;rw[decide_eq_true h2];exact kk
theorem J9 {a:Ad} (T:Txt K mg a):qy P w K mg base CX0 3 a.f_w a.fd_w ["thing"] Zo:=by
 have G_a:=Qs (P:=P) (w:=w) (base:=base) T;refine T.d_w.F.ok qdE (fun vs H Q E h=>?_) (fun cdv A outer s H vs Q E hr h=>?_)
 · obtain⟨i,rfl,h1,h2,kk⟩:=h;rfl
 · obtain⟨i,rfl,h1,h2,kk⟩:=h;have h_a:Room (2) _:=hr.mono (by decide);obtain⟨t_LAST,c_LAST⟩:=T.g_LAST;refine⟨_,(qf (qu (qp G_a h_a rfl T.d_a.m T.d_a.k T.d_a.b .nil qo (qa (pv 0) (qa qe (qa (za (v:=.int 1000000000) rfl c_LAST ⟨_,rfl⟩) qb)))))),?_⟩;(try dsimp only [ze,Cx.nox]);exact⟨_,rfl,i,0,1000000000,rfl,h1,h2,kk⟩
theorem Jb {a:Ad} (T:Txt K mg a):qy P w K mg base CX0 3 a.f_o a.fd_o ["thing"] QY:=by
 have G_a:=Qs (P:=P) (w:=w) (base:=base) T;refine T.d_o.F.ok qcE (fun vs H Q E h=>?_) (fun cdv A outer s H vs Q E hr h=>?_)
 · obtain⟨i,rfl,h1,h2,kk⟩:=h;rfl
 · obtain⟨i,rfl,h1,h2,kk⟩:=h;have h_a:Room (2) _:=hr.mono (by decide);obtain⟨t_WIDEST_READING,c_WIDEST_READING⟩:=T.g_WIDEST_READING;refine⟨_,(qf (qu (qp G_a h_a rfl T.d_a.m T.d_a.k T.d_a.b .nil qo (qa (pv 0) (qa (jB Qm (za (v:=.int 10000000000) rfl c_WIDEST_READING ⟨_,rfl⟩)) (qa (za (v:=.int 10000000000) rfl c_WIDEST_READING ⟨_,rfl⟩) qb)))))),?_⟩;(try dsimp only [ze,Cx.nox]);exact⟨_,rfl,_,rfl,i,-10000000000,10000000000,rfl,h1,h2,kk⟩
theorem qcj {a:Ad} (T:Txt K mg a):qy P w K mg base CX0 1 a.f_x a.fd_x ["thing"] Jn:=by
 refine T.d_x.F.ok qgl (fun vs H Q E h=>?_) (fun cdv A outer s H vs Q E hr h=>?_)
 · obtain⟨x,rfl,ok,k⟩:=h;rfl
 · obtain⟨x,rfl,ok,k⟩:=h;obtain⟨t_LONGEST_NAME,c_LONGEST_NAME⟩:=T.g_LONGEST_NAME
   refine⟨_,(qc (qU (PW.pt (Zh (zc (q8 (qq zV (by rfl) T.n_isinstance qv (qa (pv 0) (qa (Qc (v:=.ty "str") rfl T.n_str qez rfl) qb))))) (Zf (zc (qiZ qcT qcT qe (qq qY (by rfl) T.n_len qL (qa (pv 0) qb)) (za (v:=.int 8) rfl c_LONGEST_NAME ⟨_,rfl⟩))))))
       (qf (qu Z2))
       qx)
     (qf (qu (qq (qit rfl) (by rfl) T.n_all qiy (qa (zH rfl (CompOk.def ["sign"] [none]) (ql0 (pv 0)) (fun _ _ _ _ _=>(qt (i:=0) (show List.Nodup (["sign"]:List Str) by decide +kernel) rfl (Or.inl rfl))) (fun _ _ _ _ _=>zQ) (fun _ _ _ _ _=>(qfR qd3 qd3 q9 (pv 0) q9))) qb))))),?_⟩
   try dsimp only [ze,Cx.nox]
   obtain⟨⟨l1,l8⟩,al⟩:(1≤x.length∧x.length≤8)∧x.cps.toList.all sgn=true:=by
     simp only[zC,Bool.and_eq_true,decide_eq_true_eq]at ok;exact ok
   have hx:x.length=x.cps.size:=rfl;refine⟨_,rfl,_,_,_,rfl,(by decide),rfl,true,rfl,qG rfl ?_⟩;refine⟨_,rfl,_,_,rfl,⟨qkv (by omega),rfl⟩,_,_,rfl,rfl,_,rfl,?_⟩;refine jE (fun h2=>?_) (fun h2=>absurd (by omega) h2);refine⟨_,_,rfl,rfl,_,rfl,?_⟩;refine qjk (fun h3=>absurd (by omega) h3) (fun h3=>?_);refine⟨_,rfl,x,rfl,fun D fD=>?_⟩;refine qjD (x:=x) (D:=D) (fun i σ H2=>∃ (s0:Option V) (bs:List Bool),σ=[s0]∧Same H H2∧H2 D=some (.lst (bs.map V.bl))∧bs=(x.cps.toList.take i).map sgn) ⟨none,[],rfl,Same.new _ fD,qd,rfl⟩ ?_ ?_
   · rintro i c σ H2 hc ⟨s0,bs,rfl,s2,hD,hb⟩;obtain⟨hi,_⟩:=Array.getElem?_eq_some_iff.mp hc;have hcl:x.cps.toList[i]?=some c:=by simpa using hc
     have hbl:bs.length≤i:=by rw[hb,List.length_map,List.length_take];omega
     refine⟨_,rfl,_,_,rfl,rfl,_,rfl,?_⟩
     have fin:∀ v:Bool,v=sgn c->∃ ys,H2 D=some (.lst ys)∧ys.length < sizeLine∧∃ (s0:Option V) (bs:List Bool),[some (V.str ⟨#[c]⟩)]=[s0]∧Same H (upd H2 D (.lst (ys++[.bl v])))∧(upd H2 D (.lst (ys++[.bl v]))) D=some (.lst (bs.map V.bl))∧bs=(x.cps.toList.take (i+1)).map sgn:=fun v e =>
       ⟨_,hD,qw (by rw[List.length_map];omega),_,bs++[v],rfl,(fun b o z=>by rw[qh (qm z fD)];exact s2 b o z),by rw[qd,List.map_append];rfl,by rw[qg2 hcl,List.map_append,← hb,e];rfl⟩
     refine qm2 (fun h4=>?_) (fun h4=>?_)
     · refine⟨_,_,rfl,rfl,fin _ ?_⟩;unfold sgn;rw[h4,Bool.true_and]
     · refine fin _ ?_;unfold sgn;rw[h4,Bool.false_and]
   · rintro σ H2 ⟨s0,bs,rfl,s2,hD,hb⟩;refine⟨D,bs,rfl,SqL.of hD,?_⟩
     have e:bs.all id=true:=by
       rw[hb,List.all_map];refine List.all_eq_true.mpr fun c m=>?_;exact List.all_eq_true.mp al c (List.mem_of_mem_take m)
     first
       | (rw[e];exact k H2 s2)
       | (have:=k H2 s2;simpa[e] using this)
theorem Jd {a:Ad} (T:Txt K mg a):qy P w K mg base CX0 2 a.f_y a.fd_y ["thing"] QZ:=by
 have G_x:=qcj (P:=P) (w:=w) (base:=base) T;refine T.d_y.F.ok qcG (fun vs H Q E h=>?_) (fun cdv A outer s H vs Q E hr h=>?_)
 · obtain⟨x,rfl,ok,k⟩:=h;rfl
 · obtain⟨x,rfl,ok,k⟩:=h;have h_x:Room (1) _:=hr.mono (by decide)
   refine⟨_,(qf (qU (zc (q8 (qp G_x h_x rfl T.d_x.m T.d_x.k T.d_x.b .nil qo (qa (pv 0) qb))))
       (qf qV)
       qx)),?_⟩
   try dsimp only [ze,Cx.nox]
   exact⟨_,rfl,x,rfl,ok,fun H1 S1=>⟨true,rfl,qG rfl (k H1 S1)⟩⟩
theorem qbd {a:Ad} (T:Txt K mg a):qy P w K mg base CX0 4 a.f_I a.fd_I ["thing"] Zt:=by
 have G_w:=J9 (P:=P) (w:=w) (base:=base) T;refine T.d_I.F.ok qaP (fun vs H Q E h=>?_) (fun cdv A outer s H vs Q E hr h=>?_)
 · obtain⟨i,rfl,h1,h2,k⟩:=h;rfl
 · obtain⟨i,rfl,h1,h2,k⟩:=h;have h_w:Room (3) _:=hr.mono (by decide)
   refine⟨_,(qf (qU (zc (q8 (qp G_w h_w rfl T.d_w.m T.d_w.k T.d_w.b .nil qo (qa (pv 0) qb))))
       (qf qV)
       qx)),?_⟩
   try dsimp only [ze,Cx.nox]
   exact⟨_,rfl,i,rfl,h1,h2,true,rfl,qG rfl k⟩
theorem qai {a:Ad} (T:Txt K mg a):qy P w K mg base CX0 4 a.f_J a.fd_J ["thing"] Q6:=by
 have G_o:=Jb (P:=P) (w:=w) (base:=base) T;refine T.d_J.F.ok qad (fun vs H Q E h=>?_) (fun cdv A outer s H vs Q E hr h=>?_)
 · obtain⟨i,rfl,h1,h2,k⟩:=h;rfl
 · obtain⟨i,rfl,h1,h2,k⟩:=h;have h_o:Room (3) _:=hr.mono (by decide)
   refine⟨_,(qf (qU (zc (q8 (qp G_o h_o rfl T.d_o.m T.d_o.k T.d_o.b .nil qo (qa (pv 0) qb))))
       (qf qV)
       qx)),?_⟩
   try dsimp only [ze,Cx.nox]
   exact⟨_,rfl,i,rfl,h1,h2,true,rfl,qG rfl k⟩
theorem zU {a:Ad} (T:Txt K mg a):qy P w K mg base CX0 3 a.f_f a.fd_f ["self","name"] (zE K):=by
 have G_y:=Jd (P:=P) (w:=w) (base:=base) T;refine T.d_f.F.ok qcO (fun vs H Q E h=>?_) (fun cdv A outer s H vs Q E hr h=>?_)
 · obtain⟨x,C,dx,nm,rfl,hx,ok,cl,na,k⟩:=h;rfl
 · obtain⟨x,C,dx,nm,rfl,hx,ok,cl,na,k⟩:=h;have h_y:Room (2) _:=hr.mono (by decide)
   refine⟨_,(qc (qA (qp G_y h_y rfl T.d_y.m T.d_y.k T.d_y.b .nil qo (qa (pv 1) qb)))
     (qf (z9 (pv 0) (pv 1) rfl))),?_⟩
   try dsimp only [ze,Cx.nox]
   refine⟨_,rfl,nm,rfl,ok,fun H1 S1=>?_⟩;exact⟨_,rfl,_,rfl,x,C,dx,_,rfl,S1 _ _ hx,cl,na,(by decide),k _ (fun b o z nb=>by rw[qh nb];exact S1 b o z) qd⟩
theorem jt {a:Ad} (T:Txt K mg a):qy P w K mg base CX0 5 a.f_k a.fd_k ["self","name","low","high"] (QD K):=by
 have G_f:=zU (P:=P) (w:=w) (base:=base) T;have G_I:=qbd (P:=P) (w:=w) (base:=base) T;refine T.d_k.F.ok qbI (fun vs H Q E h=>?_) (fun cdv A outer s H vs Q E hr h=>?_)
 · obtain⟨x,C,dx,nm,lo,hi,rfl,hx,ok,hlo,hhi,cl,n1,n2,n3,k⟩:=h;rfl
 · obtain⟨x,C,dx,nm,lo,hi,rfl,hx,ok,hlo,hhi,cl,n1,n2,n3,k⟩:=h;have h_f:Room (3+1) _:=hr.mono (by decide);have h_I:Room (4) _:=hr.mono (by decide)
   refine⟨_,(qc (qA (Q2 T.ci_Entry G_f (h_f.mono (by decide)) T.d_f.b rfl T.g_Entry (qa (pv 0) (qa (pv 1) qb))))
     (qc (qA (qp G_I h_I rfl T.d_I.m T.d_I.k T.d_I.b .nil qo (qa (pv 2) qb)))
     (qc (qA (qp G_I h_I rfl T.d_I.m T.d_I.k T.d_I.b .nil qo (qa (pv 3) qb)))
     (qc (z9 (pv 0) (pv 2) rfl)
     (qf (z9 (pv 0) (pv 3) rfl)))))),?_⟩
   try dsimp only [ze,Cx.nox]
   refine⟨_,rfl,_,rfl,x,C,dx,nm,rfl,hx,ok,cl,n1,fun H1 B1 h1=>?_⟩;refine⟨_,rfl,lo,rfl,hlo.1,hlo.2,?_⟩;refine⟨_,rfl,hi,rfl,hhi.1,hhi.2,?_⟩;refine⟨_,rfl,_,rfl,x,C,dx,_,rfl,h1,cl,n2,(by simp),?_⟩;refine⟨_,rfl,_,rfl,x,C,dx,_,rfl,qd,cl,n3,(Nat.le_of_ble_eq_true rfl),?_⟩;exact k _ ((B1.put _).put _) (by rw[qd];rfl)
theorem qcl {a:Ad} (T:Txt K mg a):qy P w K mg base CX0 7 a.f_G a.fd_G ["self","name","moment"] (Jp a):=by
 have G_k:=jt (P:=P) (w:=w) (base:=base) T;refine T.d_G.F.ok qgp (fun vs H Q E h=>?_) (fun cdv A outer s H vs Q E hr h=>?_)
 · obtain⟨x,dx,nm,m,rfl,hx,ok,hm,k⟩:=h;rfl
 · obtain⟨x,dx,nm,m,rfl,hx,ok,hm,k⟩:=h;have h_k:Room (5+1) _:=hr.mono (by decide);refine⟨_,(qf (qA (Q2 T.ci_Within G_k (h_k.mono (by decide)) T.d_k.b rfl T.g_Within (qa (pv 0) (qa (pv 1) (qa (pv 2) (qa (pv 2) qb))))))),?_⟩;(try dsimp only [ze,Cx.nox]);exact⟨_,rfl,_,rfl,_,rfl,_,rfl,x,a.c_At,dx,nm,m,m,rfl,hx,ok,hm,hm,T.cl_At,T.n_At_name,T.n_At_low,T.n_At_high,fun H1 B1 h1=>k H1 B1 h1⟩
theorem ZM {a:Ad} (T:Txt K mg a):qy P w K mg base CX0 5 a.f_v a.fd_v ["self","name","place","low","high"] (Qr K):=by
 have G_f:=zU (P:=P) (w:=w) (base:=base) T;have G_y:=Jd (P:=P) (w:=w) (base:=base) T;have G_J:=qai (P:=P) (w:=w) (base:=base) T;refine T.d_v.F.ok qaU (fun vs H Q E h=>?_) (fun cdv A outer s H vs Q E hr h=>?_)
 · obtain⟨x,C,dx,nm,pl,lo,hi,rfl,hx,ok,okp,hlo,hhi,cl,n1,n2,n3,n4,k⟩:=h;rfl
 · obtain⟨x,C,dx,nm,pl,lo,hi,rfl,hx,ok,okp,hlo,hhi,cl,n1,n2,n3,n4,k⟩:=h;have h_f:Room (3+1) _:=hr.mono (by decide);have h_y:Room (2) _:=hr.mono (by decide);have h_J:Room (4) _:=hr.mono (by decide)
   refine⟨_,(qc (qA (Q2 T.ci_Entry G_f (h_f.mono (by decide)) T.d_f.b rfl T.g_Entry (qa (pv 0) (qa (pv 1) qb))))
     (qc (qA (qp G_y h_y rfl T.d_y.m T.d_y.k T.d_y.b .nil qo (qa (pv 2) qb)))
     (qc (qA (qp G_J h_J rfl T.d_J.m T.d_J.k T.d_J.b .nil qo (qa (pv 3) qb)))
     (qc (qA (qp G_J h_J rfl T.d_J.m T.d_J.k T.d_J.b .nil qo (qa (pv 4) qb)))
     (qc (z9 (pv 0) (pv 2) rfl)
     (qc (z9 (pv 0) (pv 3) rfl)
     (qf (z9 (pv 0) (pv 4) rfl)))))))),?_⟩
   try dsimp only [ze,Cx.nox]
   refine⟨_,rfl,_,rfl,x,C,dx,nm,rfl,hx,ok,cl,n1,fun H1 B1 h1=>?_⟩;refine⟨_,rfl,pl,rfl,okp,fun H2 S2=>?_⟩;refine⟨_,rfl,lo,rfl,hlo.1,hlo.2,?_⟩;refine⟨_,rfl,hi,rfl,hhi.1,hhi.2,?_⟩;refine⟨_,rfl,_,rfl,x,C,dx,_,rfl,S2 _ _ h1,cl,n2,(by simp),?_⟩;refine⟨_,rfl,_,rfl,x,C,dx,_,rfl,qd,cl,n3,(Nat.le_of_ble_eq_true rfl),?_⟩;refine⟨_,rfl,_,rfl,x,C,dx,_,rfl,qd,cl,n4,(Nat.le_of_ble_eq_true rfl),?_⟩;exact k _ ((((B1.same S2).put _).put _).put _) (by rw[qd];rfl)
theorem qd8 {a:Ad} (T:Txt K mg a):qy P w K mg base CX0 7 a.f_ah a.fd_ah ["self","name","place","reading"] (JB a):=by
 have G_v:=ZM (P:=P) (w:=w) (base:=base) T;refine T.d_ah.F.ok qdG (fun vs H Q E h=>?_) (fun cdv A outer s H vs Q E hr h=>?_)
 · obtain⟨x,dx,nm,pl,m,rfl,hx,ok,okp,hm,k⟩:=h;rfl
 · obtain⟨x,dx,nm,pl,m,rfl,hx,ok,okp,hm,k⟩:=h;have h_v:Room (5+1) _:=hr.mono (by decide);refine⟨_,(qf (qA (Q2 T.ci_Between G_v (h_v.mono (by decide)) T.d_v.b rfl T.g_Between (qa (pv 0) (qa (pv 1) (qa (pv 2) (qa (pv 3) (qa (pv 3) qb)))))))),?_⟩;(try dsimp only [ze,Cx.nox]);exact⟨_,rfl,_,rfl,_,rfl,_,rfl,_,rfl,x,a.c_Read,dx,nm,pl,m,m,rfl,hx,ok,okp,hm,hm,T.cl_Read,T.n_Read_name,T.n_Read_place,T.n_Read_low,T.n_Read_high,fun H1 B1 h1=>k H1 B1 h1⟩
theorem qc4 {a:Ad} (T:Txt K mg a):qy P w K mg base CX0 1 a.f_O a.fd_O ["self"] Qj:=by
 refine T.d_O.F.ok qcN (fun vs H Q E h=>?_) (fun cdv A outer s H vs Q E hr h=>?_)
 · obtain⟨v,rfl,k⟩:=h;rfl
 · obtain⟨v,rfl,k⟩:=h;refine⟨_,(qf (qu q9)),?_⟩;(try dsimp only [ze,Cx.nox]);exact k
theorem qbN {a:Ad} (T:Txt K mg a):qy P w K mg base CX0 1 a.f_P a.fd_P ["self"] zZ:=by
 refine T.d_P.F.ok qbH (fun vs H Q E h=>?_) (fun cdv A outer s H vs Q E hr h=>?_)
 · obtain⟨v,rfl,k⟩:=h;rfl
 · obtain⟨v,rfl,k⟩:=h;refine⟨_,(qf (qu q9)),?_⟩;(try dsimp only [ze,Cx.nox]);exact k
theorem qgx {a:Ad} (T:Txt K mg a):qy P w K mg base CX0 1 a.f_Q a.fd_Q ["self"] ZV:=by
 refine T.d_Q.F.ok qgo (fun vs H Q E h=>?_) (fun cdv A outer s H vs Q E hr h=>?_)
 · obtain⟨v,rfl,k⟩:=h;rfl
 · obtain⟨v,rfl,k⟩:=h;refine⟨_,(qf (qu q9)),?_⟩;(try dsimp only [ze,Cx.nox]);exact k
theorem qbl {a:Ad} (T:Txt K mg a):qy P w K mg base CX0 1 a.f_R a.fd_R ["self"] zO:=by
 refine T.d_R.F.ok qaT (fun vs H Q E h=>?_) (fun cdv A outer s H vs Q E hr h=>?_)
 · obtain⟨v,rfl,k⟩:=h;rfl
 · obtain⟨v,rfl,k⟩:=h;refine⟨_,(qf (qu q9)),?_⟩;(try dsimp only [ze,Cx.nox]);exact k
theorem qd7 {a:Ad} (T:Txt K mg a):qy P w K mg base CX0 1 a.f_S a.fd_S ["self"] Qy:=by
 refine T.d_S.F.ok qdF (fun vs H Q E h=>?_) (fun cdv A outer s H vs Q E hr h=>?_)
 · obtain⟨v,rfl,k⟩:=h;rfl
 · obtain⟨v,rfl,k⟩:=h;refine⟨_,(qf (qu q9)),?_⟩;(try dsimp only [ze,Cx.nox]);exact k
theorem Qt {a:Ad} (T:Txt K mg a):qy P w K mg base CX0 1 a.f_d a.fd_d ["self"] qN:=by
 refine T.d_d.F.ok qaS (fun vs H Q E h=>?_) (fun cdv A outer s H vs Q E hr h=>?_)
 · obtain⟨v,rfl,k⟩:=h;rfl
 · obtain⟨v,rfl,k⟩:=h;refine⟨_,(qf (qu (qM qb))),?_⟩;(try dsimp only [ze,Cx.nox]);exact⟨Nat.zero_le _,fun l f=>k l f⟩
end
inductive Spc:Str->Str->Str->Int->Int->Prop
 | any {nm:Str}:zC (.str nm)=true->Spc "any" nm "" 0 1000000000
 | within {nm:Str}{lo hi:Int}:zC (.str nm)=true->(0≤lo∧lo≤1000000000)->(0≤hi∧hi≤1000000000)->Spc "within" nm "" lo hi
 | at_ {nm:Str}{m:Int}:zC (.str nm)=true->(0≤m∧m≤1000000000)->Spc "at" nm "" m m
 | between {nm pl:Str}{lo hi:Int}:zC (.str nm)=true->zC (.str pl)=true->(-10000000000≤lo∧lo≤10000000000)->(-10000000000≤hi∧hi≤10000000000)->Spc "between" nm pl lo hi
 | read {nm pl:Str}{m:Int}:zC (.str nm)=true->zC (.str pl)=true->(-10000000000≤m∧m≤10000000000)->Spc "read" nm pl m m
inductive En (a:Ad) (H:Hp) (x:Addr):Str->Str->Str->Int->Int->Prop
 | any {dx:Addr}{nm:Str}:H x=some (.ins a.c_Entry dx [("name",.str nm)])->En a H x "any" nm "" 0 1000000000
 | within {dx:Addr}{nm:Str}{lo hi:Int}:H x=some (.ins a.c_Within dx [("name",.str nm),("low",.int lo),("high",.int hi)])->En a H x "within" nm "" lo hi
 | at_ {dx:Addr}{nm:Str}{m:Int}:H x=some (.ins a.c_At dx [("name",.str nm),("low",.int m),("high",.int m)])->En a H x "at" nm "" m m
 | between {dx:Addr}{nm pl:Str}{lo hi:Int}:H x=some (.ins a.c_Between dx [("name",.str nm),("place",.str pl),("low",.int lo),("high",.int hi)])->En a H x "between" nm pl lo hi
 | read {dx:Addr}{nm pl:Str}{m:Int}:H x=some (.ins a.c_Read dx [("name",.str nm),("place",.str pl),("low",.int m),("high",.int m)])->En a H x "read" nm pl m m
theorem En.same {a:Ad}{H H':Hp} (s:Same H H') {x:Addr}{wd nm pl:Str}{lo hi:Int} (h:En a H x wd nm pl lo hi):En a H' x wd nm pl lo hi:=by
 cases h with
 | any e=>exact .any (s _ _ e)
 | within e=>exact .within (s _ _ e)
 | at_ e=>exact .at_ (s _ _ e)
 | between e=>exact .between (s _ _ e)
 | read e=>exact .read (s _ _ e)
theorem qR {H H':Hp}{x dx C:Addr} (h1:H x=none) (h2:H dx=none) (b:But x (upd (upd H dx (.own x)) x (.ins C dx [])) H'):Same H H':=fun c o e=>by
 have n1:=qm e h1;have n2:=qm e h2;exact b c o (by rw[qh n1,qh n2];exact e) n1
theorem ZR:bootBuiltins "sorted"=some (.builtin "sorted"):=by decide +kernel
theorem Rs.same {H H':Hp}{q:Addr}{rows:List (Int×Int)} (h:Rs H q rows) (s:Same H H'):Rs H' q rows:=by
 obtain⟨zs,h1,h2⟩:=h;exact⟨zs,s _ _ h1,h2.same s⟩
abbrev okw (w:Int×Int):Bool:=decide (w.1≤w.2)
theorem qkp {H:Hp}{zs:List V}{ws:List (Int×Int)} (h:TupL pr H zs ws):TupI H zs (ws.map g2):=by
 refine⟨by rw[List.length_map];exact h.1,fun i z r e1 e2=>?_⟩;obtain⟨p,hp,rfl⟩:=qhR e2;exact h.2 i z p e1 hp
theorem qkQ {H:Hp}{zs:List V}{ws:List (Int×Int)} (h:TupI H zs (ws.map g2)):TupL pr H zs ws :=
 ⟨by have:=h.len;rwa [List.length_map]at this,fun i z p e1 e2=>h.at_ i z (g2 p) e1 (by rw[List.getElem?_map,e2];rfl)⟩
theorem qi4 {rs:List (List Int)}{fs:List (Int×Int)} (h:rs.Perm (fs.map g2)):∃ ss:List (Int×Int),rs=ss.map g2∧ss.Perm fs:=by
 refine⟨rs.map fun r=>(r.getD 0 0,r.getD 1 0),?_,?_⟩
 · rw[List.map_map];refine(List.map_id rs).symm.trans (List.map_congr_left fun r hr=>?_);obtain⟨p,_,rfl⟩:=List.mem_map.mp (h.mem_iff.mp hr);rfl
 · have:=h.map fun r=>(r.getD 0 0,r.getD 1 0)
   rw[List.map_map]at this
   rwa [show (fs.map ((fun r:List Int=>(r.getD 0 0,r.getD 1 0)) ∘ g2))=fs from (List.map_congr_left fun p _=>rfl).trans (List.map_id fs)]at this
theorem ql5 {ss:List (Int×Int)} (h:(ss.map g2).Pairwise fun a b=>ZN b a=false):ss.Pairwise fun a b=>a.1≤b.1:=by
 refine(List.pairwise_map.mp h).imp fun {a b} g=>?_;have g':ZN [b.1,b.2] [a.1,a.2]=false:=g;unfold ZN at g';by_cases e:b.1=a.1
 · omega
 · rw[if_neg e]at g'
   have:=of_decide_eq_false g'
   omega
theorem qme (ws:List (Int×Int)) (n:Int):Mem (ws.filter okw) n↔Mem ws n:=by
 constructor
 · rintro⟨w,hw,h⟩;exact⟨w,(List.mem_filter.mp hw).1,h⟩
 · rintro⟨w,hw,h⟩;exact⟨w,List.mem_filter.mpr ⟨hw,decide_eq_true (by omega)⟩,h⟩
theorem qjg {ss fs:List (Int×Int)} (h:ss.Perm fs) (n:Int):Mem ss n↔Mem fs n :=
 ⟨fun⟨w,hw,k⟩=>⟨w,h.mem_iff.mp hw,k⟩,fun⟨w,hw,k⟩=>⟨w,h.mem_iff.mpr hw,k⟩⟩
theorem qh8 {acc:List (Int×Int)}{l w:Int×Int} (h:acc.getLast?=some l) (e:w.1≤l.2+1):qbW acc w=acc.set (acc.length - 1) (l.1,if w.2 > l.2 then w.2 else l.2):=by
 unfold qbW;rw[h];exact if_pos e
theorem qjp {acc:List (Int×Int)}{l w:Int×Int} (h:acc.getLast?=some l) (e:¬ w.1≤l.2+1):qbW acc w=acc++[w]:=by
 unfold qbW;rw[h];exact if_neg e
theorem qjq (acc:List (Int×Int)) (w:Int×Int):(qbW acc w).length≤acc.length+1:=by
 unfold qbW;split
 · split
   · rw[List.length_set];omega
   · rw[List.length_append];exact Nat.le_refl _
 · simp
theorem qf4 {ws:List (Int×Int)}{i:Nat}{w:Int×Int} (h:ws[i]?=some w):(ws.take (i+1)).foldl qbW []=qbW ((ws.take i).foldl qbW []) w:=by
 rw[List.take_add_one,h,List.foldl_append];rfl
theorem Jg (ws:List (Int×Int)):∀ i,((ws.take i).foldl qbW []).length≤i
 | 0=>by simp
 | i+1=>by
   cases h:ws[i]? with
   | none =>
     have:=Jg ws i
     rw[List.take_add_one,h];simp only[Option.toList,List.append_nil];omega
   | some w =>
     have:=Jg ws i
     have:=qjq ((ws.take i).foldl qbW []) w
     rw[qf4 h];omega
inductive Zl (vs:List V) (H:Hp) (Q:VK):Prop
 | mk (t:Addr) (r:Int×Int) (h1:vs=[.ref t]) (h2:H t=some (.tup (pr r))) (h3:Q (.bl true) H):Zl vs H Q
def jJ:Sp:=fun vs H Q _=>Zl vs H Q
inductive Qf (vs:List V) (H:Hp) (Q:VK):Prop
 | mk (q:Addr) (ws:List (Int×Int)) (h1:vs=[.ref q]) (h2:Rs H q ws) (h3:∀ H',Same H H'->Q .non H'):Qf vs H Q
def Qv:Sp:=fun vs H Q _=>Qf vs H Q
inductive jH (vs:List V) (H:Hp) (Q:VK):Prop
 | mk (q:Addr) (ws:List (Int×Int)) (h1:vs=[.ref q]) (h2:Rs H q ws) (h3:ws.length < 64) (h4:∀ (d:Addr) (r:List (Int×Int)) (H':Hp),H d=none->Same H H'->Rs H' d r->zd r->r.length≤ws.length->(∀ n,Mem r n↔Mem ws n)->Q (.ref d) H'):jH vs H Q
def QX:Sp:=fun vs H Q _=>jH vs H Q
section
variable {P:Program}{w:World}{K:Frag}{mg:Str->Option Value}{base:Heap}
theorem qcU {a:Ad} (T:Txt K mg a):qy P w K mg base CX0 2 a.f_W a.fd_W ["thing"] jJ:=by
 have G_n:=J8 (P:=P) (w:=w) (base:=base) T;refine T.d_W.F.ok qcD (fun vs H Q E h=>?_) (fun cdv A outer s H vs Q E hr h=>?_)
 · obtain⟨t,r,rfl,ht,kk⟩:=h;rfl
 · obtain⟨t,r,rfl,ht,kk⟩:=h;have hU:=hr.units;have h_n:Room (1) _:=hr.mono (by decide);refine⟨_,(qf (qu (J6 (qq zV (by rfl) T.n_isinstance qv (qa (pv 0) (qa (Qc (v:=.ty "tuple") rfl T.n_tuple qbD rfl) qb))) (J6 (Q1 (uEq hU) (qq qY (by rfl) T.n_len qL (qa (pv 0) qb)) qe (qJ _)) (J6 (qp G_n h_n rfl T.d_n.m T.d_n.k T.d_n.b .nil qo (qa (qr (r:=rIx K) qi (pv 0) qe (fun _ _=>rfl)) qb)) (qch (qp G_n h_n rfl T.d_n.m T.d_n.k T.d_n.b .nil qo (qa (qr (r:=rIx K) qi (pv 0) qe (fun _ _=>rfl)) qb)))))))),?_⟩;(try dsimp only [ze,Cx.nox]);have ty:tyN H (.ref t)=some "tuple":=by simp only[tyN];rw[ht]
   refine⟨_,rfl,_,_,_,rfl,(by decide),ty,_,rfl,QG rfl ?_⟩;refine⟨_,rfl,_,_,rfl,.inr ⟨_,SqT.of ht,rfl⟩,.inl ⟨rfl,_,rfl,QG (decide_eq_true rfl) ?_⟩⟩;refine⟨_,rfl,.inr (.inl ⟨t,_,_,_,rfl,rfl,SqT.of ht,rfl,_,rfl,true,rfl,qgF ?_⟩)⟩;exact⟨_,rfl,.inr (.inl ⟨t,_,_,_,rfl,rfl,SqT.of ht,rfl,_,rfl,kk⟩)⟩
theorem Jc {a:Ad} (T:Txt K mg a):qy P w K mg base CX0 3 a.f_X a.fd_X ["stretches"] Qv:=by
 have G_W:=qcU (P:=P) (w:=w) (base:=base) T;refine T.d_X.F.ok sc_check_stretches (fun vs H Q E h=>?_) (fun cdv A outer s H vs Q E hr h=>?_)
 · obtain⟨q,ws,rfl,hrs,kk⟩:=h;rfl
 · obtain⟨q,ws,rfl,hrs,kk⟩:=h;have h_W:Room (2) _:=hr.mono (by decide)
   refine⟨_,(qc (qU (zc (q8 (qq zV (by rfl) T.n_isinstance qv (qa (pv 0) (qa (Qc (v:=.ty "list") rfl T.n_list zf rfl) qb)))))
       (qf qV)
       qx)
     (qf (zw PassesOwn.never rfl (qhv rfl T.n_enumerate (qa (pv 0) qb)) (zS rfl (qC (qt (i:=1) (sc_check_stretches.nd) rfl (Or.inl rfl)) (qC (qt (i:=2) (sc_check_stretches.nd) rfl (Or.inl rfl)) zx)))
       (qf (qU (zc (q8 (qp G_W h_W rfl T.d_W.m T.d_W.k T.d_W.b .nil qo (qa (pv 2) qb))))
         (qf qV)
         qx))))),?_⟩
   try dsimp only [ze,Cx.nox]
   obtain⟨zs,hq,tp⟩:=id hrs;have ty:tyN H (.ref q)=some "list":=by simp only[tyN];rw[hq]
   refine⟨_,rfl,_,_,_,rfl,(by decide),ty,true,rfl,qG rfl ?_⟩;refine⟨_,rfl,q,rfl,⟨zs,SqL.of hq⟩,qf7 (K:=K) (a:=q) (xs:=zs) (fun i σ H2=>∃ s1 s2:Option V,σ=[some (.ref q),s1,s2]∧Same H H2) ⟨none,none,rfl,Same.refl H⟩ (fun i σ H2 _ ⟨_,_,_,S⟩=>SqL.of (S _ _ hq)) ?_ ?_⟩
   · rintro i x σ H2 p hx ⟨s1,s2,rfl,S⟩ hn;have S2:Same H (upd H2 p (.tup [.int i,x])):=S.then _ hn
     obtain⟨r,t,hr',rfl,ht⟩:=tp.of hx;refine⟨p,_,rfl,SqT.of qd,rfl,_,_,rfl,_,_,rfl,rfl,?_⟩;exact⟨_,rfl,t,r,rfl,S2 _ _ ht,_,rfl,qG rfl ⟨_,_,rfl,S2⟩⟩
   · rintro σ H2 ⟨s1,s2,rfl,S⟩;exact kk H2 S
theorem jC {a:Ad} (T:Txt K mg a):qy P w K mg base CX0 4 a.f_j a.fd_j ["stretches"] QX:=by
 have G_X:=Jc (P:=P) (w:=w) (base:=base) T;refine T.d_j.F.ok sc_spans_of (fun vs H Q E h=>?_) (fun cdv A outer s H vs Q E hr h=>?_)
 · obtain⟨q,ws,rfl,hrs,few,kk⟩:=h;rfl
 · obtain⟨q,ws,rfl,hrs,few,kk⟩:=h;have h_X:Room (3) _:=hr.mono (by decide)
   refine⟨_,(qc (qA (qp G_X h_X rfl T.d_X.m T.d_X.k T.d_X.b .nil qo (qa (pv 0) qb)))
     (qc (qH (i:=1) sc_spans_of.nd rfl (Or.inl rfl) (qM qb))
     (qc (zw PassesOwn.never rfl (qX (qq qgM (by rfl) T.n_sorted ZR (qa (zH rfl (CompOk.def ["stretch"] [none]) (qX (pv 0)) (fun _ _ _ _ _=>(qt (i:=0) (show List.Nodup (["stretch"]:List Str) by decide +kernel) rfl (Or.inl rfl))) (fun _ _ _ _ _=>(Js (qz qcT (qr (r:=rIx K) qi (pv 0) qe (fun _ _=>rfl)) (qr (r:=rIx K) qi (pv 0) qe (fun _ _=>rfl)) (qJ _)))) (fun _ _ _ _ _=>(pv 0))) qb))) (zS rfl (qC (qt (i:=2) (sc_spans_of.nd) rfl (Or.inl rfl)) (qC (qt (i:=3) (sc_spans_of.nd) rfl (Or.inl rfl)) zx)))
       (qf (qU (PW.pt (J1 (qiY (pv 1) (fun _=>rfl)) (ZI (qz qcT (pv 2) (qB Qh (qr (r:=rIx K) qi (qr (r:=rIx K) qi (pv 1) (jB Qm qe) (fun _ _=>rfl)) qe (fun _ _=>rfl)) qe) (qJ _)))))
         (qf (qce (qZ (qa (qr (r:=rIx K) qi (qr (r:=rIx K) qi (pv 1) (jB Qm qe) (fun _ _=>rfl)) qe (fun _ _=>rfl)) (qa (qq (ZQ rfl) (by rfl) T.n_max ZT (qa (qr (r:=rIx K) qi (qr (r:=rIx K) qi (pv 1) (jB Qm qe) (fun _ _=>rfl)) qe (fun _ _=>rfl)) (qa (pv 3) qb))) qb))) (qhw (pv 1) (jB Qm qe) qcC)))
         (qf (qA (Zi PySem.F.plainAttrs_list PySem.F.slot_list_append PySem.F.type_list_append zg (pv 1) (qa (qZ (qa (pv 2) (qa (pv 3) qb))) qb)))))))
     (qf (qu (pv 1)))))),?_⟩
   try dsimp only [ze,Cx.nox]
   refine⟨_,rfl,q,ws,rfl,hrs,fun G0 S0=>?_⟩;refine⟨qj (Nat.le_of_ble_eq_true rfl),fun D fD=>?_⟩;have SD:=Same.new (.lst []) fD;have hD0:(upd G0 D (.lst [])) D=some (.lst []):=qd;obtain⟨zs,hq,tp⟩:=(hrs.same S0).same SD;(try unfold qP);(try dsimp only);generalize upd G0 D (.lst [])=G at SD hD0 hq tp ⊢;have hl:zs.length=ws.length:=tp.1;refine⟨_,rfl,q,rfl,⟨_,SqL.of hq⟩,fun C fC=>?_⟩;refine zh (K:=K) (a:=q) (xs:=zs) (D:=C) (fun i σ H2=>∃ (c0:Option V) (cs:List V),σ=[c0]∧Same G H2∧H2 C=some (.lst cs)∧TupL pr H2 cs ((ws.take i).filter okw)) ⟨none,[],rfl,Same.new _ fC,qd,.nil⟩ (fun i σ H2 _ ⟨_,_,_,S,_⟩=>SqL.of (S _ _ hq)) ?_ ?_
   · rintro i z σ H2 hz ⟨c0,cs,rfl,S,hC,tc⟩;obtain⟨r,t,hr',rfl,ht⟩:=tp.of hz;have ht2:=S _ _ ht;have et:ws.take (i+1)=ws.take i++[r]:=by rw[List.take_add_one,hr'];rfl
     have lc:cs.length≤64:=by
       rw[tc.1];refine Nat.le_trans (List.length_filter_le _ _) ?_;rw[List.length_take];omega
     refine⟨_,rfl,.inr (.inl ⟨t,_,_,_,rfl,rfl,SqT.of ht2,rfl,_,rfl,.inr (.inl ⟨t,_,_,_,rfl,rfl,SqT.of ht2,rfl,_,_,rfl,rfl,_,rfl,jE (fun g=>?_) (fun g=>?_)⟩)⟩)⟩
     · refine⟨_,rfl,_,hC,qw (by omega),_,cs++[.ref t],rfl,S.put fC _,qd,?_⟩;rw[et,List.filter_append,show List.filter okw [r]=[r] by simp[okw,g]];exact(tc.snoc (p:=r) ht2).put hC
     · refine⟨_,cs,rfl,S,hC,?_⟩;rw[et,List.filter_append,show List.filter okw [r]=[] by simp[okw,g],List.append_nil];exact tc
   rintro σ H2 ⟨c0,cs,rfl,S,hC,tc⟩;rw[hl,List.take_length]at tc;have okf:∀ w∈ws.filter okw,w.1≤w.2:=fun w hw=>of_decide_eq_true (List.mem_filter.mp hw).2;have lf:(ws.filter okw).length≤ws.length:=List.length_filter_le _ _;have mok:=qme ws;generalize ws.filter okw=fs at tc okf lf mok;refine⟨C,cs,fs.map g2,2,rfl,SqL.of hC,qkp tc,(fun r hr=>by obtain⟨w,_,rfl⟩:=List.mem_map.mp hr;rfl),(by decide),(by rw[tc.1];omega),fun p zs' rs' fp hp tI ho=>?_⟩;obtain⟨ss,rfl,hss⟩:=qi4 hp;have ord:=ql5 ho;have oks:∀ w∈ss,w.1≤w.2:=fun w m=>okf w (hss.mem_iff.mp m);have lss:ss.length≤ws.length:=by rw[hss.length_eq];exact lf
   have tz0:TupL pr H2 zs' ss:=qkQ tI;have Sp:=Same.new (.lst zs') fp;have tz:=tz0.same Sp;have hp1:(upd H2 p (.lst zs')) p=some (.lst zs'):=qd;have hD1:=Sp _ _ (S _ _ hD0);have npD:p≠D:=fun e=>by rw[e,S _ _ hD0]at fp;cases fp
   have SG:=SD.trans (S.trans Sp);(try dsimp only);generalize upd H2 p (.lst zs')=G1 at tz hp1 hD1 SG ⊢;refine⟨p,rfl,⟨_,SqL.of hp1⟩,zl (D:={ nx:=qmM (qmA 1) { nx:=fun _ H'=>Q .non H',rt:=Q },rt:=Q }) (K:=K) (a:=p) (xs:=zs') (fun i σ H3=>∃ (s2 s3:Option V) (ys:List V),σ=[some (.ref q),some (.ref D),s2,s3]∧But D G1 H3∧H3 D=some (.lst ys)∧TupL pr H3 ys ((ss.take i).foldl qbW [])) ⟨none,none,[],rfl,(fun c o e _=>e),hD1,.nil⟩ (fun i σ H3 _ ⟨_,_,_,_,B,_⟩=>SqL.of (B _ _ hp1 npD)) ?_ ?_⟩
   · rintro i z σ H3 hz ⟨s2,s3,ys,rfl,B,hD,ty⟩;obtain⟨wv,t,hw,rfl,ht⟩:=tz.of hz;have ntD:t≠D:=zI ht hD1 (by intro z;cases z);have ht3:=B _ _ ht ntD;have okv:=oks wv (List.mem_of_getElem? hw)
     have ly:ys.length≤64:=by
       have:=Jg ss i
       have lti:i < ss.length:=(List.getElem?_eq_some_iff.mp hw).1;rw[ty.1];omega
     refine⟨t,_,rfl,SqT.of ht3,rfl,_,_,rfl,_,_,rfl,rfl,?_⟩;rw[qf4 hw];generalize (ss.take i).foldl qbW []=acc at ty ⊢
     cases ea:acc.getLast? with
     | none =>
       have e0:acc=[]:=List.getLast?_eq_none_iff.mp ea;subst e0;have ey:ys=[]:=List.eq_nil_of_length_eq_zero ty.1;subst ey;refine⟨_,rfl,false,.inl ⟨_,SqL.of hD,rfl⟩,qgR (qgR ?_)⟩;refine⟨_,rfl,.inl ⟨rfl,_,SqL.of hD⟩,_,rfl,_,rfl,qj (Nat.le_of_ble_eq_true rfl),fun tt ft=>?_⟩;have St:=Same.new (.tup [.int wv.1,.int wv.2]) ft;refine⟨D,_,_,rfl,rfl,St _ _ hD,qw (by omega),?_⟩;refine⟨_,_,[]++[.ref tt],rfl,(fun c o e n=>?_),qd,?_⟩
       · rw[qh n];exact St _ _ (B c o e n)
       · exact((TupL.nil (f:=pr)).snoc (p:=wv) qd).put (St _ _ hD)
     | some l =>
       obtain⟨tl,hzl,htl⟩:=TupL.last ty ea
       have ey:true=!ys.isEmpty:=by
         cases ys with
         | nil=>cases hzl
         | cons y ys=>rfl
       refine⟨_,rfl,true,.inl ⟨_,SqL.of hD,ey⟩,qgF ?_⟩;refine⟨_,rfl,_,rfl,_,rfl,.inl ⟨D,_,_,_,rfl,rfl,SqL.of hD,Q5 hzl,.inr (.inl ⟨tl,_,_,_,rfl,rfl,SqT.of htl,rfl,.inl ⟨_,_,rfl,rfl,_,_,rfl,rfl,_,rfl,jE (fun g=>?_) (fun g=>?_)⟩⟩)⟩⟩
       · have g':wv.1≤l.2+1:=g;refine⟨_,rfl,_,rfl,.inl ⟨D,_,_,_,rfl,rfl,SqL.of hD,Q5 hzl,.inr (.inl ⟨tl,_,_,_,rfl,rfl,SqT.of htl,rfl,_,rfl,_,rfl,.inl ⟨D,_,_,_,rfl,rfl,SqL.of hD,Q5 hzl,.inr (.inl ⟨tl,_,_,_,rfl,rfl,SqT.of htl,rfl,_,rfl,_,_,rfl,qj (Nat.le_of_ble_eq_true rfl),fun tt ft=>?_⟩)⟩⟩)⟩⟩;have St:=Same.new (.tup [.int l.1,.int (if wv.2 > l.2 then wv.2 else l.2)]) ft;refine⟨_,rfl,_,rfl,D,_,_,ys.length - 1,rfl,rfl,St _ _ hD,qdc (by cases ys with|nil=>cases hzl|cons y ys=>simp),?_⟩;refine⟨_,_,ys.set (ys.length - 1) (.ref tt),rfl,(fun c o e n=>?_),qd,?_⟩
         · rw[qh n];exact St _ _ (B c o e n)
         · rw[qh8 ea g',← ty.1];exact(TupL.set (ty.same St) (i:=ys.length - 1) (p:=(l.1,if wv.2 > l.2 then wv.2 else l.2)) qd).put (St _ _ hD)
       · have g':¬ wv.1≤l.2+1:=g;refine⟨_,rfl,.inl ⟨rfl,_,SqL.of hD⟩,_,rfl,_,rfl,qj (Nat.le_of_ble_eq_true rfl),fun tt ft=>?_⟩;have St:=Same.new (.tup [.int wv.1,.int wv.2]) ft;refine⟨D,_,_,rfl,rfl,St _ _ hD,qw (by omega),?_⟩;refine⟨_,_,ys++[.ref tt],rfl,(fun c o e n=>?_),qd,?_⟩
         · rw[qh n];exact St _ _ (B c o e n)
         · rw[qjp ea g'];exact((ty.same St).snoc (p:=wv) qd).put (St _ _ hD)
   · rintro σ H3 ⟨s2,s3,ys,rfl,B,hD,ty⟩;have glen:=Jg ss ss.length;rw[tz.1]at ty;rw[List.take_length]at ty glen;obtain⟨f1,f2⟩:=qia ss [] ⟨fun _ z=>(nomatch z),List.Pairwise.nil⟩ oks ord fun _ z=>nomatch z;refine⟨_,rfl,kk D _ H3 (S0.none fD) (fun c o e=>?_) ⟨ys,hD,ty⟩ f1 (by omega) fun n=>?_⟩
     · have n:c≠D:=qm (S0 _ _ e) fD;exact B _ _ (SG _ _ (S0 _ _ e)) n
     · rw[f2,qjg hss,mok];exact⟨fun h=>h.elim (fun⟨_,z,_⟩=>nomatch z) id,.inr⟩
end
abbrev pr3:Int×Int×Int->List V:=fun p=>[.int p.1,.int p.2.1,.int p.2.2]
def ends (rows:List (Int×Int)):List Int:=(rows.drop 1).map (fun r=>r.1 - 1)++[1000000000]
def nxt:List (Int×Int)->Int
 | []=>1000000000
 | r::_=>r.1 - 1
def pcs:List (Int×Int)->List (Int×Int×Int)
 | []=>[]
 | r::rs=>(r.1,nxt rs,r.2)::pcs rs
theorem Ju:∀ rows:List (Int×Int),(pcs rows).length=rows.length
 | []=>rfl
 | r::rs=>by show (pcs rs).length+1=rs.length+1;rw[Ju rs]
theorem qga {rows:List (Int×Int)} (h:0 < rows.length):(ends rows).length=rows.length:=by
 unfold ends;rw[List.length_append,List.length_map,List.length_drop];show rows.length - 1+1=rows.length;omega
theorem qbz (r r':Int×Int) (rs:List (Int×Int)):ends (r::r'::rs)=(r'.1 - 1)::ends (r'::rs):=rfl
theorem qhz:∀ (rows:List (Int×Int)) (i:Nat) (r:Int×Int) (e:Int),rows[i]?=some r->(ends rows)[i]?=some e->(pcs rows)[i]?=some (r.1,e,r.2)
 | [],i,r,e,h,_=>by simp at h
 | [r0],i,r,e,h,h'=>by
   cases i with
   | zero=>cases h;cases h';rfl
   | succ i=>simp at h
 | r0::r1::rs,i,r,e,h,h'=>by
   cases i with
   | zero =>
     cases h;rw[qbz]at h';cases h';rfl
   | succ i =>
     rw[qbz]at h';exact qhz (r1::rs) i r e h h'
theorem qn3 (zs:List V) (h:0 < zs.length):qew zs (some 1) none=zs.drop 1:=by
 unfold qew;rw[show HT.sIx zs.length 0 (some 1)=min 1 zs.length from HT.sIx_nat _ _ 1,HT.sIx_none,Nat.min_eq_left h];rw[List.take_of_length_le (by rw[List.length_drop];exact Nat.le_refl _)]
theorem Jf {rows:List (Int×Int)} (h:Good rows):0 < rows.length:=by
 obtain⟨n,hn⟩:=h.fst
 cases rows with
 | nil=>cases hn
 | cons r rs=>exact Nat.succ_pos _
def mp (lo hi:Int) (p:Int×Int×Int):Int×Int:=(if lo - p.2.2 > p.1 then lo - p.2.2 else p.1,if hi - p.2.2 < p.2.1 then hi - p.2.2 else p.2.1)
def shw (rows:List (Int×Int)) (lo hi:Int):List (Int×Int):=(pcs rows).map (mp lo hi)
def qms (k:Addr):List (Str×V):=qdm "kept" (.ref k) []
theorem qbx (k:Addr):(qms k).lookup ("kept":Str)=some (.ref k):=by
 unfold qms;rw[Q4,if_pos rfl]
theorem qdg (k:Addr) {m:Str} (h1:¬ m="kept"):(qms k).lookup m=none:=by
 unfold qms;rw[Q4,if_neg h1];rfl
inductive qnA (a:Ad) (H:Hp) (x:Addr) (rows:List (Int×Int)):Prop
 | mk (k dx:Addr) (zs:List V) (h1:H x=some (.ins a.c_Table dx (qms k))) (h2:H k=some (.lst zs)) (h3:TupL pr H zs rows):qnA a H x rows
def Tb (a:Ad) (H:Hp) (x:Addr) (rows:List (Int×Int)):Prop:=qnA a H x rows
inductive QK (a:Ad) (vs:List V) (H:Hp) (Q:VK):Prop
 | mk (x:Addr) (rows:List (Int×Int)) (h1:vs=[.ref x]) (h2:Tb a H x rows) (h3:Good rows) (h4:∀ (d:Addr) (zs:List V) (H':Hp),H d=none->Same H H'->H' d=some (.lst zs)->TupL pr3 H' zs (pcs rows)->Q (.ref d) H'):QK a vs H Q
def Zv (a:Ad):Sp:=fun vs H Q _=>QK a vs H Q
inductive zF (a:Ad) (vs:List V) (H:Hp) (Q:VK):Prop
 | mk (x:Addr) (rows:List (Int×Int)) (lo hi:Int) (h1:vs=[.ref x,.int lo,.int hi]) (h2:Tb a H x rows) (h3:Good rows) (h4:(-10000000000≤lo∧lo≤10000000000)) (h5:(-10000000000≤hi∧hi≤10000000000)) (h6:∀ (d:Addr) (r:List (Int×Int)) (H':Hp),H d=none->Same H H'->Rs H' d r->zd r->r.length≤21->(∀ n,Mem r n↔Mem (shw rows lo hi) n)->Q (.ref d) H'):zF a vs H Q
def zM (a:Ad):Sp:=fun vs H Q _=>zF a vs H Q
section
variable {P:Program}{w:World}{K:Frag}{mg:Str->Option Value}{base:Heap}
theorem qbe {a:Ad} (T:Txt K mg a):qy P w K mg base CX0 1 a.f_aw a.fd_aw ["self"] (Zv a):=by
 refine T.d_aw.F.ok sc_Table_pieces (fun vs H Q E h=>?_) (fun cdv A outer s H vs Q E hr h=>?_)
 · obtain⟨x,rows,rfl,⟨k,dx,zs,hx,hk,tp⟩,good,kk⟩:=h;rfl
 · obtain⟨x,rows,rfl,⟨k,dx,zs,hx,hk,tp⟩,good,kk⟩:=h;obtain⟨t_LAST,c_LAST⟩:=T.g_LAST
   refine⟨_,(qc (qH (i:=1) sc_Table_pieces.nd rfl (Or.inl rfl) (qB Qh (zH rfl (CompOk.def ["moment","shift"] [none,none]) (qX (z3 uSl (qK (pv 0) rfl) (zK qe) ZJ)) (fun _ _ _ _ _=>(show PG _ _ (qjs K 2 _) from (zS rfl (qC (qt (i:=0) (show List.Nodup (["moment","shift"]:List Str) by decide +kernel) rfl (Or.inl rfl)) (qC (qt (i:=1) (show List.Nodup (["moment","shift"]:List Str) by decide +kernel) rfl (Or.inl rfl)) zx))))) (fun _ _ _ _ _=>zQ) (fun _ _ _ _ _=>(qB zG (pv 0) qe))) (qM (qa (za (v:=.int 1000000000) rfl c_LAST ⟨_,rfl⟩) qb))))
     (qf (qu (zH rfl (CompOk.def ["row","end"] [none,none]) (qlZ rfl T.n_zip (qa (qK (pv 0) rfl) (qa (pv 1) qb))) (fun _ _ _ _ _=>(show PG _ _ (qjs K 2 _) from (zS rfl (qC (qt (i:=0) (show List.Nodup (["row","end"]:List Str) by decide +kernel) rfl (Or.inl rfl)) (qC (qt (i:=1) (show List.Nodup (["row","end"]:List Str) by decide +kernel) rfl (Or.inl rfl)) zx))))) (fun _ _ _ _ _=>zQ) (fun _ _ _ _ _=>(qZ (qa (qr (r:=rIx K) qi (pv 0) qe (fun _ _=>rfl)) (qa (pv 1) (qa (qr (r:=rIx K) qi (pv 0) qe (fun _ _=>rfl)) qb))))))))),?_⟩
   try dsimp only [ze,Cx.nox]
   have hl:zs.length=rows.length:=tp.1;have pos:=Jf good;have few:=good.few;refine⟨_,rfl,x,_,dx,_,_,rfl,hx,T.cl_Table,T.n_Table_kept,qbx _,_,rfl,.inl ⟨k,_,rfl,SqL.of hk,fun sl fsl=>?_⟩⟩;rw[qn3 zs (by omega)];have B1:=Same.new (.lst (zs.drop 1)) fsl;refine⟨sl,rfl,⟨_,SqL.of qd⟩,fun D fD=>?_⟩;have B2:=B1.then (.lst []) fD
   refine zh (K:=K) (a:=sl) (xs:=zs.drop 1) (D:=D) (fun i σ H2=>∃ c0 c1:Option V,σ=[c0,c1]∧Same (upd H sl (.lst (zs.drop 1))) H2∧H2 D=some (.lst (((rows.drop 1).take i).map fun r=>V.int (r.1 - 1)))) ⟨none,none,rfl,Same.new _ fD,qd⟩ (fun i σ H2 _ ⟨_,_,_,S,_⟩=>SqL.of (S _ _ qd)) ?_ ?_
   · rintro i z σ H2 hz ⟨c0,c1,rfl,S,hD⟩;have hz':zs[i+1]?=some z:=by rw[List.getElem?_drop]at hz;rw[Nat.add_comm];exact hz
     have hi:i+1 < rows.length:=by rw[← hl];exact(List.getElem?_eq_some_iff.mp hz').1
     obtain⟨r,hr'⟩:∃ r,rows[i+1]?=some r:=⟨_,List.getElem?_eq_getElem hi⟩
     obtain⟨u,rfl,hu'⟩:=tp.2 (i+1) z r hz' hr';have hu2:=S _ _ (B1 _ _ hu');have hrd:(rows.drop 1)[i]?=some r:=by rw[List.getElem?_drop,Nat.add_comm];exact hr'
     have et:(rows.drop 1).take (i+1)=(rows.drop 1).take i++[r]:=by rw[List.take_add_one,hrd];rfl
     refine⟨u,_,rfl,SqT.of hu2,rfl,_,_,rfl,_,_,rfl,rfl,?_⟩;refine⟨_,rfl,_,_,rfl,rfl,_,hD,qw ?_,_,_,rfl,S.put fD _,?_⟩
     · rw[List.length_map,List.length_take,List.length_drop];omega
     · rw[qd,et,List.map_append];rfl
   rintro σ H2 ⟨c0,c1,rfl,S,hD⟩;rw[List.length_drop,hl,show rows.length - 1=(rows.drop 1).length by rw[List.length_drop],List.take_length]at hD;refine⟨qj (Nat.le_of_ble_eq_true rfl),fun l1 fl1=>?_⟩;have C1:=Same.new (.lst [.int 1000000000]) fl1;refine .inr (.inl ⟨D,l1,_,_,rfl,rfl,C1 _ _ hD,qd,qw (by rw[List.length_map,List.length_drop];omega),fun e fe=>?_⟩)
   have he:(upd (upd H2 l1 (.lst [.int 1000000000])) e (.lst (((rows.drop 1).map fun r=>V.int (r.1 - 1))++[.int 1000000000]))) e=some (.lst ((ends rows).map V.int)):=by
     rw[qd];unfold ends;rw[List.map_append,List.map_map];rfl
   have C2:=Same.new (.lst (((rows.drop 1).map fun r=>V.int (r.1 - 1))++[.int 1000000000])) fe;have SS:=((B1.trans S).trans C1).trans C2;(try dsimp only);generalize upd (upd H2 l1 (.lst [.int 1000000000])) e (.lst (((rows.drop 1).map fun r=>V.int (r.1 - 1))++[.int 1000000000]))=G at he SS ⊢;have hkG:=SS _ _ hk;have tpG:=tp.same SS;refine⟨_,rfl,x,_,dx,_,_,rfl,(SS _ _ hx),T.cl_Table,T.n_Table_kept,qbx _,_,rfl,false,k,e,rfl,⟨_,SqL.of hkG⟩,⟨_,SqL.of he⟩,fun D2 fD2=>?_⟩;have el:zs.length=((ends rows).map V.int).length:=by rw[List.length_map,qga pos,hl]
   refine qjC (K:=K) (t:=false) (a:=k) (b:=e) (xs:=zs) (ys:=(ends rows).map V.int) (D:=D2) (fun i σ H3=>∃ (c0 c1:Option V) (ws:List V),σ=[c0,c1]∧Same G H3∧H3 D2=some (.lst ws)∧TupL pr3 H3 ws ((pcs rows).take i)) el ⟨none,none,[],rfl,Same.new _ fD2,qd,.nil⟩ (fun i σ H3 _ ⟨_,_,_,_,S3,_⟩=>⟨SqL.of (S3 _ _ hkG),SqL.of (S3 _ _ he)⟩) ?_ ?_
   · rintro i z y σ H3 p hz hy ⟨c0,c1,ws,rfl,S3,hD2,tw⟩ fp;obtain⟨ey,hey,rfl⟩:=qhR hy;obtain⟨r,u,hr',rfl,hu'⟩:=tpG.of hz;have hpc:=qhz rows i r ey hr' hey;have P1:=Same.new (.tup [.ref u,.int ey]) fp;have S4:=S3.trans P1;have hu2:=S4 _ _ hu';have et:(pcs rows).take (i+1)=(pcs rows).take i++[(r.1,ey,r.2)]:=by rw[List.take_add_one,hpc];rfl
     refine⟨p,_,rfl,SqT.of qd,rfl,_,_,rfl,_,_,rfl,rfl,?_⟩;refine⟨_,rfl,.inr (.inl ⟨u,_,_,_,rfl,rfl,SqT.of hu2,rfl,_,rfl,_,rfl,.inr (.inl ⟨u,_,_,_,rfl,rfl,SqT.of hu2,rfl,qj (Nat.le_of_ble_eq_true rfl),fun tt ft=>?_⟩)⟩)⟩;have P2:=Same.new (.tup [.int r.1,.int ey,.int r.2]) ft;have hD3:=P2 _ _ (P1 _ _ hD2);have lw:ws.length≤21:=by rw[tw.1,List.length_take,Ju];omega
     refine⟨_,hD3,qw (by omega),_,_,ws++[.ref tt],rfl,(S4.trans P2).put fD2 _,qd,?_⟩;rw[et];exact(((tw.same P1).same P2).snoc (p:=(r.1,ey,r.2)) qd).put hD3
   · rintro σ H3 ⟨c0,c1,ws,rfl,S3,hD2,tw⟩;rw[hl,show rows.length=(pcs rows).length by rw[Ju],List.take_length]at tw;exact kk D2 ws H3 (SS.none fD2) (SS.trans S3) hD2 tw
theorem QW {a:Ad} (T:Txt K mg a):qy P w K mg base CX0 5 a.f_ax a.fd_ax ["self","low","high"] (zM a):=by
 have G_j:=jC (P:=P) (w:=w) (base:=base) T;have G_o:=Jb (P:=P) (w:=w) (base:=base) T;have G_aw:=qbe (P:=P) (w:=w) (base:=base) T;refine T.d_ax.F.ok QS (fun vs H Q E h=>?_) (fun cdv A outer s H vs Q E hr h=>?_)
 · obtain⟨x,rows,lo,hi,rfl,tb,good,hlo,hhi,kk⟩:=h;rfl
 · obtain⟨x,rows,lo,hi,rfl,tb,good,hlo,hhi,kk⟩:=h;have h_j:Room (4) _:=hr.mono (by decide);have h_o:Room (3) _:=hr.mono (by decide);have h_aw:Room (1) _:=hr.mono (by decide)
   refine⟨_,(qc (qU (zc (q8 (qp G_o h_o rfl T.d_o.m T.d_o.k T.d_o.b .nil qo (qa (pv 1) qb))))
       (qf qV)
       qx)
     (qc (qU (zc (q8 (qp G_o h_o rfl T.d_o.m T.d_o.k T.d_o.b .nil qo (qa (pv 2) qb))))
       (qf qV)
       qx)
     (qf (qu (qp G_j h_j rfl T.d_j.m T.d_j.k T.d_j.b .nil qo (qa (zH rfl (CompOk.def ["start","end","shift","low","high"] [none,none,none,some 1,some 2]) (qX (qE (pv 0) T.cl_Table T.d_aw.mt G_aw h_aw T.d_aw.b .nil qo)) (fun _ _ _ _ _=>(show PG _ _ (qjs K 3 _) from (zS rfl (qC (qt (i:=0) (show List.Nodup (["start","end","shift","low","high"]:List Str) by decide +kernel) rfl (Or.inl rfl)) (qC (qt (i:=1) (show List.Nodup (["start","end","shift","low","high"]:List Str) by decide +kernel) rfl (Or.inl rfl)) (qC (qt (i:=2) (show List.Nodup (["start","end","shift","low","high"]:List Str) by decide +kernel) rfl (Or.inl rfl)) zx)))))) (fun _ _ _ _ _=>zQ) (fun _ _ _ _ _=>(qZ (qa (qq (ZQ rfl) (by rfl) T.n_max ZT (qa (pv 0) (qa (qB zG (pv 3) (pv 2)) qb))) (qa (qq (ZP rfl) (by rfl) T.n_min ZS (qa (pv 1) (qa (qB zG (pv 4) (pv 2)) qb))) qb))))) qb)))))),?_⟩
   try dsimp only [ze,Cx.nox]
   have lp:=Ju rows;have few:=good.few;obtain⟨k0,dx,zs0,hx,hk0,tp0⟩:=id tb;refine⟨_,rfl,lo,rfl,hlo.1,hlo.2,true,rfl,qG rfl ?_⟩;refine⟨_,rfl,hi,rfl,hhi.1,hhi.2,true,rfl,qG rfl ?_⟩;refine⟨_,rfl,x,dx,_,rfl,hx,qdg _ (by decide),x,rows,rfl,tb,good,fun d zs H1 fd S1 hd tz=>⟨d,rfl,⟨_,SqL.of hd⟩,fun C fC=>?_⟩⟩;refine zh (K:=K) (a:=d) (xs:=zs) (D:=C) (fun i σ H2=>∃ (c0 c1 c2:Option V) (cs:List V),σ=[c0,c1,c2,some (.int lo),some (.int hi)]∧Same H1 H2∧H2 C=some (.lst cs)∧TupL pr H2 cs (((pcs rows).take i).map (mp lo hi))) ⟨none,none,none,[],rfl,Same.new _ fC,qd,.nil⟩ (fun i σ H2 _ ⟨_,_,_,_,_,S,_⟩=>SqL.of (S _ _ hd)) ?_ ?_
   · rintro i z σ H2 hz ⟨c0,c1,c2,cs,rfl,S,hC,tc⟩;obtain⟨r,u,hr',rfl,hu'⟩:=tz.of hz;have hu2:=S _ _ hu';have et:(pcs rows).take (i+1)=(pcs rows).take i++[r]:=by rw[List.take_add_one,hr'];rfl
     have lc:cs.length≤21:=by rw[tc.1,List.length_map,List.length_take];omega
     refine⟨u,_,rfl,SqT.of hu2,rfl,_,_,rfl,_,_,rfl,_,_,rfl,rfl,?_⟩;refine⟨_,rfl,_,rfl,_,rfl,_,_,rfl,rfl,_,_,rfl,_,rfl,_,rfl,_,rfl,_,_,rfl,rfl,_,_,rfl,qj (Nat.le_of_ble_eq_true rfl),fun tt ft=>?_⟩;have St:=Same.new (.tup (pr (mp lo hi r))) ft;have hC2:=St _ _ hC;refine⟨_,hC2,qw (by omega),_,_,_,cs++[.ref tt],rfl,(S.trans St).put fC _,qd,?_⟩;rw[et,List.map_append];exact((tc.same St).snoc (p:=mp lo hi r) qd).put hC2
   rintro σ H2 ⟨c0,c1,c2,cs,rfl,S,hC,tc⟩;rw[tz.1,List.take_length]at tc;refine⟨C,(pcs rows).map (mp lo hi),rfl,⟨cs,hC,tc⟩,(by rw[List.length_map];omega),fun e r H3 fe S3 R can lr mem=>?_⟩;rw[List.length_map]at lr;exact kk e r H3 ((S1.trans S).none fe) ((S1.trans S).trans S3) R can (by omega) mem
end
abbrev fsW (nm:Str) (lo hi:Int):List (Str×V):=[("name",.str nm),("low",.int lo),("high",.int hi)]
abbrev fsB (nm pl:Str) (lo hi:Int):List (Str×V):=[("name",.str nm),("place",.str pl),("low",.int lo),("high",.int hi)]
inductive Zc (vs:List V) (H:Hp) (Q:VK):Prop
 | mk (v u:V) (h1:vs=[v,u]) (h2:∀ (d:Addr) (H':Hp),H d=none->Same H H'->Rs H' d [(0,1000000000)]->Q (.ref d) H'):Zc vs H Q
def zJ:Sp:=fun vs H Q _=>Zc vs H Q
inductive QJ (K:Frag) (vs:List V) (H:Hp) (Q:VK):Prop
 | mk (x C dx:Addr) (nm:Str) (lo hi:Int) (u:V) (h1:vs=[.ref x,u]) (h2:H x=some (.ins C dx (fsW nm lo hi))) (h3:Cls K C) (h4:NoAttr K C "low") (h5:NoAttr K C "high") (h6:∀ (d:Addr) (r:List (Int×Int)) (H':Hp),H d=none->Same H H'->Rs H' d r->zd r->r.length≤1->(∀ n,Mem r n↔Mem [(lo,hi)] n)->Q (.ref d) H'):QJ K vs H Q
def qQ (K:Frag):Sp:=fun vs H Q _=>QJ K vs H Q
inductive Qq (K:Frag) (vs:List V) (H:Hp) (Q:VK):Prop
 | mk (x C dx:Addr) (nm pl:Str) (lo hi:Int) (h1:vs=[.ref x]) (h2:H x=some (.ins C dx (fsB nm pl lo hi))) (h3:Cls K C) (h4:NoAttr K C "place") (h5:∀ l,H l=none->Q (.ref l) (upd H l (.lst [.str pl]))):Qq K vs H Q
def qS (K:Frag):Sp:=fun vs H Q _=>Qq K vs H Q
theorem qbc {H:Hp}{t d:Addr}{w:Int×Int} (h1:H t=some (.tup (pr w))) (h2:H d=some (.lst [.ref t])):Rs H d [w]:=by
 refine⟨_,h2,rfl,fun j z y e1 e2=>?_⟩
 cases j with
 | zero=>cases e1;cases e2;exact⟨t,rfl,h1⟩
 | succ j=>cases e1
section
variable {P:Program}{w:World}{K:Frag}{mg:Str->Option Value}{base:Heap}
theorem ju {a:Ad} (T:Txt K mg a):qy P w K mg base CX0 1 a.f_E a.fd_E ["self","tables"] zJ:=by
 refine T.d_E.F.ok qbL (fun vs H Q E h=>?_) (fun cdv A outer s H vs Q E hr h=>?_)
 · obtain⟨v,u,rfl,kk⟩:=h;rfl
 · obtain⟨v,u,rfl,kk⟩:=h;obtain⟨t_LAST,c_LAST⟩:=T.g_LAST;refine⟨_,(qf (qu (qM (qa (qZ (qa qe (qa (za (v:=.int 1000000000) rfl c_LAST ⟨_,rfl⟩) qb))) qb)))),?_⟩;(try dsimp only [ze,Cx.nox]);refine⟨qj (Nat.le_of_ble_eq_true rfl),fun t ft=>⟨qj (Nat.le_of_ble_eq_true rfl),fun d fd=>?_⟩⟩;have S1:=Same.new (.tup [.int 0,.int 1000000000]) ft;have S2:=Same.new (.lst [.ref t]) fd;exact kk d _ (S1.none fd) (S1.trans S2) (qbc (w:=(0,1000000000)) (S2 _ _ qd) qd)
theorem zT {a:Ad} (T:Txt K mg a):qy P w K mg base CX0 5 a.f_b a.fd_b ["self","tables"] (qQ K):=by
 have G_j:=jC (P:=P) (w:=w) (base:=base) T;refine T.d_b.F.ok qaQ (fun vs H Q E h=>?_) (fun cdv A outer s H vs Q E hr h=>?_)
 · obtain⟨x,C,dx,nm,lo,hi,u,rfl,hx,cl,n1,n2,kk⟩:=h;rfl
 · obtain⟨x,C,dx,nm,lo,hi,u,rfl,hx,cl,n1,n2,kk⟩:=h;have h_j:Room (4) _:=hr.mono (by decide);refine⟨_,(qf (qu (qp G_j h_j rfl T.d_j.m T.d_j.k T.d_j.b .nil qo (qa (qM (qa (qZ (qa (qK (pv 0) rfl) (qa (qK (pv 0) rfl) qb))) qb)) qb)))),?_⟩;(try dsimp only [ze,Cx.nox]);refine⟨_,rfl,x,_,dx,_,_,rfl,hx,cl,n1,rfl,_,rfl,x,_,dx,_,_,rfl,hx,cl,n2,rfl,qj (Nat.le_of_ble_eq_true rfl),fun t ft=>⟨qj (Nat.le_of_ble_eq_true rfl),fun d fd=>?_⟩⟩;have S1:=Same.new (.tup [.int lo,.int hi]) ft;have S2:=Same.new (.lst [.ref t]) fd;refine⟨d,[(lo,hi)],rfl,qbc (w:=(lo,hi)) (S2 _ _ qd) qd,Nat.le_of_ble_eq_true rfl,fun e r H3 fe S3 R can lr mem=>?_⟩;exact kk e r H3 ((S1.trans S2).none fe) ((S1.trans S2).trans S3) R can lr mem
theorem zX {a:Ad} (T:Txt K mg a):qy P w K mg base CX0 1 a.f_h a.fd_h ["self"] (qS K):=by
 refine T.d_h.F.ok Jr (fun vs H Q E h=>?_) (fun cdv A outer s H vs Q E hr h=>?_)
 · obtain⟨x,C,dx,nm,pl,lo,hi,rfl,hx,cl,n1,kk⟩:=h;rfl
 · obtain⟨x,C,dx,nm,pl,lo,hi,rfl,hx,cl,n1,kk⟩:=h;refine⟨_,(qf (qu (qM (qa (qK (pv 0) rfl) qb)))),?_⟩;(try dsimp only [ze,Cx.nox]);exact⟨_,rfl,x,_,dx,_,_,rfl,hx,cl,n1,rfl,qj (Nat.le_of_ble_eq_true rfl),fun l fl=>kk l fl⟩
end
theorem Good.ne {rows:List (Int×Int)} (h:Good rows):0 < rows.length:=Jf h
inductive qau (vs:List V) (H:Hp) (Q:VK):Prop
 | mk (t:Addr) (r:Int×Int) (w:Int) (h1:vs=[.ref t,.int w]) (h2:H t=some (.tup (pr r))) (h3:0≤r.1) (h4:r.1≤1000000000) (h5:-w≤r.2) (h6:r.2≤w) (h7:Q (.bl true) H):qau vs H Q
def qdq:Sp:=fun vs H Q _=>qau vs H Q
inductive Z3 (vs:List V) (H:Hp) (Q:VK):Prop
 | mk (q:Addr) (i:Nat) (rows:List (Int×Int)) (h1:vs=[.ref q,.int i]) (h2:Rs H q rows) (h3:Good rows) (h4:i < rows.length) (h5:Q (.bl true) H):Z3 vs H Q
def Jz:Sp:=fun vs H Q _=>Z3 vs H Q
inductive Zq (vs:List V) (H:Hp) (Q:VK):Prop
 | mk (q:Addr) (rows:List (Int×Int)) (h1:vs=[.ref q,.int 21,.int 2880]) (h2:Rs H q rows) (h3:Good rows) (h4:∀ H',Same H H'->Q .non H'):Zq vs H Q
def jM:Sp:=fun vs H Q _=>Zq vs H Q
inductive Zw (a:Ad) (vs:List V) (H:Hp) (Q:VK):Prop
 | mk (x dx q:Addr) (rows:List (Int×Int)) (h1:vs=[.ref x,.ref q]) (h2:H x=some (.ins a.c_Table dx [])) (h3:Rs H q rows) (h4:Good rows) (h5:∀ H',But x H H'->Tb a H' x rows->Q .non H'):Zw a vs H Q
def Qi (a:Ad):Sp:=fun vs H Q _=>Zw a vs H Q
section
variable {P:Program}{w:World}{K:Frag}{mg:Str->Option Value}{base:Heap}
theorem qhD {a:Ad} (T:Txt K mg a):qy P w K mg base CX0 4 a.f_2 a.fd_2 ["thing","widest"] qdq:=by
 have G_w:=J9 (P:=P) (w:=w) (base:=base) T;have G_a:=Qs (P:=P) (w:=w) (base:=base) T;refine T.d_2.F.ok qhg (fun vs H Q E h=>?_) (fun cdv A outer s H vs Q E hr h=>?_)
 · obtain⟨t,r,w,rfl,ht,h1,h2,h3,h4,kk⟩:=h;rfl
 · obtain⟨t,r,w,rfl,ht,h1,h2,h3,h4,kk⟩:=h;have hU:=hr.units;have h_w:Room (3) _:=hr.mono (by decide);have h_a:Room (2) _:=hr.mono (by decide)
   refine⟨_,(qc (qU (PW.pt (Zh (zc (q8 (qq zV (by rfl) T.n_isinstance qv (qa (pv 0) (qa (Qc (v:=.ty "tuple") rfl T.n_tuple qbD rfl) qb))))) (Zf (qz (uNe hU) (qq qY (by rfl) T.n_len qL (qa (pv 0) qb)) qe (qJ _)))))
       (qf (qu Z2))
       qx)
     (qf (qu (J6 (qp G_w h_w rfl T.d_w.m T.d_w.k T.d_w.b .nil qo (qa (qr (r:=rIx K) qi (pv 0) qe (fun _ _=>rfl)) qb)) (qch (qp G_a h_a rfl T.d_a.m T.d_a.k T.d_a.b .nil qo (qa (qr (r:=rIx K) qi (pv 0) qe (fun _ _=>rfl)) (qa (jB Qm (pv 1)) (qa (pv 1) qb))))))))),?_⟩
   try dsimp only [ze,Cx.nox]
   have ty:tyN H (.ref t)=some "tuple":=by simp only[tyN];rw[ht]
   refine⟨_,rfl,_,_,_,rfl,(by decide),ty,true,rfl,qG rfl ?_⟩;refine⟨_,rfl,_,_,rfl,.inr ⟨_,SqT.of ht,rfl⟩,.inl ⟨rfl,_,rfl,qjk (fun g=>absurd rfl g) (fun _=>?_)⟩⟩;refine⟨_,rfl,.inr (.inl ⟨t,_,_,_,rfl,rfl,SqT.of ht,rfl,r.1,rfl,h1,h2,true,rfl,qgF ?_⟩)⟩;exact⟨_,rfl,.inr (.inl ⟨t,_,_,_,rfl,rfl,SqT.of ht,rfl,_,rfl,_,rfl,_,rfl,r.2,-w,w,rfl,h3,h4,kk⟩)⟩
theorem qd5 {a:Ad} (T:Txt K mg a):qy P w K mg base CX0 1 a.f_3 a.fd_3 ["rows","place"] Jz:=by
 refine T.d_3.F.ok qdC (fun vs H Q E h=>?_) (fun cdv A outer s H vs Q E hr h=>?_)
 · obtain⟨q,i,rows,rfl,⟨zs,hq,tp⟩,good,hi,kk⟩:=h;rfl
 · obtain⟨q,i,rows,rfl,⟨zs,hq,tp⟩,good,hi,kk⟩:=h;have hU:=hr.units
   refine⟨_,(qc (qU (qz (uEq hU) (pv 1) qe (qJ _))
       (qf (qu (Q1 (uEq hU) (qr (r:=rIx K) qi (qr (r:=rIx K) qi (pv 0) qe (fun _ _=>rfl)) qe (fun _ _=>rfl)) qe (qJ _))))
       qx)
     (qf (qu (Q1 qhB (qr (r:=rIx K) qi (qr (r:=rIx K) qi (pv 0) (pv 1) (fun _ _=>rfl)) qe (fun _ _=>rfl)) (qr (r:=rIx K) qi (qr (r:=rIx K) qi (pv 0) (qB zG (pv 1) qe) (fun _ _=>rfl)) qe (fun _ _=>rfl)) (qJ _))))),?_⟩
   try dsimp only [ze,Cx.nox]
   refine⟨_,rfl,.inl ⟨rfl,_,rfl,?_⟩⟩;obtain⟨r,hr'⟩:∃ r,rows[i]?=some r:=⟨_,List.getElem?_eq_getElem hi⟩
   obtain⟨t,hz,ht⟩:=tp.at_ hr';refine jE (fun g=>?_) (fun g=>?_)
   · have g0:i=0:=by injection g with g;omega
     subst g0;obtain⟨n,hn⟩:=good.fst
     have e:r=(0,n):=by
       rw[List.head?_eq_getElem?,hr']at hn;exact Option.some.inj hn
     subst e;refine⟨_,rfl,.inl ⟨q,_,_,_,rfl,rfl,SqL.of hq,qT hz,.inr (.inl ⟨t,_,_,_,rfl,rfl,SqT.of ht,rfl,.inl ⟨rfl,?_⟩⟩)⟩⟩;exact kk
   · have g1:0 < i:=by
       refine Nat.pos_of_ne_zero fun z=>g ?_;rw[z];rfl
     obtain⟨r0,hr0⟩:∃ r,rows[i - 1]?=some r:=⟨_,List.getElem?_eq_getElem (by omega)⟩
     obtain⟨t0,hz0,ht0⟩:=tp.at_ hr0
     have lt:r0.1 < r.1:=by
       obtain⟨l1,e1⟩:=List.getElem?_eq_some_iff.mp hr0;obtain⟨l2,e2⟩:=List.getElem?_eq_some_iff.mp hr'
       have:=List.pairwise_iff_getElem.mp good.asc (i - 1) i l1 l2 (by omega)
       rw[e1,e2]at this;exact this
     refine⟨_,rfl,_,rfl,.inl ⟨q,_,_,_,rfl,rfl,SqL.of hq,qT hz,.inr (.inl ⟨t,_,_,_,rfl,rfl,SqT.of ht,rfl,_,rfl,_,rfl,_,_,rfl,rfl,.inl ⟨q,_,_,_,rfl,rfl,SqL.of hq,(by show atI zs ((i:Int) - 1)=_;rw[show (i:Int) - 1=((i - 1:Nat):Int) by omega];exact qT hz0),.inr (.inl ⟨t0,_,_,_,rfl,rfl,SqT.of ht0,rfl,_,_,rfl,rfl,?_⟩)⟩⟩)⟩⟩;show Q (.bl (decide (r0.1 < r.1))) H;rw[decide_eq_true lt];exact kk
theorem qcW {a:Ad} (T:Txt K mg a):qy P w K mg base CX0 5 a.f_4 a.fd_4 ["rows","most","widest"] jM:=by
 have G_2:=qhD (P:=P) (w:=w) (base:=base) T;have G_3:=qd5 (P:=P) (w:=w) (base:=base) T;refine T.d_4.F.ok sc_check_rows (fun vs H Q E h=>?_) (fun cdv A outer s H vs Q E hr h=>?_)
 · obtain⟨q,rows,rfl,⟨zs,hq,tp⟩,good,kk⟩:=h;rfl
 · obtain⟨q,rows,rfl,⟨zs,hq,tp⟩,good,kk⟩:=h;have hU:=hr.units;have h_2:Room (4) _:=hr.mono (by decide);have h_3:Room (1) _:=hr.mono (by decide)
   refine⟨_,(qc (qU (PW.pt (Zh (zc (q8 (qq zV (by rfl) T.n_isinstance qv (qa (pv 0) (qa (Qc (v:=.ty "list") rfl T.n_list zf rfl) qb))))) (Zf (qz (uEq hU) (qq qY (by rfl) T.n_len qL (qa (pv 0) qb)) qe (qJ _)))))
       (qf qV)
       qx)
     (qc (qU (qz qhB (qq qY (by rfl) T.n_len qL (qa (pv 0) qb)) (pv 1) (qJ _))
       (qf qV)
       qx)
     (qf (zw PassesOwn.never rfl (qhv rfl T.n_enumerate (qa (pv 0) qb)) (zS rfl (qC (qt (i:=3) (sc_check_rows.nd) rfl (Or.inl rfl)) (qC (qt (i:=4) (sc_check_rows.nd) rfl (Or.inl rfl)) zx)))
       (qf (qU (PW.pt (Zh (zc (q8 (qp G_2 h_2 rfl T.d_2.m T.d_2.k T.d_2.b .nil qo (qa (pv 4) (qa (pv 2) qb))))) (Zf (zc (q8 (qp G_3 h_3 rfl T.d_3.m T.d_3.k T.d_3.b .nil qo (qa (pv 0) (qa (pv 3) qb))))))))
         (qf qV)
         qx)))))),?_⟩
   try dsimp only [ze,Cx.nox]
   have hl:zs.length=rows.length:=tp.1;have few:=good.few;have pos:=good.ne;have ty:tyN H (.ref q)=some "list":=by simp only[tyN];rw[hq]
   refine⟨_,rfl,_,_,_,rfl,(by decide),ty,true,rfl,qG rfl ?_⟩;refine⟨_,rfl,_,_,rfl,.inl ⟨_,SqL.of hq,rfl⟩,.inl ⟨rfl,_,rfl,jE (fun g=>?_) (fun _=>?_)⟩⟩
   · injection g with g;omega
   refine⟨_,rfl,_,_,rfl,.inl ⟨_,SqL.of hq,rfl⟩,_,rfl,_,_,rfl,rfl,_,rfl,jE (fun g=>?_) (fun _=>?_)⟩
   · omega
   refine⟨_,rfl,q,rfl,⟨zs,SqL.of hq⟩,qf7 (K:=K) (a:=q) (xs:=zs) (fun i σ H2=>∃ s3 s4:Option V,σ=[some (.ref q),some (.int 21),some (.int 2880),s3,s4]∧Same H H2) ⟨none,none,rfl,Same.refl H⟩ (fun i σ H2 _ ⟨_,_,_,S⟩=>SqL.of (S _ _ hq)) ?_ ?_⟩
   · rintro i x σ H2 p hx ⟨s3,s4,rfl,S⟩ hn;have S2:Same H (upd H2 p (.tup [.int i,x])):=S.then _ hn
     have hi:i < rows.length:=by rw[← hl];exact(List.getElem?_eq_some_iff.mp hx).1
     obtain⟨r,hr'⟩:∃ r,rows[i]?=some r:=⟨_,List.getElem?_eq_getElem hi⟩
     obtain⟨t,rfl,ht⟩:=tp.2 i x r hx hr';have ok:=good.ok r (List.mem_of_getElem? hr');refine⟨p,_,rfl,SqT.of qd,rfl,_,_,rfl,_,_,rfl,rfl,?_⟩;refine⟨_,rfl,_,rfl,t,r,2880,rfl,S2 _ _ ht,ok.1,ok.2.1,ok.2.2.1,ok.2.2.2,true,rfl,qG rfl ?_⟩;exact⟨_,rfl,_,rfl,q,i,rows,rfl,⟨zs,S2 _ _ hq,tp.same S2⟩,good,hi,true,rfl,qG rfl ⟨_,_,rfl,S2⟩⟩
   · rintro σ H2 ⟨s3,s4,rfl,S⟩;exact kk H2 S
theorem Q3 {a:Ad} (T:Txt K mg a):qy P w K mg base CX0 6 a.f_q a.fd_q ["self","rows"] (Qi a):=by
 have G_4:=qcW (P:=P) (w:=w) (base:=base) T;refine T.d_q.F.ok qcI (fun vs H Q E h=>?_) (fun cdv A outer s H vs Q E hr h=>?_)
 · obtain⟨x,dx,q,rows,rfl,hx,hrs,good,kk⟩:=h;rfl
 · obtain⟨x,dx,q,rows,rfl,hx,hrs,good,kk⟩:=h;have h_4:Room (5) _:=hr.mono (by decide);obtain⟨t_MOST_ROWS,c_MOST_ROWS⟩:=T.g_MOST_ROWS;obtain⟨t_WIDEST_SHIFT,c_WIDEST_SHIFT⟩:=T.g_WIDEST_SHIFT
   refine⟨_,(qc (qA (qp G_4 h_4 rfl T.d_4.m T.d_4.k T.d_4.b .nil qo (qa (pv 1) (qa (za (v:=.int 21) rfl c_MOST_ROWS ⟨_,rfl⟩) (qa (za (v:=.int 2880) rfl c_WIDEST_SHIFT ⟨_,rfl⟩) qb)))))
     (qf (z9 (pv 0) (zo (r:=qiU K) zm (by rfl) T.n_list zf (qa (pv 1) qb)) rfl))),?_⟩
   try dsimp only [ze,Cx.nox]
   refine⟨_,rfl,q,rows,rfl,hrs,good,fun G1 S1=>?_⟩;obtain⟨zs,hq,tp⟩:=hrs.same S1;have hx1:=S1 _ _ hx;refine⟨_,rfl,q,zs,rfl,.inl (SqL.of hq),fun k fk=>?_⟩;have nkx:x≠k:=qm hx1 fk;refine⟨_,rfl,x,_,dx,[],rfl,(qh nkx).trans hx1,T.cl_Table,T.n_Table_kept,(by show 0 < 1000;decide),?_⟩;have fkH:H k=none:=S1.none fk;refine kk _ (fun c o e n=>?_) ⟨k,dx,zs,qd,(qh nkx.symm).trans qd,⟨tp.1,fun i z p e1 e2=>?_⟩⟩
   · rw[qh n,qh (qm e fkH)];exact S1 _ _ e
   · obtain⟨t,et,ht⟩:=tp.2 i z p e1 e2;refine⟨t,et,?_⟩;rw[qh (zI ht hx1 (by intro z;cases z)),qh (qm ht fk)];exact ht
end
theorem qhy:∀ {rows:List (Int×Int)},(∀ r∈rows,0≤r.1∧r.1≤1000000000∧-2880≤r.2∧r.2≤2880)->∀ p∈pcs rows,(0≤p.1∧p.1≤1000000000)∧(-1≤p.2.1∧p.2.1≤1000000000)∧-2880≤p.2.2∧p.2.2≤2880
 | [],_,p,m=>nomatch m
 | r::rs,h,p,m=>by
   rcases List.mem_cons.mp m with rfl|m
   · have h0:=h r List.mem_cons_self;refine⟨⟨h0.1,h0.2.1⟩,?_,h0.2.2⟩
     cases rs with
     | nil=>exact(show (-1:Int)≤1000000000∧(1000000000:Int)≤1000000000 by decide)
     | cons r2 rs =>
       have h1:=h r2 (List.mem_cons_of_mem _ List.mem_cons_self);show -1≤r2.1 - 1∧r2.1 - 1≤_;omega
   · exact qhy (fun r m=>h r (List.mem_cons_of_mem _ m)) p m
abbrev Pls:=List (Str×Addr×List (Int×Int))
def dkv (ps:Pls):List (Key×V):=ps.map fun x=>((.inr x.1:Key),V.ref x.2.1)
theorem qg1:∀ {ps:Pls},(ps.map (·.1)).Nodup->∀ x∈ps,qbF (dkv ps) (.inr x.1)=some (V.ref x.2.1)
 | [],_,x,m=>nomatch m
 | y::ps,nd,x,m=>by
   rw[List.map_cons,List.nodup_cons]at nd;unfold dkv qbF;rw[List.map_cons,List.find?_cons];rcases List.mem_cons.mp m with rfl|m
   · simp
   · have n:¬ ((.inr y.1:Key)=.inr x.1):=fun e=>by
       injection e with e;exact nd.1 (e▸List.mem_map_of_mem m)
     rw[show decide (((.inr y.1:Key),V.ref y.2.1).1=.inr x.1)=false by simpa using n];exact qg1 nd.2 x m
theorem qlx:∀ {ps:Pls}{pl:Str},pl∉ps.map (·.1)->qbF (dkv ps) (.inr pl)=none
 | [],_,_=>rfl
 | y::ps,pl,h=>by
   rw[List.map_cons,List.mem_cons,not_or]at h;unfold dkv qbF;rw[List.map_cons,List.find?_cons];have n:¬ ((.inr y.1:Key)=.inr pl):=fun e=>by injection e with e;exact h.1 e.symm
   rw[show decide (((.inr y.1:Key),V.ref y.2.1).1=.inr pl)=false by simpa using n];exact qlx h.2
inductive Due (ps:Pls) (wd pl:Str) (lo hi:Int):List (Int×Int)->Prop
 | pl {x:Str×Addr×List (Int×Int)}:(wd="between"∨wd="read")->x∈ps->x.1=pl->Due ps wd pl lo hi (shw x.2.2 lo hi)
 | no:(wd="any"∨wd="within"∨wd="at")->Due ps wd pl lo hi [(lo,hi)]
inductive Zu (a:Ad) (vs:List V) (H:Hp) (Q:VK):Prop
 | mk (x:Addr) (rows:List (Int×Int)) (h1:vs=[.ref x]) (h2:Tb a H x rows) (h3:∀ (d:Addr) (H':Hp),H d=none->Same H H'->Rs H' d rows->Q (.ref d) H'):Zu a vs H Q
def jO (a:Ad):Sp:=fun vs H Q _=>Zu a vs H Q
inductive Zp (vs:List V) (H:Hp) (Q:VK):Prop
 | mk (i:Int) (h1:vs=[.int i]) (h2:-2000000000≤i) (h3:i≤2000000001) (h4:Q (.bl true) H):Zp vs H Q
def jK:Sp:=fun vs H Q _=>Zp vs H Q
theorem Zg:bootBuiltins "ValueError"=some (.type "ValueError"):=by decide +kernel
inductive qav (vs:List V) (H:Hp) (Q:VK):Prop
 | mk (v:V) (d:Addr) (ty:String) (b:Bool) (h1:vs=[v,.ref d]) (h2:tyN H v=some ty) (h3:((∃ (x:Str) (o:Option V),v=.str x∧qeH H d (.str x) o∧b=o.isSome)∨((∀ x,v≠.str x)∧b=false))) (h4:Q (.bl b) H):qav vs H Q
def qaw:Sp:=fun vs H Q _=>qav vs H Q
inductive QB (K:Frag) (vs:List V) (H:Hp) (Q:VK):Prop
 | mk (ea:Addr) (x:Str) (C:Addr) (dx:Option Addr) (tb:Value) (h1:vs=[.ref ea,.str x]) (h2:H ea=some (.ext (ExO ea C dx tb))) (h3:xIn K C=true) (h4:Q .non H):QB K vs H Q
def Za (K:Frag):Sp:=fun vs H Q _=>QB K vs H Q
inductive QM (a:Ad) (vs:List V) (H:Hp) (Q:VK):Prop
 | mk (ea:Addr) (v:V) (h1:vs=[.ref ea,v]) (h2:H ea=some (.ext (ExO ea a.c_NoEntry none .none))) (h3:∀ dx,H dx=none->dx≠ea->Q .non (upd (upd H ea (.ext (ExO ea a.c_NoEntry (some dx) .none))) dx (.xd [("found",v)]))):QM a vs H Q
def Zx (a:Ad):Sp:=fun vs H Q _=>QM a vs H Q
inductive QC (a:Ad) (vs:List V) (H:Hp) (Q:VK):Prop
 | mk (x C dx tb:Addr) (nm pl:Str) (lo hi:Int) (ta:Addr) (rows:List (Int×Int)) (h1:vs=[.ref x,.ref tb]) (h2:(C=a.c_Between∨C=a.c_Read)) (h3:H x=some (.ins C dx (fsB nm pl lo hi))) (h4:qeH H tb (.str pl) (some (.ref ta))) (h5:Tb a H ta rows) (h6:Good rows) (h7:(-10000000000≤lo∧lo≤10000000000)) (h8:(-10000000000≤hi∧hi≤10000000000)) (h9:∀ (d:Addr) (r:List (Int×Int)) (H':Hp),H d=none->Same H H'->Rs H' d r->zd r->r.length≤21->(∀ n,Mem r n↔Mem (shw rows lo hi) n)->Q (.ref d) H'):QC a vs H Q
def qW (a:Ad):Sp:=fun vs H Q _=>QC a vs H Q
section
variable {P:Program}{w:World}{K:Frag}{mg:Str->Option Value}{base:Heap}
theorem qcY {a:Ad} (T:Txt K mg a):qy P w K mg base CX0 1 a.f_av a.fd_av ["self"] (jO a):=by
 refine T.d_av.F.ok qcH (fun vs H Q E h=>?_) (fun cdv A outer s H vs Q E hr h=>?_)
 · obtain⟨x,rows,rfl,⟨k,dx,zs,hx,hk,tp⟩,kk⟩:=h;rfl
 · obtain⟨x,rows,rfl,⟨k,dx,zs,hx,hk,tp⟩,kk⟩:=h;refine⟨_,(qf (qu (zo (r:=qiU K) zm (by rfl) T.n_list zf (qa (qK (pv 0) rfl) qb)))),?_⟩;(try dsimp only [ze,Cx.nox]);exact⟨_,rfl,x,_,dx,_,_,rfl,hx,T.cl_Table,T.n_Table_kept,qbx _,k,zs,rfl,.inl (SqL.of hk),fun d fd=>kk d _ fd (Same.new _ fd) ⟨zs,qd,tp.same (Same.new _ fd)⟩⟩
theorem qcV {a:Ad} (T:Txt K mg a):qy P w K mg base CX0 3 a.f_V a.fd_V ["thing"] jK:=by
 have G_a:=Qs (P:=P) (w:=w) (base:=base) T;refine T.d_V.F.ok qcF (fun vs H Q E h=>?_) (fun cdv A outer s H vs Q E hr h=>?_)
 · obtain⟨i,rfl,h1,h2,kk⟩:=h;rfl
 · obtain⟨i,rfl,h1,h2,kk⟩:=h;have h_a:Room (2) _:=hr.mono (by decide);obtain⟨t_MOST_MINUTES,c_MOST_MINUTES⟩:=T.g_MOST_MINUTES;refine⟨_,(qf (qu (qp G_a h_a rfl T.d_a.m T.d_a.k T.d_a.b .nil qo (qa (pv 0) (qa (qB zG qe (za (v:=.int 2000000001) rfl c_MOST_MINUTES ⟨_,rfl⟩)) (qa (za (v:=.int 2000000001) rfl c_MOST_MINUTES ⟨_,rfl⟩) qb)))))),?_⟩;(try dsimp only [ze,Cx.nox]);exact⟨_,rfl,_,_,rfl,rfl,i,1 - 2000000001,2000000001,rfl,(by omega),(by omega),kk⟩
theorem qak {a:Ad} (T:Txt K mg a):qy P w K mg base CX0 1 a.f_az a.fd_az ["self","text"] (Za K):=by
 refine T.d_az.F.ok qaf (fun vs H Q E h=>?_) (fun cdv A outer s H vs Q E hr h=>?_)
 · obtain⟨ea,x,C,dx,tb,rfl,he,xi,kk⟩:=h;rfl
 · obtain⟨ea,x,C,dx,tb,rfl,he,xi,kk⟩:=h;refine⟨_,(qf (qA (qi6 rfl T.n_ValueError Zg (qa (pv 0) (qa (pv 1) qb))))),?_⟩;(try dsimp only [ze,Cx.nox]);exact⟨_,rfl,_,rfl,ea,C,dx,tb,_,rfl,Nat.le_of_ble_eq_true rfl,he,xi,kk⟩
theorem qbg {a:Ad} (T:Txt K mg a):qy P w K mg base CX0 3 a.f_ay a.fd_ay ["self","found"] (Zx a):=by
 have G_az:=qak (P:=P) (w:=w) (base:=base) T;refine T.d_ay.F.ok qaR (fun vs H Q E h=>?_) (fun cdv A outer s H vs Q E hr h=>?_)
 · obtain⟨ea,v,rfl,he,kk⟩:=h;rfl
 · obtain⟨ea,v,rfl,he,kk⟩:=h;have h_az:Room (1+1) _:=hr.mono (by decide)
   refine⟨_,(qc (qA (Q2 T.ci_LogError G_az (h_az.mono (by decide)) T.d_az.b rfl T.g_LogError (qa (pv 0) (qa q9 qb))))
     (qf (qkG (pv 0) (pv 1) rfl))),?_⟩
   try dsimp only [ze,Cx.nox]
   refine⟨_,rfl,ea,_,_,_,_,rfl,he,T.X_NoEntry.c.xi,?_⟩;exact⟨_,rfl,_,rfl,ea,_,_,rfl,he,T.X_NoEntry.c,T.n_NoEntry_found,kk⟩
theorem qd6 {a:Ad} (T:Txt K mg a):qy P w K mg base CX0 1 a.f_z a.fd_z ["thing","keyed"] qaw:=by
 refine T.d_z.F.ok qhh (fun vs H Q E h=>?_) (fun cdv A outer s H vs Q E hr h=>?_)
 · obtain⟨v,d,ty,b,rfl,ht,hv,kk⟩:=h;rfl
 · obtain⟨v,d,ty,b,rfl,ht,hv,kk⟩:=h;have hu:=qI hr;refine⟨_,(qf (qu (J6 (qq zV (by rfl) T.n_isinstance qv (qa (pv 0) (qa (Qc (v:=.ty "str") rfl T.n_str qez rfl) qb))) (qch (Q1 (qj0 hu) (pv 0) (pv 1) (by with_unfolding_all rfl)))))),?_⟩;(try dsimp only [ze,Cx.nox]);rcases hv with ⟨x,o,rfl,dg,rfl⟩|⟨hv,rfl⟩
   · cases ht;refine⟨_,rfl,_,_,_,rfl,(by decide),rfl,true,rfl,qgF ?_⟩;exact⟨_,rfl,_,rfl,d,_,rfl,dg,kk⟩
   · have e:qm3 "str" ty=false:=by
       cases v with
       | str x=>exact absurd rfl (hv x)
       | int i=>cases ht;rfl
       | bl b=>cases ht;rfl
       | non=>cases ht;rfl
       | byt x=>cases ht
       | flt x=>cases ht
       | ty x=>cases ht
       | ref p =>
         simp only[tyN]at ht;split at ht<;>first|(cases ht;rfl)|cases ht
     refine⟨_,rfl,_,_,_,rfl,(by decide),ht,_,rfl,?_⟩;rw[e];exact qgR kk
theorem Qd {a:Ad} (T:Txt K mg a):qy P w K mg base CX0 6 a.f_i a.fd_i ["self","tables"] (qW a):=by
 have G_ax:=QW (P:=P) (w:=w) (base:=base) T;refine T.d_i.F.ok qag (fun vs H Q E h=>?_) (fun cdv A outer s H vs Q E hr h=>?_)
 · obtain⟨x,C,dx,tb,nm,pl,lo,hi,ta,rows,rfl,hC,hx,dg,tbr,good,hlo,hhi,kk⟩:=h;rfl
 · obtain⟨x,C,dx,tb,nm,pl,lo,hi,ta,rows,rfl,hC,hx,dg,tbr,good,hlo,hhi,kk⟩:=h;have hu:=qI hr;have h_ax:Room (5) _:=hr.mono (by decide)
   refine⟨_,(qc (qU (qz (qba hu) (qK (pv 0) rfl) (pv 1) (by with_unfolding_all rfl))
       (qf qV)
       qx)
     (qf (qu (qF (qeX hu (pv 1) (qK (pv 0) rfl) (fun _ _=>rfl)) T.cl_Table T.d_ax.mt G_ax h_ax T.d_ax.b .nil qo (qa (qK (pv 0) rfl) (qa (qK (pv 0) rfl) qb)))))),?_⟩
   try dsimp only [ze,Cx.nox]
   obtain⟨cl,n_place,n_low,n_high⟩:Cls K C∧NoAttr K C "place"∧NoAttr K C "low"∧NoAttr K C "high":=by
     rcases hC with rfl|rfl
     · exact⟨T.cl_Between,T.n_Between_place,T.n_Between_low,T.n_Between_high⟩
     · exact⟨T.cl_Read,T.n_Read_place,T.n_Read_low,T.n_Read_high⟩
   refine⟨_,rfl,x,_,dx,_,_,rfl,hx,cl,n_place,rfl,_,rfl,tb,_,rfl,dg,_,rfl,qG rfl ?_⟩;obtain⟨k0,dt,zs0,ht,hk0,tp0⟩:=id tbr;refine⟨_,rfl,_,rfl,x,_,dx,_,_,rfl,hx,cl,n_place,rfl,tb,_,rfl,dg,ta,dt,_,rfl,ht,qdg _ (by decide),?_⟩;exact⟨_,rfl,x,_,dx,_,_,rfl,hx,cl,n_low,rfl,_,rfl,x,_,dx,_,_,rfl,hx,cl,n_high,rfl,ta,rows,lo,hi,rfl,tbr,good,hlo,hhi,kk⟩
end
theorem qdn {l:List Addr} (n:l.Nodup) {i j:Nat}{x y:Addr} (hi:l[i]?=some x) (hj:l[j]?=some y) (h:i≠j):x≠y:=by
 intro e;subst e;obtain⟨h1,e1⟩:=List.getElem?_eq_some_iff.mp hi;obtain⟨h2,e2⟩:=List.getElem?_eq_some_iff.mp hj;exact h ((List.getElem_inj n).mp (e1.trans e2.symm))
theorem qk {H G:Hp}{l:Addr}{o:HO} (h:upd H l o=G) (f:H l=none):Same H G∧G l=some o:=by
 subst h;exact⟨Same.new o f,qd⟩
theorem qhe {i:Nat}{v:V}{u:TS}{D:qgS}{σ:L2.St}{H:Hp} (h:u D (σ.set i (some v)) H):qmK (qmC (tC v) (qjt i)) u D σ H:=h
theorem Jw {A:List (Int×Int)}{i:Nat}{x:Int×Int} (h:A[i]?=some x):A.drop i=x::A.drop (i+1):=by
 obtain⟨hi,e⟩:=List.getElem?_eq_some_iff.mp h;rw[← e];exact List.drop_eq_getElem_cons hi
theorem Jk {A:List (Int×Int)} (c:zd A) {i:Nat}{x:Int×Int} (h:A[i]?=some x):∀ u∈A.drop (i+1),x.2+1 < u.1:=fun u m=>by
 obtain⟨k,hk,e⟩:=List.mem_iff_getElem.mp m;rw[List.getElem_drop]at e;obtain⟨hi,ex⟩:=List.getElem?_eq_some_iff.mp h;have hk':i+1+k < A.length:=by rw[List.length_drop]at hk;omega
 have:=List.pairwise_iff_getElem.mp c.2 i (i+1+k) hi hk' (by omega)
 rw[ex,e]at this;exact this
theorem mem_cons2 {x:Int×Int}{A:List (Int×Int)}{n:Int}:Mem (x::A) n↔(x.1≤n∧n≤x.2)∨Mem A n:=by
 constructor
 · rintro⟨w,m,h⟩;rcases List.mem_cons.mp m with e|m
   · exact .inl (e▸h)
   · exact .inr ⟨w,m,h⟩
 · rintro (h|⟨w,m,h⟩)
   · exact⟨x,List.mem_cons_self,h⟩
   · exact⟨w,List.mem_cons_of_mem _ m,h⟩
theorem mem_snoc2 {x:Int×Int}{A:List (Int×Int)}{n:Int}:Mem (A++[x]) n↔Mem A n∨(x.1≤n∧n≤x.2):=by
 constructor
 · rintro⟨w,m,h⟩;rcases List.mem_append.mp m with m|m
   · exact .inl ⟨w,m,h⟩
   · exact .inr (List.mem_singleton.mp m▸h)
 · rintro (⟨w,m,h⟩|h)
   · exact⟨w,List.mem_append_left _ m,h⟩
   · exact⟨x,List.mem_append_right _ (List.mem_singleton.mpr rfl),h⟩
structure BI (A B:List (Int×Int)) (i j:Nat) (t:List (Int×Int)):Prop where
 can:zd t
 sub:∀ n,Mem t n->Mem A n∧Mem B n
 cov:∀ n,Mem A n->Mem B n->Mem t n∨(Mem (A.drop i) n∧Mem (B.drop j) n)
 sep:∀ w∈t,∀ x y,A[i]?=some x->B[j]?=some y->w.2+1 < x.1∨w.2+1 < y.1
 len:t.length≤i+j
abbrev mx2 (x y:Int):Int:=if y > x then y else x
abbrev mn2 (x y:Int):Int:=if y < x then y else x
abbrev bt (x y:Int×Int) (t:List (Int×Int)):List (Int×Int):=if mx2 x.1 y.1≤mn2 x.2 y.2 then t++[(mx2 x.1 y.1,mn2 x.2 y.2)] else t
theorem BI.mid {A B:List (Int×Int)}{i j:Nat}{t:List (Int×Int)}{x y:Int×Int} (b:BI A B i j t) (hx:A[i]?=some x) (hy:B[j]?=some y):zd (bt x y t)∧(∀ n,Mem (bt x y t) n->Mem A n∧Mem B n)∧(∀ n,Mem t n∨((x.1≤n∧n≤x.2)∧(y.1≤n∧n≤y.2))->Mem (bt x y t) n)∧(bt x y t).length≤i+j+1:=by
 have h1:x.1≤mx2 x.1 y.1∧y.1≤mx2 x.1 y.1∧(mx2 x.1 y.1=x.1∨mx2 x.1 y.1=y.1):=by unfold mx2;split<;>omega
 have h2:mn2 x.2 y.2≤x.2∧mn2 x.2 y.2≤y.2∧(mn2 x.2 y.2=x.2∨mn2 x.2 y.2=y.2):=by unfold mn2;split<;>omega
 have mx:=List.mem_of_getElem? hx;have my:=List.mem_of_getElem? hy;unfold bt;generalize mx2 x.1 y.1=lo at *;generalize mn2 x.2 y.2=hi at *;split
 · rename_i le
   refine⟨⟨fun w m=>?_,List.pairwise_append.mpr ⟨b.can.2,List.pairwise_singleton _ _,fun u mu v mv=>?_⟩⟩,fun n h=>?_,fun n h=>mem_snoc2.mpr ?_,?_⟩
   · rcases List.mem_append.mp m with m|m
     · exact b.can.1 w m
     · rw[List.mem_singleton.mp m];exact le
   · rw[List.mem_singleton.mp mv];show u.2+1 < lo;rcases b.sep u mu x y hx hy with z|z<;>omega
   · rcases mem_snoc2.mp h with h|h
     · exact b.sub n h
     · have h3:lo≤n:=h.1;have h4:n≤hi:=h.2;exact⟨⟨x,mx,by omega,by omega⟩,⟨y,my,by omega,by omega⟩⟩
   · rcases h with h|h
     · exact .inl h
     · refine .inr ⟨?_,?_⟩
       · show lo≤n;omega
       · show n≤hi;omega
   · rw[List.length_append];have:=b.len;show t.length+1≤_;omega
 · rename_i le
   refine⟨b.can,b.sub,fun n h=>?_,by have:=b.len;omega⟩;rcases h with h|h
   · exact h
   · omega
theorem BI.stepA {A B:List (Int×Int)} (cA:zd A) (cB:zd B) {i j:Nat}{t:List (Int×Int)}{x y:Int×Int} (b:BI A B i j t) (hx:A[i]?=some x) (hy:B[j]?=some y) (lt:x.2 < y.2):BI A B (i+1) j (bt x y t):=by
 obtain⟨m1,m2,m3,m4⟩:=b.mid hx hy;have gA:=Jk cA hx;have gB:=Jk cB hy;refine⟨m1,m2,fun n a1 a2=>?_,fun w mw x' y' hx' hy'=>?_,by omega⟩
 · rcases b.cov n a1 a2 with h|⟨h,h'⟩
   · exact .inl (m3 n (.inl h))
   · rw[Jw hx]at h;rcases mem_cons2.mp h with h|h
     · have h'':=h';rw[Jw hy]at h'';rcases mem_cons2.mp h'' with k|⟨u,mu,k1,k2⟩
       · exact .inl (m3 n (.inr ⟨h,k⟩))
       · have:=gB u mu
         omega
     · exact .inr ⟨h,h'⟩
 · have gx:=gA x' (by rw[Jw hx'];exact List.mem_cons_self);have x0:=cA.1 x (List.mem_of_getElem? hx);rw[hy]at hy';cases hy';unfold bt at mw;split at mw
   · rcases List.mem_append.mp mw with mw|mw
     · rcases b.sep w mw x y hx hy with z|z
       · exact .inl (by omega)
       · exact .inr z
     · rw[List.mem_singleton.mp mw];refine .inl ?_;show mn2 x.2 y.2+1 < x'.1;unfold mn2;split<;>omega
   · rcases b.sep w mw x y hx hy with z|z
     · exact .inl (by omega)
     · exact .inr z
theorem BI.stepB {A B:List (Int×Int)} (cA:zd A) (cB:zd B) {i j:Nat}{t:List (Int×Int)}{x y:Int×Int} (b:BI A B i j t) (hx:A[i]?=some x) (hy:B[j]?=some y) (lt:¬ x.2 < y.2):BI A B i (j+1) (bt x y t):=by
 obtain⟨m1,m2,m3,m4⟩:=b.mid hx hy;have gA:=Jk cA hx;have gB:=Jk cB hy;refine⟨m1,m2,fun n a1 a2=>?_,fun w mw x' y' hx' hy'=>?_,by omega⟩
 · rcases b.cov n a1 a2 with h|⟨h,h'⟩
   · exact .inl (m3 n (.inl h))
   · rw[Jw hy]at h';rcases mem_cons2.mp h' with k|k
     · have h'':=h;rw[Jw hx]at h'';rcases mem_cons2.mp h'' with k'|⟨u,mu,k1,k2⟩
       · exact .inl (m3 n (.inr ⟨k',k⟩))
       · have:=gA u mu
         omega
     · exact .inr ⟨h,k⟩
 · have gy:=gB y' (by rw[Jw hy'];exact List.mem_cons_self);have y0:=cB.1 y (List.mem_of_getElem? hy);rw[hx]at hx';cases hx';unfold bt at mw;split at mw
   · rcases List.mem_append.mp mw with mw|mw
     · rcases b.sep w mw x y hx hy with z|z
       · exact .inl z
       · exact .inr (by omega)
     · rw[List.mem_singleton.mp mw];refine .inr ?_;show mn2 x.2 y.2+1 < y'.1;unfold mn2;split<;>omega
   · rcases b.sep w mw x y hx hy with z|z
     · exact .inl z
     · exact .inr (by omega)
theorem BI.fin {A B:List (Int×Int)}{i j:Nat}{t:List (Int×Int)} (b:BI A B i j t) (h:A.length≤i∨B.length≤j):∀ n,Mem t n↔Mem A n∧Mem B n:=fun n=>by
 refine⟨b.sub n,fun zz_=>?_⟩;obtain⟨h1,h2⟩:=zz_;rcases b.cov n h1 h2 with z|⟨z1,z2⟩
 · exact z
 · rcases h with h|h
   · rw[List.drop_eq_nil_of_le h]at z1;obtain⟨_,m,_⟩:=z1;cases m
   · rw[List.drop_eq_nil_of_le h]at z2;obtain⟨_,m,_⟩:=z2;cases m
theorem BI.zero (A B:List (Int×Int)):BI A B 0 0 []:=⟨⟨(fun _ m=>nomatch m),List.Pairwise.nil⟩,(fun _ ⟨_,m,_⟩=>nomatch m),fun _ h1 h2=>.inr ⟨h1,h2⟩,(fun _ m=>nomatch m),Nat.zero_le _⟩
inductive qdr (vs:List V) (H:Hp) (Q:VK):Prop
 | mk (p q:Addr) (A B:List (Int×Int)) (h1:vs=[.ref p,.ref q]) (h2:Rs H p A) (h3:Rs H q B) (h4:zd A) (h5:zd B) (h6:A.length+B.length≤900) (h7:∀ (d:Addr) (r:List (Int×Int)) (H':Hp),H d=none->Same H H'->Rs H' d r->zd r->r.length≤A.length+B.length->(∀ n,Mem r n↔Mem A n∧Mem B n)->Q (.ref d) H'):qdr vs H Q
def qhb:Sp:=fun vs H Q _=>qdr vs H Q
section
variable {P:Program}{w:World}{K:Frag}{mg:Str->Option Value}{base:Heap}
theorem qkN {a:Ad} (T:Txt K mg a):qy P w K mg base CX0 1 a.f_Y a.fd_Y ["one","other"] qhb:=by
 refine T.d_Y.F.ok sc_both (fun vs H Q E h=>?_) (fun cdv A outer s H vs Q E hr h=>?_)
 · obtain⟨p,q,A,B,rfl,⟨zp,hp,tp⟩,⟨zq,hq,tq⟩,cA,cB,few,kk⟩:=h;rfl
 · obtain⟨p,q,A,B,rfl,⟨zp,hp,tp⟩,⟨zq,hq,tq⟩,cA,cB,few,kk⟩:=h;have hu:=qI hr;have hU:=hr.units
   refine⟨_,(qc (qH (i:=2) sc_both.nd rfl (Or.inl rfl) (qM qb))
     (qc (qH (i:=3) sc_both.nd rfl (Or.inl rfl) qe)
     (qc (qH (i:=4) sc_both.nd rfl (Or.inl rfl) qe)
     (qc (qi0 PassesOwn.never (PW.pt (J1 (qz qhA (pv 3) (qq qY (by rfl) T.n_len qL (qa (pv 0) qb)) (qJ _)) (ZI (qz qhA (pv 4) (qq qY (by rfl) T.n_len qL (qa (pv 1) qb)) (qJ _)))))
       (qc (qH (i:=5) sc_both.nd rfl (Or.inl rfl) (qq (ZQ rfl) (by rfl) T.n_max ZT (qa (qr (r:=rIx K) qi (qr (r:=rIx K) qi (pv 0) (pv 3) (fun _ _=>rfl)) qe (fun _ _=>rfl)) (qa (qr (r:=rIx K) qi (qr (r:=rIx K) qi (pv 1) (pv 4) (fun _ _=>rfl)) qe (fun _ _=>rfl)) qb))))
       (qc (qH (i:=6) sc_both.nd rfl (Or.inl rfl) (qq (ZP rfl) (by rfl) T.n_min ZS (qa (qr (r:=rIx K) qi (qr (r:=rIx K) qi (pv 0) (pv 3) (fun _ _=>rfl)) qe (fun _ _=>rfl)) (qa (qr (r:=rIx K) qi (qr (r:=rIx K) qi (pv 1) (pv 4) (fun _ _=>rfl)) qe (fun _ _=>rfl)) qb))))
       (qc (qU (qz qcT (pv 5) (pv 6) (qJ _))
         (qf (qA (Zi PySem.F.plainAttrs_list PySem.F.slot_list_append PySem.F.type_list_append zg (pv 2) (qa (qZ (qa (pv 5) (qa (pv 6) qb))) qb))))
         qx)
       (qf (qU (qz qhA (qr (r:=rIx K) qi (qr (r:=rIx K) qi (pv 0) (pv 3) (fun _ _=>rfl)) qe (fun _ _=>rfl)) (qr (r:=rIx K) qi (qr (r:=rIx K) qi (pv 1) (pv 4) (fun _ _=>rfl)) qe (fun _ _=>rfl)) (qJ _))
         (qf (qjY (i:=3) sc_both.nd rfl (Or.inl rfl) qe qj7))
         (qf (qjY (i:=4) sc_both.nd rfl (Or.inl rfl) qe qj7))))))))
     (qf (qu (pv 2))))))),?_⟩
   try dsimp only [ze,Cx.nox]
   refine⟨qj (Nat.le_of_ble_eq_true rfl),fun d fd=>?_⟩;generalize hG:upd H d _=G;obtain⟨S0,e0⟩:=qk hG fd;clear hG;(try unfold qP);(try dsimp only);refine qhe (qhe ?_);refine qO (t:=qjF _ _) (fun σ' H'=>∃ (s3 s4 s5 s6:Option V) (t:List (Int×Int)),σ'=[some (.ref p),some (.ref q),some (.ref d),s3,s4,s5,s6]∧Same H H'∧Rs H' d t∧zd t∧t.length≤A.length+B.length∧∀ n,Mem t n↔Mem A n∧Mem B n) (fun N hN=>?_) ?_
   · refine⟨fun m σ H2=>∃ (i j:Nat) (s5 s6:Option V) (t:List (Int×Int)),σ=[some (.ref p),some (.ref q),some (.ref d),some (.int (i:Int)),some (.int (j:Int)),s5,s6]∧Same H H2∧Rs H2 d t∧BI A B i j t∧i≤A.length∧j≤B.length∧m=(A.length - i)+(B.length - j),⟨_,0,0,none,none,[],rfl,S0,⟨[],e0,.nil⟩,.zero A B,Nat.zero_le _,Nat.zero_le _,rfl⟩,?_⟩;rintro m σ H2 ⟨i,j,s5,s6,t,rfl,S2,⟨zt,ht,tt⟩,bi,hi,hj,rfl⟩;have lp:zp.length=A.length:=tp.1;have lq:zq.length=B.length:=tq.1;have hp2:=S2 _ _ hp;have hq2:=S2 _ _ hq;refine⟨_,rfl,_,rfl,_,_,rfl,.inl ⟨_,SqL.of hp2,rfl⟩,_,_,rfl,rfl,_,rfl,jE (fun g1=>?_) (fun g1=>?_)⟩
     case refine_2=>exact qG rfl (hN _ _ ⟨_,_,_,_,t,rfl,S2,⟨zt,ht,tt⟩,bi.can,Nat.le_trans bi.len (by omega),bi.fin (.inl (by omega))⟩)
     refine⟨_,rfl,_,rfl,_,_,rfl,.inl ⟨_,SqL.of hq2,rfl⟩,_,_,rfl,rfl,_,rfl,jE (fun g2=>?_) (fun g2=>?_)⟩
     case refine_2=>exact hN _ _ ⟨_,_,_,_,t,rfl,S2,⟨zt,ht,tt⟩,bi.can,Nat.le_trans bi.len (by omega),bi.fin (.inr (by omega))⟩
     refine⟨fun σ' H'=>∃ m',m' < (A.length - i)+(B.length - j)∧(fun m σ H2=>∃ (i j:Nat) (s5 s6:Option V) (t:List (Int×Int)),σ=[some (.ref p),some (.ref q),some (.ref d),some (.int (i:Int)),some (.int (j:Int)),s5,s6]∧Same H H2∧Rs H2 d t∧BI A B i j t∧i≤A.length∧j≤B.length∧m=(A.length - i)+(B.length - j)) m' σ' H',fun _ _ h=>h,?_⟩;obtain⟨x,hx⟩:∃ x,A[i]?=some x:=⟨_,List.getElem?_eq_getElem (by omega)⟩
     obtain⟨y,hy⟩:∃ y,B[j]?=some y:=⟨_,List.getElem?_eq_getElem (by omega)⟩
     obtain⟨u,ha,hu0⟩:=tp.at_ hx;obtain⟨v,hb,hv0⟩:=tq.at_ hy;have hu:=S2 _ _ hu0;have hv:=S2 _ _ hv0;refine⟨_,rfl,_,rfl,.inl ⟨p,_,_,_,rfl,rfl,SqL.of hp2,qT ha,.inr (.inl ⟨u,_,_,_,rfl,rfl,SqT.of hu,rfl,_,rfl,_,rfl,.inl ⟨q,_,_,_,rfl,rfl,SqL.of hq2,qT hb,.inr (.inl ⟨v,_,_,_,rfl,rfl,SqT.of hv,rfl,_,_,rfl,?_⟩)⟩⟩)⟩⟩;(try unfold qP);(try dsimp only);refine⟨_,rfl,_,rfl,.inl ⟨p,_,_,_,rfl,rfl,SqL.of hp2,qT ha,.inr (.inl ⟨u,_,_,_,rfl,rfl,SqT.of hu,rfl,_,rfl,_,rfl,.inl ⟨q,_,_,_,rfl,rfl,SqL.of hq2,qT hb,.inr (.inl ⟨v,_,_,_,rfl,rfl,SqT.of hv,rfl,_,_,rfl,?_⟩)⟩⟩)⟩⟩;(try unfold qP);(try dsimp only);have lt:zt.length=t.length:=tt.1;have bl:=bi.len;refine qO (t:=qmB _ _ _) (fun σ' H'=>σ'=[some (.ref p),some (.ref q),some (.ref d),some (.int (i:Int)),some (.int (j:Int)),some (.int (mx2 x.1 y.1)),some (.int (mn2 x.2 y.2))]∧Same H H'∧Rs H' d (bt x y t)) (fun N hN=>?_) ?_
     · refine⟨_,rfl,_,rfl,_,_,rfl,rfl,_,rfl,jE (fun g3=>?_) (fun g3=>hN _ _ ⟨rfl,S2,by unfold bt;rw[if_neg g3];exact⟨zt,ht,tt⟩⟩)⟩;refine⟨_,rfl,.inl ⟨rfl,_,SqL.of ht⟩,_,rfl,_,rfl,qj (Nat.le_of_ble_eq_true rfl),fun w fw=>?_⟩;generalize hG:upd H2 w _=G2;obtain⟨S3,e3⟩:=qk hG fw;clear hG;refine⟨d,_,_,rfl,rfl,S3 _ _ ht,qw (by omega),?_⟩;refine hN _ _ ⟨rfl,(S2.trans S3).put fd _,?_⟩;unfold bt;rw[if_pos g3];exact⟨_,qd,((tt.same S3).snoc (p:=(mx2 x.1 y.1,mn2 x.2 y.2)) e3).put (S3 _ _ ht)⟩
     rintro _ H3 ⟨rfl,S3,R3⟩;have hp2:=S3 _ _ hp;have hq2:=S3 _ _ hq;have hu:=S3 _ _ hu0;have hv:=S3 _ _ hv0;refine⟨_,rfl,_,rfl,.inl ⟨p,_,_,_,rfl,rfl,SqL.of hp2,qT ha,.inr (.inl ⟨u,_,_,_,rfl,rfl,SqT.of hu,rfl,_,rfl,_,rfl,.inl ⟨q,_,_,_,rfl,rfl,SqL.of hq2,qT hb,.inr (.inl ⟨v,_,_,_,rfl,rfl,SqT.of hv,rfl,_,_,rfl,rfl,_,rfl,jE (fun g4=>?_) (fun g4=>?_)⟩)⟩⟩)⟩⟩
     · refine⟨_,rfl,_,_,rfl,rfl,?_⟩;exact⟨_,(by omega:(A.length - (i+1))+(B.length - j) < _),i+1,j,_,_,_,rfl,S3,R3,bi.stepA cA cB hx hy g4,by omega,hj,rfl⟩
     · refine⟨_,rfl,_,_,rfl,rfl,?_⟩;exact⟨_,(by omega:(A.length - i)+(B.length - (j+1)) < _),i,j+1,_,_,_,rfl,S3,R3,bi.stepB cA cB hx hy g4,hi,by omega,rfl⟩
   rintro _ H2 ⟨s3,s4,s5,s6,t,rfl,S2,R2,c2,l2,m2⟩;exact⟨_,rfl,kk d t H2 fd S2 R2 c2 l2 m2⟩
end
structure Ent where
 nm:Str
 wd:Str
 pl:Str
 lo:Int
 hi:Int
 x:Addr
def pls (pl:Str):List Str:=if pl="" then [] else [pl]
theorem qc8 {pl:Str} (h:zC (.str pl)=true):pl≠"":=fun e=>by
 subst e;exact absurd h (by decide +kernel)
theorem qe2 {x:Str} (h:zC (.str x)=true):PyData.strOk x=true:=by
 have hs:x.cps.toList.all sgn=true:=by
   simp only[zC,Bool.and_eq_true]at h;exact h.2
 unfold PyData.strOk;rw[← Array.all_toList];refine List.all_eq_true.mpr fun c m=>?_
 have:=List.all_eq_true.mp hs c m
 unfold sgn at this;rw[Bool.and_eq_true]at this;have h2:=this.2;rw[Bool.not_eq_true',decide_eq_false_iff_not]at h2
 have h3:¬ (122 < c):=fun z=>h2 (by
   show ([122]:List Nat) < [c]
   exact List.Lex.rel z)
 exact decide_eq_true (by omega)
theorem qd1 {K:Frag}{mg:Str->Option Value}{a:Ad} (T:Txt K mg a) {σ:L2.St}{H:Hp}{Q:VK}{te:TE}{x:Addr}{wd nm pl:Str}{lo hi:Int} (hte:∀ R:VK,R (.ref x) H->te σ H R) (en:En a H x wd nm pl lo hi) (sp:Spc wd nm pl lo hi)
   (k:∀ l,H l=none->Q (.ref l) (upd H l (.lst ((pls pl).map V.str)))):zj a.c_Entry "places" qN [] E0 te jD σ H Q∨zj a.c_Within "places" qN [] E0 te jD σ H Q∨zj a.c_At "places" qN [] E0 te jD σ H Q∨zj a.c_Between "places" (qS K) [] E0 te jD σ H Q∨zj a.c_Read "places" (qS K) [] E0 te jD σ H Q:=by
 cases en with
 | @any dx _ hx=>exact .inl (hte _ ⟨x,dx,_,rfl,hx,rfl,_,rfl,fun l fl=>k l fl⟩)
 | @within dx _ _ _ hx=>exact .inr (.inl (hte _ ⟨x,dx,_,rfl,hx,rfl,_,rfl,fun l fl=>k l fl⟩))
 | @at_ dx _ _ hx=>exact .inr (.inr (.inl (hte _ ⟨x,dx,_,rfl,hx,rfl,_,rfl,fun l fl=>k l fl⟩)))
 | @between dx _ _ _ _ hx =>
   have e:pls pl=[pl]:=if_neg (qc8 (by cases sp with|between _ h _ _=>exact h));rw[e]at k;exact .inr (.inr (.inr (.inl (hte _ ⟨x,dx,_,rfl,hx,rfl,x,_,dx,_,_,_,_,rfl,hx,T.cl_Between,T.n_Between_place,fun l fl=>k l fl⟩))))
 | @read dx _ _ _ hx =>
   have e:pls pl=[pl]:=if_neg (qc8 (by cases sp with|read _ h _=>exact h));rw[e]at k;exact .inr (.inr (.inr (.inr (hte _ ⟨x,dx,_,rfl,hx,rfl,x,_,dx,_,_,_,_,rfl,hx,T.cl_Read,T.n_Read_place,fun l fl=>k l fl⟩))))
theorem qkm {K:Frag}{mg:Str->Option Value}{a:Ad} (T:Txt K mg a) {σ:L2.St}{H:Hp}{Q:VK}{te:TE}{x:Addr}{wd nm pl:Str}{lo hi:Int} (hte:∀ R:VK,R (.ref x) H->te σ H R) (en:En a H x wd nm pl lo hi) (k:Q (.str wd) H):zj a.c_Entry "word" Qj [] E0 te jD σ H Q∨zj a.c_Within "word" zZ [] E0 te jD σ H Q∨zj a.c_At "word" ZV [] E0 te jD σ H Q∨zj a.c_Between "word" zO [] E0 te jD σ H Q∨zj a.c_Read "word" Qy [] E0 te jD σ H Q:=by
 cases en with
 | @any dx _ hx=>exact .inl (hte _ ⟨x,dx,_,rfl,hx,rfl,_,rfl,k⟩)
 | @within dx _ _ _ hx=>exact .inr (.inl (hte _ ⟨x,dx,_,rfl,hx,rfl,_,rfl,k⟩))
 | @at_ dx _ _ hx=>exact .inr (.inr (.inl (hte _ ⟨x,dx,_,rfl,hx,rfl,_,rfl,k⟩)))
 | @between dx _ _ _ _ hx=>exact .inr (.inr (.inr (.inl (hte _ ⟨x,dx,_,rfl,hx,rfl,_,rfl,k⟩))))
 | @read dx _ _ _ hx=>exact .inr (.inr (.inr (.inr (hte _ ⟨x,dx,_,rfl,hx,rfl,_,rfl,k⟩))))
theorem qfr {K:Frag}{mg:Str->Option Value}{a:Ad} (T:Txt K mg a) {σ:L2.St}{H:Hp}{Q:VK}{te:TE}{x:Addr}{wd nm pl:Str}{lo hi:Int} (hte:∀ R:VK,R (.ref x) H->te σ H R) (en:En a H x wd nm pl lo hi) {ps:Pls}{W:List (Int×Int)}{ta:TA} (sp:Spc wd nm pl lo hi) (due:Due ps wd pl lo hi W)
   (hta:∀ R:List V->Hp->Prop,(∀ d,((wd="between"∨wd="read")->∃ (tt:Addr) (rows:List (Int×Int)),qeH H d (.str pl) (some (.ref tt))∧Tb a H tt rows∧Good rows∧W=shw rows lo hi)->R [.ref d] H)->ta σ H R)
   (k:∀ (f:Addr) (r:List (Int×Int)) (H':Hp),H f=none->Same H H'->Rs H' f r->zd r->r.length≤21->(∀ n,Mem r n↔Mem W n)->Q (.ref f) H'):zj a.c_Entry "spans" zJ [] E0 te ta σ H Q∨zj a.c_Within "spans" (qQ K) [] E0 te ta σ H Q∨zj a.c_At "spans" (qQ K) [] E0 te ta σ H Q∨zj a.c_Between "spans" (qW a) [] E0 te ta σ H Q∨zj a.c_Read "spans" (qW a) [] E0 te ta σ H Q:=by
 cases en with
 | @any dx _ hx =>
   cases due with
   | pl h _ _=>exact absurd h (by decide)
   | no _ =>
     refine .inl (hte _ ⟨x,dx,_,rfl,hx,rfl,hta _ fun d _=>⟨_,_,rfl,fun f H' ff S' R=>k f _ H' ff S' R ⟨fun w m=>?_,List.pairwise_singleton _ _⟩ (Nat.le_of_ble_eq_true rfl) fun n=>Iff.rfl⟩⟩);rw[List.mem_singleton.mp m];decide
 | @within dx _ _ _ hx =>
   cases due with
   | pl h _ _=>exact absurd h (by decide)
   | no _=>exact .inr (.inl (hte _ ⟨x,dx,_,rfl,hx,rfl,hta _ fun d _=>⟨x,_,dx,_,_,_,_,rfl,hx,T.cl_Within,T.n_Within_low,T.n_Within_high,fun f r H' ff S' R c l m=>k f r H' ff S' R c (Nat.le_trans l (Nat.le_of_ble_eq_true rfl)) m⟩⟩))
 | @at_ dx _ _ hx =>
   cases due with
   | pl h _ _=>exact absurd h (by decide)
   | no _=>exact .inr (.inr (.inl (hte _ ⟨x,dx,_,rfl,hx,rfl,hta _ fun d _=>⟨x,_,dx,_,_,_,_,rfl,hx,T.cl_At,T.n_At_low,T.n_At_high,fun f r H' ff S' R c l m=>k f r H' ff S' R c (Nat.le_trans l (Nat.le_of_ble_eq_true rfl)) m⟩⟩)))
 | @between dx _ _ _ _ hx =>
   refine .inr (.inr (.inr (.inl (hte _ ⟨x,dx,_,rfl,hx,rfl,hta _ fun d h=>?_⟩))));obtain⟨tt,rows,dg,tb,good,eW⟩:=h (.inl rfl)
   cases sp with
   | between _ _ h1 h2=>exact⟨x,_,dx,d,_,_,_,_,tt,rows,rfl,.inl rfl,hx,dg,tb,good,h1,h2,fun f r H' ff S' R c l m=>k f r H' ff S' R c l (by rw[eW];exact m)⟩
 | @read dx _ _ _ hx =>
   refine .inr (.inr (.inr (.inr (hte _ ⟨x,dx,_,rfl,hx,rfl,hta _ fun d h=>?_⟩))));obtain⟨tt,rows,dg,tb,good,eW⟩:=h (.inr rfl)
   cases sp with
   | read _ _ h1=>exact⟨x,_,dx,d,_,_,_,_,tt,rows,rfl,.inr rfl,hx,dg,tb,good,h1,h1,fun f r H' ff S' R c l m=>k f r H' ff S' R c l (by rw[eW];exact m)⟩
theorem qlb {K:Frag}{mg:Str->Option Value}{a:Ad} (T:Txt K mg a) {H:Hp}{x:Addr}{wd nm pl:Str}{lo hi:Int} (en:En a H x wd nm pl lo hi):∃ C dx fs,H x=some (.ins C dx fs)∧Cls K C∧NoAttr K C "name"∧fs.lookup ("name":Str)=some (V.str nm):=by
 cases en with
 | @any dx _ hx=>exact⟨_,dx,_,hx,T.cl_Entry,T.n_Entry_name,rfl⟩
 | @within dx _ _ _ hx=>exact⟨_,dx,_,hx,T.cl_Within,T.n_Within_name,rfl⟩
 | @at_ dx _ _ hx=>exact⟨_,dx,_,hx,T.cl_At,T.n_At_name,rfl⟩
 | @between dx _ _ _ _ hx=>exact⟨_,dx,_,hx,T.cl_Between,T.n_Between_name,rfl⟩
 | @read dx _ _ _ hx=>exact⟨_,dx,_,hx,T.cl_Read,T.n_Read_name,rfl⟩
theorem qbV {K:Frag}{mg:Str->Option Value}{a:Ad} (T:Txt K mg a):kitOne K (.ref a.c_Entry) (.ref a.c_Entry)=some true:=by
 rw[zA T.mr_Entry rfl T.t_Entry];simp
theorem qbU {K:Frag}{mg:Str->Option Value}{a:Ad} (T:Txt K mg a):kitOne K (.ref a.c_Entry) (.ref a.c_Joint)=some false:=by
 rw[zA T.mr_Entry rfl T.t_Joint];simp[qdn T.ndc (i:=5) (j:=0) rfl rfl (by decide)]
theorem qbr {K:Frag}{mg:Str->Option Value}{a:Ad} (T:Txt K mg a):kitOne K (.ref a.c_Within) (.ref a.c_Entry)=some true:=by
 rw[zA T.mr_Within rfl T.t_Entry];simp
theorem qbq {K:Frag}{mg:Str->Option Value}{a:Ad} (T:Txt K mg a):kitOne K (.ref a.c_Within) (.ref a.c_Joint)=some false:=by
 rw[zA T.mr_Within rfl T.t_Joint];simp[qdn T.ndc (i:=5) (j:=1) rfl rfl (by decide),qdn T.ndc (i:=5) (j:=0) rfl rfl (by decide)]
theorem qbS {K:Frag}{mg:Str->Option Value}{a:Ad} (T:Txt K mg a):kitOne K (.ref a.c_Within) (.ref a.c_Read)=some false:=by
 rw[zA T.mr_Within rfl T.t_Read];simp[qdn T.ndc (i:=4) (j:=1) rfl rfl (by decide),qdn T.ndc (i:=4) (j:=0) rfl rfl (by decide)]
theorem qal {K:Frag}{mg:Str->Option Value}{a:Ad} (T:Txt K mg a):kitOne K (.ref a.c_Within) (.ref a.c_Within)=some true:=by
 rw[zA T.mr_Within rfl T.t_Within];simp
theorem qe6 {K:Frag}{mg:Str->Option Value}{a:Ad} (T:Txt K mg a):kitOne K (.ref a.c_At) (.ref a.c_Entry)=some true:=by
 rw[zA T.mr_At rfl T.t_Entry];simp
theorem qe5 {K:Frag}{mg:Str->Option Value}{a:Ad} (T:Txt K mg a):kitOne K (.ref a.c_At) (.ref a.c_Joint)=some false:=by
 rw[zA T.mr_At rfl T.t_Joint];simp[qdn T.ndc (i:=5) (j:=2) rfl rfl (by decide),qdn T.ndc (i:=5) (j:=1) rfl rfl (by decide),qdn T.ndc (i:=5) (j:=0) rfl rfl (by decide)]
theorem qgD {K:Frag}{mg:Str->Option Value}{a:Ad} (T:Txt K mg a):kitOne K (.ref a.c_At) (.ref a.c_Read)=some false:=by
 rw[zA T.mr_At rfl T.t_Read];simp[qdn T.ndc (i:=4) (j:=2) rfl rfl (by decide),qdn T.ndc (i:=4) (j:=1) rfl rfl (by decide),qdn T.ndc (i:=4) (j:=0) rfl rfl (by decide)]
theorem qeo {K:Frag}{mg:Str->Option Value}{a:Ad} (T:Txt K mg a):kitOne K (.ref a.c_At) (.ref a.c_Within)=some true:=by
 rw[zA T.mr_At rfl T.t_Within];simp
theorem qan {K:Frag}{mg:Str->Option Value}{a:Ad} (T:Txt K mg a):kitOne K (.ref a.c_Between) (.ref a.c_Entry)=some true:=by
 rw[zA T.mr_Between rfl T.t_Entry];simp
theorem qam {K:Frag}{mg:Str->Option Value}{a:Ad} (T:Txt K mg a):kitOne K (.ref a.c_Between) (.ref a.c_Joint)=some false:=by
 rw[zA T.mr_Between rfl T.t_Joint];simp[qdn T.ndc (i:=5) (j:=3) rfl rfl (by decide),qdn T.ndc (i:=5) (j:=0) rfl rfl (by decide)]
theorem qdb {K:Frag}{mg:Str->Option Value}{a:Ad} (T:Txt K mg a):kitOne K (.ref a.c_Read) (.ref a.c_Entry)=some true:=by
 rw[zA T.mr_Read rfl T.t_Entry];simp
theorem qda {K:Frag}{mg:Str->Option Value}{a:Ad} (T:Txt K mg a):kitOne K (.ref a.c_Read) (.ref a.c_Joint)=some false:=by
 rw[zA T.mr_Read rfl T.t_Joint];simp[qdn T.ndc (i:=5) (j:=4) rfl rfl (by decide),qdn T.ndc (i:=5) (j:=3) rfl rfl (by decide),qdn T.ndc (i:=5) (j:=0) rfl rfl (by decide)]
theorem qen {K:Frag}{mg:Str->Option Value}{a:Ad} (T:Txt K mg a):kitOne K (.ref a.c_Read) (.ref a.c_Read)=some true:=by
 rw[zA T.mr_Read rfl T.t_Read];simp
theorem qbT {K:Frag}{mg:Str->Option Value}{a:Ad} (T:Txt K mg a):kitOne K (.ref a.c_Joint) (.ref a.c_Entry)=some true:=by
 rw[zA T.mr_Joint rfl T.t_Entry];simp
theorem qbt {K:Frag}{mg:Str->Option Value}{a:Ad} (T:Txt K mg a):kitOne K (.ref a.c_Sifted) (.ref a.c_Entry)=some true:=by
 rw[zA T.mr_Sifted rfl T.t_Entry];simp
theorem qbs {K:Frag}{mg:Str->Option Value}{a:Ad} (T:Txt K mg a):kitOne K (.ref a.c_Sifted) (.ref a.c_Joint)=some false:=by
 rw[zA T.mr_Sifted rfl T.t_Joint];simp[qdn T.ndc (i:=5) (j:=6) rfl rfl (by decide),qdn T.ndc (i:=5) (j:=0) rfl rfl (by decide)]
abbrev EnE (a:Ad) (H:Hp) (e:Ent):Prop:=En a H e.x e.wd e.nm e.pl e.lo e.hi
abbrev SpE (e:Ent):Prop:=Spc e.wd e.nm e.pl e.lo e.hi
inductive Bk where
 | one (e:Ent)
 | sift (nm:Str) (x:Addr) (e:Ent)
inductive Gk where
 | b (k:Bk)
 | jn (nm:Str) (x l:Addr) (ps:List Bk)
def Bk.nm:Bk->Str
 | .one e=>e.nm
 | .sift nm _ _=>nm
def Bk.x:Bk->Addr
 | .one e=>e.x
 | .sift _ x _=>x
def Bk.e:Bk->Ent
 | .one e=>e
 | .sift _ _ e=>e
def Gk.nm:Gk->Str
 | .b k=>k.nm
 | .jn nm _ _ _=>nm
def Gk.x:Gk->Addr
 | .b k=>k.x
 | .jn _ x _ _=>x
abbrev fsS (a:Ad) (nm:Str) (y:Addr):List (Str×V):=[("name",.str nm),("part",.ref y),("keeps",.ref a.f_D)]
abbrev fsJ (nm:Str) (l:Addr):List (Str×V):=[("name",.str nm),("kept_parts",.ref l)]
inductive EnK (a:Ad) (H:Hp):Bk->Prop
 | one {e:Ent}:EnE a H e->EnK a H (.one e)
 | sift {nm:Str}{x dx:Addr}{e:Ent}:H x=some (.ins a.c_Sifted dx (fsS a nm e.x))->EnE a H e->EnK a H (.sift nm x e)
inductive EnG (a:Ad) (H:Hp):Gk->Prop
 | b {k:Bk}:EnK a H k->EnG a H (.b k)
 | jn {nm:Str}{x dx l:Addr}{ps:List Bk}:H x=some (.ins a.c_Joint dx (fsJ nm l))->H l=some (.lst (ps.map fun k=>V.ref k.x))->(∀ k∈ps,EnK a H k)->EnG a H (.jn nm x l ps)
inductive SpK:Bk->Prop
 | one {e:Ent}:SpE e->SpK (.one e)
 | sift {nm:Str}{x:Addr}{e:Ent}:zC (.str nm)=true->SpE e->(e.wd="read"∨((e.wd="within"∨e.wd="at")∧e.hi - e.lo < 60))->SpK (.sift nm x e)
inductive SpG:Gk->Prop
 | b {k:Bk}:SpK k->SpG (.b k)
 | jn {nm:Str}{x l:Addr}{ps:List Bk}:zC (.str nm)=true->0 < ps.length->ps.length≤8->(∀ k∈ps,∃ e,k=.one e)->(∀ k∈ps,SpK k)->SpG (.jn nm x l ps)
def plK (k:Bk):List Str:=pls k.e.pl
def PlG:Gk->Str->Prop
 | .b k,s=>s∈plK k
 | .jn _ _ _ ps,s=>∃ k∈ps,s∈plK k
def ME (ts:Pls) (e:Ent) (n:Int):Prop:=∃ W,Due ts e.wd e.pl e.lo e.hi W∧Mem W n
def MK (ts:Pls):Bk->Int->Prop
 | .one e,n=>ME ts e n
 | .sift _ _ e,n=>ME ts e n∧n % 3≠1
def MG (ts:Pls):Gk->Int->Prop
 | .b k,n=>MK ts k n
 | .jn _ _ _ ps,n=>(0≤n∧n≤1000000000)∧∀ k∈ps,MK ts k n
theorem Tb.sm {a:Ad}{H H':Hp}{x:Addr}{rows:List (Int×Int)} (h:Tb a H x rows) (s:Same H H'):Tb a H' x rows:=by
 obtain⟨k,dx,zs,h1,h2,h3⟩:=h;exact⟨k,dx,zs,s _ _ h1,s _ _ h2,h3.same s⟩
theorem En.mp {a:Ad}{H H':Hp}{x:Addr}{wd nm pl:Str}{lo hi:Int} (h:En a H x wd nm pl lo hi) (k:∀ C d fs,H x=some (.ins C d fs)->fs≠[]->fs.lookup ("bound":Str)=none->H' x=some (.ins C d fs)):En a H' x wd nm pl lo hi:=by
 cases h with
 | any e=>exact .any (k _ _ _ e (by simp) rfl)
 | within e=>exact .within (k _ _ _ e (by simp) rfl)
 | at_ e=>exact .at_ (k _ _ _ e (by simp) rfl)
 | between e=>exact .between (k _ _ _ e (by simp) rfl)
 | read e=>exact .read (k _ _ _ e (by simp) rfl)
theorem EnK.mp {a:Ad}{H H':Hp}{b:Bk} (h:EnK a H b) (k:∀ x C d fs,H x=some (.ins C d fs)->fs≠[]->fs.lookup ("bound":Str)=none->H' x=some (.ins C d fs)):EnK a H' b:=by
 cases h with
 | one h=>exact .one (h.mp (k _))
 | sift e h=>exact .sift (k _ _ _ _ e (by simp) rfl) (h.mp (k _))
theorem En.nw {a:Ad}{H H':Hp}{y C dx x:Addr}{wd nm pl:Str}{lo hi:Int} (h:En a H x wd nm pl lo hi) (hy:H y=some (.ins C dx [])) (b:But y H H'):En a H' x wd nm pl lo hi:=h.mp fun C d fs e ne _=>b _ _ e fun z=>by
 rw[z,hy]at e;cases e;exact ne rfl
theorem EnK.nw {a:Ad}{H H':Hp}{y C dx:Addr}{k:Bk} (h:EnK a H k) (hy:H y=some (.ins C dx [])) (b:But y H H'):EnK a H' k:=h.mp fun x C d fs e ne _=>b _ _ e fun z=>by
 rw[z,hy]at e;cases e;exact ne rfl
structure Tq (a:Ad) (H:Hp) (td:Addr) (ts:Pls):Prop where
 ht:H td=some (.dK (dkv ts))
 tt:∀ t∈ts,Tb a H t.2.1 t.2.2
 tg:∀ t∈ts,Good t.2.2
 nd:(ts.map (·.1)).Nodup
theorem Tq.sm {a:Ad}{H H':Hp}{td:Addr}{ts:Pls} (h:Tq a H td ts) (s:Same H H'):Tq a H' td ts:=⟨s _ _ h.ht,fun t m=>(h.tt t m).sm s,h.tg,h.nd⟩
theorem EnK.sm {a:Ad}{H H':Hp}{k:Bk} (h:EnK a H k) (s:Same H H'):EnK a H' k:=by
 cases h with
 | one h=>exact .one (h.same s)
 | sift e h=>exact .sift (s _ _ e) (h.same s)
theorem EnG.sm {a:Ad}{H H':Hp}{k:Gk} (h:EnG a H k) (s:Same H H'):EnG a H' k:=by
 cases h with
 | b h=>exact .b (h.sm s)
 | jn e1 e2 h=>exact .jn (s _ _ e1) (s _ _ e2) fun k m=>(h k m).sm s
theorem qdh {ts:Pls} (nd:(ts.map (·.1)).Nodup) {wd pl:Str}{lo hi:Int}{W W':List (Int×Int)} (h:Due ts wd pl lo hi W) (h':Due ts wd pl lo hi W'):W=W':=by
 cases h with
 | @pl x hw mx ex =>
   cases h' with
   | @pl y _ my ey =>
     have e:x=y:=by
       obtain⟨i,hi,e1⟩:=List.mem_iff_getElem.mp mx;obtain⟨j,hj,e2⟩:=List.mem_iff_getElem.mp my
       have:i=j:=(List.getElem_inj (h₀:=by rw[List.length_map];exact hi) (h₁:=by rw[List.length_map];exact hj) nd).mp (by rw[List.getElem_map,List.getElem_map,e1,e2,ex,ey])
       subst this;rw[← e1,← e2]
     rw[e]
   | no z=>exact absurd hw (by rcases z with z|z|z<;>rw[z]<;>decide)
 | no hw =>
   cases h' with
   | pl z _ _=>exact absurd z (by rcases hw with z|z|z<;>rw[z]<;>decide)
   | no _=>rfl
theorem qif {ts:Pls}{e:Ent} (sp:SpE e) (h:∀ s∈pls e.pl,s∈ts.map (·.1)):∃ W,Due ts e.wd e.pl e.lo e.hi W:=by
 unfold pls at h;unfold SpE at sp;generalize e.wd=wd at *;generalize e.nm=nm at *;generalize e.pl=pl at *;generalize e.lo=lo at *;generalize e.hi=hi at *
 have go:zC (.str pl)=true->(wd="between"∨wd="read")->∃ W,Due ts wd pl lo hi W:=fun ok hw=>by
   rw[if_neg (qc8 ok)]at h;obtain⟨t,mt,et⟩:=List.mem_map.mp (h pl (List.mem_singleton.mpr rfl));exact⟨_,.pl hw mt et⟩
 cases sp with
 | any _=>exact⟨_,.no (.inl rfl)⟩
 | within _ _ _=>exact⟨_,.no (.inr (.inl rfl))⟩
 | at_ _ _=>exact⟨_,.no (.inr (.inr rfl))⟩
 | between _ ok _ _=>exact go ok (.inl rfl)
 | read _ ok _=>exact go ok (.inr rfl)
theorem qiw:bootBuiltins "sum"=some (.builtin "sum"):=by decide +kernel
inductive qaH (vs:List V) (H:Hp) (Q:VK):Prop
 | mk (n:Int) (h1:vs=[.int n]) (h2:Q (.bl (decide (n % 3≠1))) H):qaH vs H Q
def jX:Sp:=fun vs H Q _=>qaH vs H Q
def qnj (ws:List (Int×Int)):Int:=(ws.map fun w=>w.2 - w.1+1).sum
inductive jL (vs:List V) (H:Hp) (Q:VK):Prop
 | mk (q:Addr) (ws:List (Int×Int)) (h1:vs=[.ref q]) (h2:Rs H q ws) (h3:ws.length≤64) (h4:∀ H',Same H H'->Q (.int (qnj ws)) H'):jL vs H Q
def qax:Sp:=fun vs H Q _=>jL vs H Q
abbrev Q0:Sp:=qaO "joint"
abbrev QE:Sp:=qaO "sifted"
inductive Q7 (a:Ad) (vs:List V) (H:Hp) (Q:VK):Prop
 | mk (q:Addr) (ps:List Bk) (h1:vs=[.ref q]) (h2:H q=some (.lst (ps.map fun k=>V.ref k.x))) (h3:0 < ps.length) (h4:ps.length≤8) (h5:(∀ k∈ps,EnK a H k)) (h6:Q .non H):Q7 a vs H Q
def Z6 (a:Ad):Sp:=fun vs H Q _=>Q7 a vs H Q
inductive Zr (a:Ad) (vs:List V) (H:Hp) (Q:VK):Prop
 | mk (e:Ent) (h1:vs=[.ref e.x]) (h2:EnE a H e) (h3:(e.wd="read"∨((e.wd="within"∨e.wd="at")∧e.hi - e.lo < 1000))) (h4:∀ H',Same H H'->Q .non H'):Zr a vs H Q
def jN (a:Ad):Sp:=fun vs H Q _=>Zr a vs H Q
inductive ZC (a:Ad) (vs:List V) (H:Hp) (Q:VK):Prop
 | mk (x dx q:Addr) (nm:Str) (ps:List Bk) (h1:vs=[.ref x,.str nm,.ref q]) (h2:H x=some (.ins a.c_Joint dx [])) (h3:zC (.str nm)=true) (h4:H q=some (.lst (ps.map fun k=>V.ref k.x))) (h5:0 < ps.length) (h6:ps.length≤8) (h7:(∀ k∈ps,EnK a H k)) (h8:∀ (l:Addr) (H':Hp),H l=none->But x H H'->H' x=some (.ins a.c_Joint dx (fsJ nm l))->H' l=some (.lst (ps.map fun k=>V.ref k.x))->Q .non H'):ZC a vs H Q
def jZ (a:Ad):Sp:=fun vs H Q _=>ZC a vs H Q
inductive Q9 (a:Ad) (vs:List V) (H:Hp) (Q:VK):Prop
 | mk (x dx:Addr) (nm:Str) (e:Ent) (h1:vs=[.ref x,.str nm,.ref e.x,.ref a.f_D]) (h2:H x=some (.ins a.c_Sifted dx [])) (h3:zC (.str nm)=true) (h4:EnE a H e) (h5:(e.wd="read"∨((e.wd="within"∨e.wd="at")∧e.hi - e.lo < 1000))) (h6:∀ H':Hp,But x H H'->H' x=some (.ins a.c_Sifted dx (fsS a nm e.x))->Q .non H'):Q9 a vs H Q
def Z7 (a:Ad):Sp:=fun vs H Q _=>Q9 a vs H Q
inductive QO (a:Ad) (vs:List V) (H:Hp) (Q:VK):Prop
 | mk (x l:Addr) (nm:Str) (ps:List Bk) (h1:vs=[.ref x]) (h2:EnG a H (.jn nm x l ps)) (h3:SpG (.jn nm x l ps)) (h4:∀ (d:Addr) (ss:List Str) (H':Hp),H d=none->Same H H'->H' d=some (.lst (ss.map V.str))->(∀ s∈ss,∃ k∈ps,s∈plK k)->Q (.ref d) H'):QO a vs H Q
def Qp (a:Ad):Sp:=fun vs H Q _=>QO a vs H Q
inductive Zb (a:Ad) (vs:List V) (H:Hp) (Q:VK):Prop
 | mk (x l td:Addr) (nm:Str) (ps:List Bk) (ts:Pls) (h1:vs=[.ref x,.ref td]) (h2:EnG a H (.jn nm x l ps)) (h3:SpG (.jn nm x l ps)) (h4:Tq a H td ts) (h5:(∀ k∈ps,∀ s∈plK k,s∈ts.map (·.1))) (h6:∀ (d:Addr) (r:List (Int×Int)) (H':Hp),H d=none->Same H H'->Rs H' d r->zd r->r.length≤200->(∀ n,Mem r n↔MG ts (.jn nm x l ps) n)->Q (.ref d) H'):Zb a vs H Q
def QF (a:Ad):Sp:=fun vs H Q _=>Zb a vs H Q
inductive Qx (a:Ad) (vs:List V) (H:Hp) (Q:VK):Prop
 | mk (x:Addr) (nm:Str) (e:Ent) (h1:vs=[.ref x]) (h2:EnK a H (.sift nm x e)) (h3:SpK (.sift nm x e)) (h4:∀ d,H d=none->Q (.ref d) (upd H d (.lst ((pls e.pl).map V.str)))):Qx a vs H Q
def Qb (a:Ad):Sp:=fun vs H Q _=>Qx a vs H Q
inductive QL (a:Ad) (vs:List V) (H:Hp) (Q:VK):Prop
 | mk (x td:Addr) (nm:Str) (e:Ent) (ts:Pls) (h1:vs=[.ref x,.ref td]) (h2:EnK a H (.sift nm x e)) (h3:SpK (.sift nm x e)) (h4:Tq a H td ts) (h5:(∀ s∈pls e.pl,s∈ts.map (·.1))) (h6:∀ (d:Addr) (r:List (Int×Int)) (H':Hp),H d=none->Same H H'->Rs H' d r->zd r->r.length≤64->(∀ n,Mem r n↔MK ts (.sift nm x e) n)->Q (.ref d) H'):QL a vs H Q
def Qn (a:Ad):Sp:=fun vs H Q _=>QL a vs H Q
section
variable {P:Program}{w:World}{K:Frag}{mg:Str->Option Value}{base:Heap}
theorem qhI {a:Ad} (T:Txt K mg a):qy P w K mg base CX0 1 a.f_D a.fd_D ["_law_moment_here"] jX:=by
 refine T.d_D.F.ok qhj (fun vs H Q E h=>?_) (fun cdv A outer s H vs Q E hr h=>?_)
 · obtain⟨n,rfl,kk⟩:=h;rfl
 · obtain⟨n,rfl,kk⟩:=h;have hU:=hr.units;refine⟨_,(qf (qu (Q1 (uNe hU) (qB zN (pv 0) qe) qe (qJ _)))),?_⟩;(try dsimp only [ze,Cx.nox]);refine⟨_,rfl,_,_,rfl,rfl,(by show (0:Int) < _;decide),.inl ⟨rfl,?_⟩⟩
   have e:(!decide (V.int (n % 3)=V.int 1))=decide (n % 3≠1):=by
     by_cases h:n % 3=1
     · rw[h];rfl
     · rw[decide_eq_true h,decide_eq_false (fun z=>h (by injection z))];rfl
   rw[e];exact kk
theorem qeY {a:Ad} (T:Txt K mg a):qy P w K mg base CX0 1 a.f_Z a.fd_Z ["spans"] qax:=by
 refine T.d_Z.F.ok qeQ (fun vs H Q E h=>?_) (fun cdv A outer s H vs Q E hr h=>?_)
 · obtain⟨q,ws,rfl,hrs,few,kk⟩:=h;rfl
 · obtain⟨q,ws,rfl,hrs,few,kk⟩:=h;refine⟨_,(qf (qu (qq (r:=qlO K) (qir rfl) (by rfl) T.n_sum qiw (qa (zH rfl (CompOk.def ["low","high"] [none,none]) (qX (pv 0)) (fun _ _ _ _ _=>(show PG _ _ (qjs K 2 _) from (zS rfl (qC (qt (i:=0) (show List.Nodup (["low","high"]:List Str) by decide +kernel) rfl (Or.inl rfl)) (qC (qt (i:=1) (show List.Nodup (["low","high"]:List Str) by decide +kernel) rfl (Or.inl rfl)) zx))))) (fun _ _ _ _ _=>zQ) (fun _ _ _ _ _=>(qB Qh (qB zG (pv 1) (pv 0)) qe))) qb)))),?_⟩;(try dsimp only [ze,Cx.nox]);obtain⟨zs,hq,tp⟩:=id hrs;refine⟨_,rfl,q,rfl,⟨_,SqL.of hq⟩,fun D fD=>?_⟩;refine zh (K:=K) (a:=q) (xs:=zs) (D:=D) (fun i σ H2=>∃ (s0 s1:Option V),σ=[s0,s1]∧Same H H2∧H2 D=some (.lst (((ws.take i).map fun w=>w.2 - w.1+1).map V.int))) ⟨none,none,rfl,Same.new _ fD,qd⟩ (fun i σ H2 _ ⟨_,_,_,S,_⟩=>SqL.of (S _ _ hq)) ?_ ?_
   · rintro i z σ H2 hz ⟨s0,s1,rfl,S,hD⟩;obtain⟨p,t,hp,rfl,ht⟩:=tp.of hz;have li:i < ws.length:=(List.getElem?_eq_some_iff.mp hp).1;refine⟨t,_,rfl,SqT.of (S _ _ ht),rfl,_,_,rfl,_,_,rfl,rfl,?_⟩;refine⟨_,rfl,_,rfl,_,_,rfl,rfl,.inl ⟨_,_,rfl,rfl,_,hD,qw (by rw[List.length_map,List.length_map,List.length_take];omega),_,_,rfl,S.put fD _,?_⟩⟩;rw[qd,List.take_add_one,hp];simp
   · rintro σ H2 ⟨s0,s1,rfl,S,hD⟩;rw[tp.1,List.take_length]at hD;exact⟨D,_,rfl,SqL.of hD,kk H2 S⟩
theorem qc2 {a:Ad} (T:Txt K mg a):qy P w K mg base CX0 1 a.f_T a.fd_T ["self"] Q0:=by
 refine T.d_T.F.ok qcL (fun vs H Q E h=>?_) (fun cdv A outer s H vs Q E hr h=>?_)
 · obtain⟨v,rfl,k⟩:=h;rfl
 · obtain⟨v,rfl,k⟩:=h;refine⟨_,(qf (qu q9)),?_⟩;(try dsimp only [ze,Cx.nox]);exact k
theorem qbO {a:Ad} (T:Txt K mg a):qy P w K mg base CX0 1 a.f_U a.fd_U ["self"] QE:=by
 refine T.d_U.F.ok qbJ (fun vs H Q E h=>?_) (fun cdv A outer s H vs Q E hr h=>?_)
 · obtain⟨v,rfl,k⟩:=h;rfl
 · obtain⟨v,rfl,k⟩:=h;refine⟨_,(qf (qu q9)),?_⟩;(try dsimp only [ze,Cx.nox]);exact k
end
theorem qlc {K:Frag}{mg:Str->Option Value}{a:Ad} (T:Txt K mg a) {H:Hp}{x:Addr}{wd nm pl:Str}{lo hi:Int} (en:En a H x wd nm pl lo hi):∃ C,qdo K H (.ref x) (.ref C)∧kitOne K (.ref C) (.ref a.c_Entry)=some true∧kitOne K (.ref C) (.ref a.c_Joint)=some false:=by
 cases en with
 | @any dx _ hx=>exact⟨_,T.io_Entry.ty hx,qbV T,qbU T⟩
 | @within dx _ _ _ hx=>exact⟨_,T.io_Within.ty hx,qbr T,qbq T⟩
 | @at_ dx _ _ hx=>exact⟨_,T.io_At.ty hx,qe6 T,qe5 T⟩
 | @between dx _ _ _ _ hx=>exact⟨_,T.io_Between.ty hx,qan T,qam T⟩
 | @read dx _ _ _ hx=>exact⟨_,T.io_Read.ty hx,qdb T,qda T⟩
theorem qic {K:Frag}{mg:Str->Option Value}{a:Ad} (T:Txt K mg a) {H:Hp}{k:Bk} (en:EnK a H k):∃ C,qdo K H (.ref k.x) (.ref C)∧kitOne K (.ref C) (.ref a.c_Entry)=some true∧kitOne K (.ref C) (.ref a.c_Joint)=some false:=by
 cases en with
 | one h=>exact qlc T h
 | sift hx h=>exact⟨_,T.io_Sifted.ty hx,qbt T,qbs T⟩
section
variable {P:Program}{w:World}{K:Frag}{mg:Str->Option Value}{base:Heap}
theorem qbM {a:Ad} (T:Txt K mg a):qy P w K mg base CX0 1 a.f_0 a.fd_0 ["parts"] (Z6 a):=by
 refine T.d_0.F.ok sc_check_parts (fun vs H Q E h=>?_) (fun cdv A outer s H vs Q E hr h=>?_)
 · obtain⟨q,ps,rfl,hq,h0,h8,en,kk⟩:=h;rfl
 · obtain⟨q,ps,rfl,hq,h0,h8,en,kk⟩:=h;have hU:=hr.units;obtain⟨t_MOST_PARTS,c_MOST_PARTS⟩:=T.g_MOST_PARTS
   refine⟨_,(qc (qU (PW.pt (Zh (zc (q8 (qq zV (by rfl) T.n_isinstance qv (qa (pv 0) (qa (Qc (v:=.ty "list") rfl T.n_list zf rfl) qb))))) (Zf (qz (uEq hU) (qq qY (by rfl) T.n_len qL (qa (pv 0) qb)) qe (qJ _)))))
       (qf qV)
       qx)
     (qc (qU (qz qhB (qq qY (by rfl) T.n_len qL (qa (pv 0) qb)) (za (v:=.int 8) rfl c_MOST_PARTS ⟨_,rfl⟩) (qJ _))
       (qf qV)
       qx)
     (qf (zw PassesOwn.never rfl (qX (pv 0)) (qt (i:=1) (sc_check_parts.nd) rfl (Or.inl rfl))
       (qf (qU (PW.pt (Zh (zc (q8 (qq (r:=qkB K) Z1 (by rfl) T.n_isinstance qv (qa (pv 1) (qa (za (v:=.ref a.c_Entry) rfl T.g_Entry rfl) qb))))) (Zf (q8 (qq (r:=qkB K) Z1 (by rfl) T.n_isinstance qv (qa (pv 1) (qa (za (v:=.ref a.c_Joint) rfl T.g_Joint rfl) qb)))))))
         (qf qV)
         qx)))))),?_⟩
   try dsimp only [ze,Cx.nox]
   have ty:tyN H (.ref q)=some "list":=by simp only[tyN];rw[hq]
   have lq:(ps.map fun k=>V.ref k.x).length=ps.length:=List.length_map _;refine⟨_,rfl,_,_,_,rfl,(by decide),ty,true,rfl,qG rfl ?_⟩;refine⟨_,rfl,_,_,rfl,.inl ⟨_,SqL.of hq,rfl⟩,.inl ⟨rfl,_,rfl,jE (fun g=>absurd g ?_) (fun _=>?_)⟩⟩
   · intro z;injection z with z;omega
   refine⟨_,rfl,_,_,rfl,.inl ⟨_,SqL.of hq,rfl⟩,_,_,rfl,rfl,_,rfl,jE (fun g=>absurd g (by omega)) (fun _=>?_)⟩;(try unfold qP);(try dsimp only);refine⟨_,rfl,q,rfl,⟨_,SqL.of hq⟩,zl (K:=K) (a:=q) (xs:=ps.map fun k=>V.ref k.x) (fun j σ H'=>∃ s1:Option V,σ=[some (.ref q),s1]∧H'=H) ⟨_,rfl,rfl⟩ (fun j σ H' _ ⟨_,_,h⟩=>h▸SqL.of hq) ?_ ?_⟩
   · rintro j z σ H' hz ⟨s1,rfl,rfl⟩
     obtain⟨k,hk,rfl⟩:∃ k,ps[j]?=some k∧V.ref k.x=z:=by
       rw[List.getElem?_map]at hz;exact Option.map_eq_some_iff.mp hz
     obtain⟨C,c1,c2,c3⟩:=qic T (en k (List.mem_of_getElem? hk));exact⟨_,rfl,_,_,_,_,rfl,c1,c2,true,rfl,qG rfl ⟨_,rfl,_,_,_,_,rfl,c1,c3,false,rfl,qG rfl ⟨_,rfl,rfl⟩⟩⟩
   · rintro σ H' ⟨s1,rfl,rfl⟩;exact kk
theorem qc3 {a:Ad} (T:Txt K mg a):qy P w K mg base CX0 5 a.f_ai a.fd_ai ["self","name","parts"] (jZ a):=by
 have G_f:=zU (P:=P) (w:=w) (base:=base) T;have G_0:=qbM (P:=P) (w:=w) (base:=base) T;refine T.d_ai.F.ok qcM (fun vs H Q E h=>?_) (fun cdv A outer s H vs Q E hr h=>?_)
 · obtain⟨x,dx,q,nm,ps,rfl,hx,ok,hq,h0,h8,en,kk⟩:=h;rfl
 · obtain⟨x,dx,q,nm,ps,rfl,hx,ok,hq,h0,h8,en,kk⟩:=h;have h_f:Room (3+1) _:=hr.mono (by decide);have h_0:Room (1) _:=hr.mono (by decide)
   refine⟨_,(qc (qA (Q2 T.ci_Entry G_f (h_f.mono (by decide)) T.d_f.b rfl T.g_Entry (qa (pv 0) (qa (pv 1) qb))))
     (qc (qA (qp G_0 h_0 rfl T.d_0.m T.d_0.k T.d_0.b .nil qo (qa (pv 2) qb)))
     (qf (z9 (pv 0) (zo (r:=qiU K) zm (by rfl) T.n_list zf (qa (pv 2) qb)) rfl)))),?_⟩
   try dsimp only [ze,Cx.nox]
   refine⟨_,rfl,_,rfl,x,a.c_Joint,dx,nm,rfl,hx,ok,T.cl_Joint,T.n_Joint_name,fun H1 B1 h1=>?_⟩;have hq1:=B1 _ _ hq (zI hq hx (by intro z;cases z));refine⟨_,rfl,q,ps,rfl,hq1,h0,h8,fun k m=>(en k m).nw hx B1,?_⟩;refine⟨_,rfl,q,_,rfl,.inl (SqL.of hq1),fun l fl=>?_⟩;have nl:l≠x:=fun z=>by rw[z,h1]at fl;cases fl
   refine⟨_,rfl,x,_,dx,_,rfl,(by rw[qh nl.symm];exact h1),T.cl_Joint,T.n_Joint_kept_parts,(Nat.le_of_ble_eq_true rfl),?_⟩;exact kk l _ (B1.none fl nl) (fun b o e nb=>by rw[qh nb,qh (qm (B1 b o e nb) fl)];exact B1 b o e nb) (by rw[qd];rfl) (by rw[qh nl,qd])
end
theorem qfp {r:List (Int×Int)}{lo hi:Int} (c:zd r) (l:r.length≤1) (m:∀ n,Mem r n↔Mem [(lo,hi)] n) (h:hi - lo < 1000):qnj r≤1000:=by
 cases r with
 | nil=>decide
 | cons w t =>
   cases t with
   | cons _ _=>simp at l
   | nil =>
     have hw:=c.1 w (List.mem_singleton.mpr rfl);obtain⟨u,mu,a1,a2⟩:=(m w.1).mp ⟨w,List.mem_singleton.mpr rfl,Int.le_refl _,hw⟩;obtain⟨v,mv,b1,b2⟩:=(m w.2).mp ⟨w,List.mem_singleton.mpr rfl,hw,Int.le_refl _⟩;rw[List.mem_singleton.mp mu]at a1;rw[List.mem_singleton.mp mv]at b2;show (w.2 - w.1+1)+0≤1000;have a1':lo≤w.1:=a1;have b2':w.2≤hi:=b2;omega
section
variable {P:Program}{w:World}{K:Frag}{mg:Str->Option Value}{base:Heap}
theorem qcX {a:Ad} (T:Txt K mg a):qy P w K mg base CX0 6 a.f_1 a.fd_1 ["part"] (jN a):=by
 have G_Z:=qeY (P:=P) (w:=w) (base:=base) T;have G_b:=zT (P:=P) (w:=w) (base:=base) T;refine T.d_1.F.ok sc_check_part (fun vs H Q E h=>?_) (fun cdv A outer s H vs Q E hr h=>?_)
 · obtain⟨e,rfl,en,hw,kk⟩:=h;rfl
 · obtain⟨e,rfl,en,hw,kk⟩:=h;have h_Z:Room (1) _:=hr.mono (by decide);have h_b:Room (5) _:=hr.mono (by decide);obtain⟨t_MOST_SIFTED,c_MOST_SIFTED⟩:=T.g_MOST_SIFTED
   refine⟨_,(qc (qU (q8 (qq (r:=qkB K) Z1 (by rfl) T.n_isinstance qv (qa (pv 0) (qa (za (v:=.ref a.c_Read) rfl T.g_Read rfl) qb))))
       (qf qkH)
       qx)
     (qc (qU (zc (q8 (qq (r:=qkB K) Z1 (by rfl) T.n_isinstance qv (qa (pv 0) (qa (za (v:=.ref a.c_Within) rfl T.g_Within rfl) qb)))))
       (qf qV)
       qx)
     (qc (qH (i:=1) sc_check_part.nd rfl (Or.inl rfl) (qp G_Z h_Z rfl T.d_Z.m T.d_Z.k T.d_Z.b .nil qo (qa (PE.or (qF (pv 0) T.cl_Within T.d_b.mt G_b h_b T.d_b.b .nil qo (qa Ja qb)) (qF (pv 0) T.cl_At T.i_At_spans G_b h_b T.d_b.b .nil qo (qa Ja qb))) qb)))
     (qf (qU (qz qhB (pv 1) (za (v:=.int 1000) rfl c_MOST_SIFTED ⟨_,rfl⟩) (qJ _))
       (qf qV)
       qx))))),?_⟩
   try dsimp only [ze,Cx.nox]
   obtain⟨nm,wd,pl,lo,hi,x⟩:=e;dsimp only at en hw ⊢
   cases en with
   | @any dx _ hx=>exact absurd hw (by decide)
   | @within dx _ _ _ hx =>
     have hlt:=(hw.resolve_left (by decide)).2;refine⟨_,rfl,_,_,_,_,rfl,T.io_Within.ty hx,qbS T,false,rfl,qG rfl ?_⟩;refine⟨_,rfl,_,_,_,_,rfl,T.io_Within.ty hx,qal T,true,rfl,qG rfl ?_⟩;(try unfold qP);(try dsimp only);refine .inl ⟨_,rfl,x,dx,_,rfl,hx,rfl,fun d0 fd0=>⟨x,_,dx,_,_,_,_,rfl,(Same.new (.dK []) fd0) _ _ hx,T.cl_Within,T.n_Within_low,T.n_Within_high,fun d r H1 fd S1 R c l m=>⟨d,r,rfl,R,Nat.le_trans l (Nat.le_of_ble_eq_true rfl),fun H2 S2=>?_⟩⟩⟩;have S3:=((Same.new (.dK []) fd0).trans S1).trans S2;refine⟨_,rfl,_,_,rfl,rfl,_,rfl,jE (fun g=>absurd g ?_) (fun _=>kk H2 S3)⟩
     have:=qfp c l m hlt
     omega
   | @at_ dx _ _ hx =>
     have hlt:=(hw.resolve_left (by decide)).2;refine⟨_,rfl,_,_,_,_,rfl,T.io_At.ty hx,qgD T,false,rfl,qG rfl ?_⟩;refine⟨_,rfl,_,_,_,_,rfl,T.io_At.ty hx,qeo T,true,rfl,qG rfl ?_⟩;(try unfold qP);(try dsimp only);refine .inr ⟨_,rfl,x,dx,_,rfl,hx,rfl,fun d0 fd0=>⟨x,_,dx,_,_,_,_,rfl,(Same.new (.dK []) fd0) _ _ hx,T.cl_At,T.n_At_low,T.n_At_high,fun d r H1 fd S1 R c l m=>⟨d,r,rfl,R,Nat.le_trans l (Nat.le_of_ble_eq_true rfl),fun H2 S2=>?_⟩⟩⟩;have S3:=((Same.new (.dK []) fd0).trans S1).trans S2;refine⟨_,rfl,_,_,rfl,rfl,_,rfl,jE (fun g=>absurd g ?_) (fun _=>kk H2 S3)⟩
     have:=qfp c l m hlt
     omega
   | @between dx _ _ _ _ hx=>exact absurd hw (by intro z;rcases z with z|⟨z|z,_⟩<;>exact absurd z (by decide))
   | @read dx _ _ _ hx=>exact⟨_,rfl,_,_,_,_,rfl,T.io_Read.ty hx,qen T,true,rfl,QG rfl (kk H (Same.refl H))⟩
theorem qbP {a:Ad} (T:Txt K mg a):qy P w K mg base CX0 7 a.f_al a.fd_al ["self","name","part","keeps"] (Z7 a):=by
 have G_f:=zU (P:=P) (w:=w) (base:=base) T;have G_1:=qcX (P:=P) (w:=w) (base:=base) T;refine T.d_al.F.ok qbK (fun vs H Q E h=>?_) (fun cdv A outer s H vs Q E hr h=>?_)
 · obtain⟨x,dx,nm,e,rfl,hx,ok,en,hw,kk⟩:=h;rfl
 · obtain⟨x,dx,nm,e,rfl,hx,ok,en,hw,kk⟩:=h;have h_f:Room (3+1) _:=hr.mono (by decide);have h_1:Room (6) _:=hr.mono (by decide)
   refine⟨_,(qc (qA (Q2 T.ci_Entry G_f (h_f.mono (by decide)) T.d_f.b rfl T.g_Entry (qa (pv 0) (qa (pv 1) qb))))
     (qc (qA (qp G_1 h_1 rfl T.d_1.m T.d_1.k T.d_1.b .nil qo (qa (pv 2) qb)))
     (qc (z9 (pv 0) (pv 2) rfl)
     (qf (z9 (pv 0) (pv 3) rfl))))),?_⟩
   try dsimp only [ze,Cx.nox]
   refine⟨_,rfl,_,rfl,x,a.c_Sifted,dx,nm,rfl,hx,ok,T.cl_Sifted,T.n_Sifted_name,fun H1 B1 h1=>?_⟩;refine⟨_,rfl,e,rfl,en.nw hx B1,hw,fun H2 S2=>?_⟩;refine⟨_,rfl,_,rfl,x,_,dx,_,rfl,S2 _ _ h1,T.cl_Sifted,T.n_Sifted_part,(Nat.le_of_ble_eq_true rfl),?_⟩;refine⟨_,rfl,_,rfl,x,_,dx,_,rfl,qd,T.cl_Sifted,T.n_Sifted_keeps,(Nat.le_of_ble_eq_true rfl),?_⟩;exact kk _ (fun b o e nb=>by rw[qh nb,qh nb];exact S2 b o (B1 b o e nb)) (by rw[qd];rfl)
end
theorem qgs {K:Frag}{mg:Str->Option Value}{a:Ad} (T:Txt K mg a) {σ:L2.St}{H:Hp}{Q:VK}{te:TE}{x:Addr}{wd nm pl:Str}{lo hi:Int} (hte:∀ R:VK,R (.ref x) H->te σ H R) (en:En a H x wd nm pl lo hi) (sp:Spc wd nm pl lo hi) (hw:wd="read"∨((wd="within"∨wd="at")∧hi - lo < 60)) (k:∀ l,H l=none->Q (.ref l) (upd H l (.lst ((pls pl).map V.str)))):zj a.c_Within "places" qN [] E0 te jD σ H Q∨zj a.c_At "places" qN [] E0 te jD σ H Q∨zj a.c_Read "places" (qS K) [] E0 te jD σ H Q:=by
 cases en with
 | @any dx _ hx=>exact absurd hw (by intro z;rcases z with z|⟨z|z,_⟩<;>exact absurd z (by decide))
 | @within dx _ _ _ hx=>exact .inl (hte _ ⟨x,dx,_,rfl,hx,rfl,_,rfl,fun l fl=>k l fl⟩)
 | @at_ dx _ _ hx=>exact .inr (.inl (hte _ ⟨x,dx,_,rfl,hx,rfl,_,rfl,fun l fl=>k l fl⟩))
 | @between dx _ _ _ _ hx=>exact absurd hw (by intro z;rcases z with z|⟨z|z,_⟩<;>exact absurd z (by decide))
 | @read dx _ _ _ hx =>
   have e:pls pl=[pl]:=if_neg (qc8 (by cases sp with|read _ h _=>exact h));rw[e]at k;exact .inr (.inr (hte _ ⟨x,dx,_,rfl,hx,rfl,x,_,dx,_,_,_,_,rfl,hx,T.cl_Read,T.n_Read_place,fun l fl=>k l fl⟩))
theorem qha {K:Frag}{mg:Str->Option Value}{a:Ad} (T:Txt K mg a) {σ:L2.St}{H:Hp}{Q:VK}{te:TE}{x:Addr}{wd nm pl:Str}{lo hi:Int} (hte:∀ R:VK,R (.ref x) H->te σ H R) (en:En a H x wd nm pl lo hi) {ps:Pls}{W:List (Int×Int)}{ta:TA} (sp:Spc wd nm pl lo hi) (hw:wd="read"∨((wd="within"∨wd="at")∧hi - lo < 60)) (due:Due ps wd pl lo hi W)
   (hta:∀ R:List V->Hp->Prop,(∀ d,((wd="between"∨wd="read")->∃ (tt:Addr) (rows:List (Int×Int)),qeH H d (.str pl) (some (.ref tt))∧Tb a H tt rows∧Good rows∧W=shw rows lo hi)->R [.ref d] H)->ta σ H R)
   (k:∀ (f:Addr) (r:List (Int×Int)) (H':Hp),H f=none->Same H H'->Rs H' f r->zd r->r.length≤21->(∀ n,Mem r n↔Mem W n)->Q (.ref f) H'):zj a.c_Within "spans" (qQ K) [] E0 te ta σ H Q∨zj a.c_At "spans" (qQ K) [] E0 te ta σ H Q∨zj a.c_Read "spans" (qW a) [] E0 te ta σ H Q:=by
 cases en with
 | @any dx _ hx=>exact absurd hw (by intro z;rcases z with z|⟨z|z,_⟩<;>exact absurd z (by decide))
 | @within dx _ _ _ hx =>
   cases due with
   | pl h _ _=>exact absurd h (by decide)
   | no _=>exact .inl (hte _ ⟨x,dx,_,rfl,hx,rfl,hta _ fun d _=>⟨x,_,dx,_,_,_,_,rfl,hx,T.cl_Within,T.n_Within_low,T.n_Within_high,fun f r H' ff S' R c l m=>k f r H' ff S' R c (Nat.le_trans l (Nat.le_of_ble_eq_true rfl)) m⟩⟩)
 | @at_ dx _ _ hx =>
   cases due with
   | pl h _ _=>exact absurd h (by decide)
   | no _=>exact .inr (.inl (hte _ ⟨x,dx,_,rfl,hx,rfl,hta _ fun d _=>⟨x,_,dx,_,_,_,_,rfl,hx,T.cl_At,T.n_At_low,T.n_At_high,fun f r H' ff S' R c l m=>k f r H' ff S' R c (Nat.le_trans l (Nat.le_of_ble_eq_true rfl)) m⟩⟩))
 | @between dx _ _ _ _ hx=>exact absurd hw (by intro z;rcases z with z|⟨z|z,_⟩<;>exact absurd z (by decide))
 | @read dx _ _ _ hx =>
   refine .inr (.inr (hte _ ⟨x,dx,_,rfl,hx,rfl,hta _ fun d h=>?_⟩));obtain⟨tt,rows,dg,tb,good,eW⟩:=h (.inr rfl)
   cases sp with
   | read _ _ h1=>exact⟨x,_,dx,d,_,_,_,_,tt,rows,rfl,.inr rfl,hx,dg,tb,good,h1,h1,fun f r H' ff S' R c l m=>k f r H' ff S' R c l (by rw[eW];exact m)⟩
theorem qg0 {a:Ad}{H:Hp}{td:Addr}{ts:Pls} (tq:Tq a H td ts) {wd pl:Str}{lo hi:Int}{W:List (Int×Int)} (due:Due ts wd pl lo hi W) (hw:wd="between"∨wd="read"):∃ (tt:Addr) (rows:List (Int×Int)),qeH H td (.str pl) (some (.ref tt))∧Tb a H tt rows∧Good rows∧W=shw rows lo hi:=by
 cases due with
 | @pl x0 _ mx ex =>
   refine⟨x0.2.1,x0.2.2,.inl ⟨_,.inr pl,.inl tq.ht,rfl,?_⟩,tq.tt x0 mx,tq.tg x0 mx,rfl⟩;rw[← ex];exact(qg1 tq.nd x0 mx).symm
 | no h=>exact absurd hw (by rcases h with h|h|h<;>rw[h]<;>decide)
def mo (w:Int×Int):List Int:=(List.range (w.2+1 - w.1).toNat).map fun k:Nat=>w.1+(k:Int)
def mos (r:List (Int×Int)):List Int:=r.flatMap mo
abbrev kpb (n:Int):Bool:=decide (n % 3≠1)
abbrev dup (n:Int):Int×Int:=(n,n)
theorem mem_mo {w:Int×Int}{n:Int}:n∈mo w↔w.1≤n∧n≤w.2:=by
 unfold mo;rw[List.mem_map];constructor
 · rintro⟨k,mk,e⟩
   have:=List.mem_range.mp mk
   omega
 · rintro⟨h1,h2⟩;exact⟨(n - w.1).toNat,List.mem_range.mpr (by omega),by omega⟩
theorem mem_mos {r:List (Int×Int)}{n:Int}:n∈mos r↔Mem r n:=by
 unfold mos;rw[List.mem_flatMap];exact⟨fun⟨w,m,h⟩=>⟨w,m,mem_mo.mp h⟩,fun⟨w,m,h⟩=>⟨w,m,mem_mo.mpr h⟩⟩
theorem qj4:∀ {r:List (Int×Int)},zd r->(mos r).Nodup
 | [],_=>List.nodup_nil
 | w::r,c=>by
   have c':zd r:=⟨fun u m=>c.1 u (List.mem_cons_of_mem _ m),(List.pairwise_cons.mp c.2).2⟩
   unfold mos;rw[List.flatMap_cons];refine List.nodup_append.mpr ⟨?_,qj4 c',fun n h1 m h2 e=>?_⟩
   · unfold mo;refine List.Pairwise.map _ (fun i j h=>?_) (List.nodup_range (n:=(w.2+1 - w.1).toNat));intro z;exact h (by omega)
   · subst e;obtain⟨u,mu,u1,u2⟩:=mem_mos.mp (show n∈mos r from h2)
     have:=(List.pairwise_cons.mp c.2).1 u mu
     have:=(mem_mo.mp h1).2
     omega
theorem qfq:∀ {l m:List Int},l.Nodup->(∀ x∈l,x∈m)->l.length≤m.length
 | [],_,_,_=>Nat.zero_le _
 | x::l,m,nd,h=>by
   rw[List.nodup_cons]at nd;have mx:=h x List.mem_cons_self
   have:=qfq (l:=l) (m:=m.erase x) nd.2 fun y my=>by
     have ne:y≠x:=fun e=>nd.1 (by rw[← e];exact my);exact(List.mem_erase_of_ne ne).mpr (h y (List.mem_cons_of_mem _ my))
   rw[List.length_erase_of_mem mx]at this
   have:=List.length_pos_of_mem mx
   rw[List.length_cons];omega
theorem qgL {r:List (Int×Int)} (c:zd r) (i:Nat):zd (r.take i):=⟨fun w m=>c.1 w (List.mem_of_mem_take m),c.2.sublist (List.take_sublist _ _)⟩
theorem qiP {β:Type}{f:β->List V}{H:Hp}{xs ys:List V}{ps qs:List β} (h:TupL f H xs ps) (g:TupL f H ys qs):TupL f H (xs++ys) (ps++qs):=by
 have hl:=h.1;refine⟨by rw[List.length_append,List.length_append,h.1,g.1],fun j z y e1 e2=>?_⟩;by_cases c:j < xs.length
 · rw[List.getElem?_append_left c]at e1;rw[List.getElem?_append_left (by omega)]at e2;exact h.2 j z y e1 e2
 · rw[List.getElem?_append_right (by omega)]at e1;rw[List.getElem?_append_right (by omega)]at e2;rw[hl]at e1;exact g.2 _ z y e1 e2
theorem qk0 {l:List Int}{n:Int}:Mem (l.map dup) n↔n∈l:=by
 constructor
 · rintro⟨w,m,h1,h2⟩;obtain⟨k,mk,rfl⟩:=List.mem_map.mp m;have h1':k≤n:=h1;have h2':n≤k:=h2;rw[Int.le_antisymm h2' h1'];exact mk
 · intro m;exact⟨dup n,List.mem_map_of_mem m,Int.le_refl _,Int.le_refl _⟩
theorem qfX {r:List (Int×Int)}{i:Nat}{w:Int×Int} (h:r[i]?=some w):mos (r.take (i+1))=mos (r.take i)++mo w:=by
 unfold mos;rw[List.take_add_one,h,List.flatMap_append];simp
theorem qkY {r:List (Int×Int)}{i:Nat}:∀ n∈mos (r.take i),n∈mos r:=fun n m=>by
 obtain⟨w,mw,h⟩:=List.mem_flatMap.mp m;exact List.mem_flatMap.mpr ⟨w,List.mem_of_mem_take mw,h⟩
theorem qjv {ts:Pls} (tg:∀ t∈ts,Good t.2.2) {wd nm pl:Str}{lo hi:Int}{W:List (Int×Int)} (sp:Spc wd nm pl lo hi) (hw:wd="read"∨((wd="within"∨wd="at")∧hi - lo < 60)) (due:Due ts wd pl lo hi W):∃ L:List Int,L.length≤60∧(∀ n∈L,-20000000000≤n∧n≤20000000000)∧∀ n,Mem W n->n∈L:=by
 cases due with
 | @pl x0 hw' mx ex =>
   have hw2:wd="read":=by
     rcases hw with z|⟨z|z,_⟩
     · exact z
     · exact absurd hw' (by rw[z];decide)
     · exact absurd hw' (by rw[z];decide)
   subst hw2
   cases sp with
   | read _ _ hm =>
     have good:=tg x0 mx;refine⟨(pcs x0.2.2).map fun p=>lo - p.2.2,by rw[List.length_map,Ju];exact Nat.le_trans good.few (by decide),fun n m=>?_,fun n h=>?_⟩
     · obtain⟨p,mp',rfl⟩:=List.mem_map.mp m
       have:=(qhy good.ok p mp').2.2
       omega
     · obtain⟨w,mw,h1,h2⟩:=h;obtain⟨p,mp',rfl⟩:=List.mem_map.mp mw;refine List.mem_map.mpr ⟨p,mp',?_⟩;unfold mp at h1 h2;dsimp only at h1 h2;split at h1<;>split at h2<;>omega
 | no hw' =>
   have hlt:hi - lo < 60∧0≤lo∧lo≤1000000000∧0≤hi∧hi≤1000000000:=by
     rcases hw with z|⟨_,z⟩
     · exact absurd hw' (by rw[z];decide)
     · cases sp with
       | any _=>omega
       | within _ h1 h2=>omega
       | at_ _ h1=>omega
       | between _ _ _ _=>exact absurd hw' (by decide)
       | read _ _ _=>exact absurd hw' (by decide)
   refine⟨mo (lo,hi),?_,fun n m=>?_,fun n h=>?_⟩
   · unfold mo;rw[List.length_map,List.length_range];show (hi+1 - lo).toNat≤60;omega
   · have:=mem_mo.mp m
     dsimp only at this;omega
   · obtain⟨w,mw,h⟩:=h;rw[List.mem_singleton.mp mw]at h;exact mem_mo.mpr h
section
variable {P:Program}{w:World}{K:Frag}{mg:Str->Option Value}{base:Heap}
theorem qaj {a:Ad} (T:Txt K mg a):qy P w K mg base CX0 2 a.f_am a.fd_am ["self"] (Qb a):=by
 have G_d:=Qt (P:=P) (w:=w) (base:=base) T;have G_h:=zX (P:=P) (w:=w) (base:=base) T;refine T.d_am.F.ok qae (fun vs H Q E h=>?_) (fun cdv A outer s H vs Q E hr h=>?_)
 · obtain⟨x,nm,e,rfl,enk,spk,kk⟩:=h;rfl
 · obtain⟨x,nm,e,rfl,enk,spk,kk⟩:=h;have h_d:Room (1) _:=hr.mono (by decide);have h_h:Room (1) _:=hr.mono (by decide);refine⟨_,(qf (qu (PE.or (qE (qK (pv 0) rfl) T.cl_Within T.i_Within_places G_d h_d T.d_d.b .nil qo) (PE.or (qE (qK (pv 0) rfl) T.cl_At T.i_At_places G_d h_d T.d_d.b .nil qo) (qE (qK (pv 0) rfl) T.cl_Read T.i_Read_places G_h h_h T.d_h.b .nil qo))))),?_⟩;(try dsimp only [ze,Cx.nox])
   cases enk with
   | @sift _ _ dx _ hx en =>
     cases spk with
     | sift ok sp hw=>exact qgs T (fun R h=>⟨_,rfl,x,_,dx,_,_,rfl,hx,T.cl_Sifted,T.n_Sifted_part,rfl,h⟩) en sp hw kk
theorem qbf {a:Ad} (T:Txt K mg a):qy P w K mg base CX0 7 a.f_an a.fd_an ["self","tables"] (Qn a):=by
 have G_b:=zT (P:=P) (w:=w) (base:=base) T;have G_i:=Qd (P:=P) (w:=w) (base:=base) T;have G_j:=jC (P:=P) (w:=w) (base:=base) T;have G_D:=qhI (P:=P) (w:=w) (base:=base) T;refine T.d_an.F.ok sc_Sifted_spans (fun vs H Q E h=>?_) (fun cdv A outer s H vs Q E hr h=>?_)
 · obtain⟨x,td,nm,e,ts,rfl,enk,spk,tq,hpl,kk⟩:=h;rfl
 · obtain⟨x,td,nm,e,ts,rfl,enk,spk,tq,hpl,kk⟩:=h;have hu:=qI hr;have h_b:Room (5) _:=hr.mono (by decide);have h_i:Room (6) _:=hr.mono (by decide);have h_j:Room (4) _:=hr.mono (by decide);have h_D:Room (1) _:=hr.mono (by decide)
   refine⟨_,(qc (qH (i:=2) sc_Sifted_spans.nd rfl (Or.inr rfl) (qK (pv 0) rfl))
     (qc (qH (i:=3) sc_Sifted_spans.nd rfl (Or.inl rfl) (qM qb))
     (qc (zw PassesOwn.never rfl (qX (PE.or (qF (qK (pv 0) rfl) T.cl_Within T.d_b.mt G_b h_b T.d_b.b .nil qo (qa (pv 1) qb)) (PE.or (qF (qK (pv 0) rfl) T.cl_At T.i_At_spans G_b h_b T.d_b.b .nil qo (qa (pv 1) qb)) (qF (qK (pv 0) rfl) T.cl_Read T.i_Read_spans G_i h_i T.d_i.b .nil qo (qa (pv 1) qb))))) (zS rfl (qC (qt (i:=4) (sc_Sifted_spans.nd) rfl (Or.inl rfl)) (qC (qt (i:=5) (sc_Sifted_spans.nd) rfl (Or.inl rfl)) zx)))
       (qf (qA (Zi PySem.F.plainAttrs_list PySem.F.slot_list_extend PySem.F.type_list_extend qeh (pv 3) (qa (zH rfl (CompOk.def ["moment","keeps"] [none,some 2]) (qd2 rfl T.n_range (qa (pv 4) (qa (qB Qh (pv 5) qe) qb))) (fun _ _ _ _ _=>(qt (i:=0) (show List.Nodup (["moment","keeps"]:List Str) by decide +kernel) rfl (Or.inl rfl))) (fun _ _ _ _ _=>(Js (q8 (qi8 (Ok:=fun f sp=>f=a.f_D∧sp=jX) (pv 1) h_D (fun f sp h=>⟨_,_,by rw[h.1,h.2];exact G_D,by rw[h.1];exact T.d_D.k,T.d_D.b⟩) (qa (pv 0) qb))))) (fun _ _ _ _ _=>(qZ (qa (pv 0) (qa (pv 0) qb))))) qb)))))
     (qf (qu (qp G_j h_j rfl T.d_j.m T.d_j.k T.d_j.b .nil qo (qa (pv 3) qb))))))),?_⟩
   try dsimp only [ze,Cx.nox]
   cases enk with
   | @sift _ _ dx _ hx en =>
   cases spk with
   | sift ok sp hw =>
   obtain⟨W,due⟩:=qif sp hpl;obtain⟨L,l60,lb,lm⟩:=qjv tq.tg sp hw due;refine⟨_,rfl,x,_,dx,_,_,rfl,hx,T.cl_Sifted,T.n_Sifted_keeps,rfl,?_⟩;(try unfold qP);(try dsimp only);refine⟨qj (Nat.le_of_ble_eq_true rfl),fun t ft=>?_⟩;generalize hG:upd H t _=G;obtain⟨S0,e0⟩:=qk hG ft;clear hG;(try unfold qP);(try dsimp only);refine qO (t:=qbG _ _ _) (fun σ' H'=>∃ (s4 s5:Option V) (us:List Int),σ'=[some (.ref x),some (.ref td),some (.ref a.f_D),some (.ref t),s4,s5]∧Same H H'∧Rs H' t (us.map dup)∧us.length≤60∧∀ n,n∈us↔Mem W n∧n % 3≠1) (fun N hN=>?_) ?_
   · refine qha T (fun R h=>⟨_,rfl,x,_,dx,_,_,rfl,(S0 _ _ hx),T.cl_Sifted,T.n_Sifted_part,rfl,h⟩) (en.same S0) sp hw due (fun R hR=>⟨_,rfl,hR td (qg0 (tq.sm S0) due)⟩) fun f r H1 ff S1 ⟨zs,hf,tz⟩ can l21 mem=>?_;have lz:zs.length=r.length:=tz.1;have lenu:∀ i,((mos (r.take i)).filter kpb).length≤60:=fun i=>Nat.le_trans (qfq ((qj4 (qgL can i)).filter _) fun n m=>lm n ((mem n).mp (mem_mos.mp (qkY n (List.mem_filter.mp m).1)))) l60;have nft:f≠t:=fun z=>by rw[z,e0]at ff;cases ff
     have ht1:=S1 _ _ e0;refine⟨f,rfl,⟨_,SqL.of hf⟩,zl (K:=K) (a:=f) (xs:=zs) (D:={ nx:=N,rt:=Q }) (fun j σ H'=>∃ (s4 s5:Option V),σ=[some (.ref x),some (.ref td),some (.ref a.f_D),some (.ref t),s4,s5]∧But t H1 H'∧Rs H' t (((mos (r.take j)).filter kpb).map dup)) ⟨_,_,rfl,But.refl _ _,⟨[],ht1,.nil⟩⟩ (fun j σ H' _ ⟨_,_,_,b,_⟩=>SqL.of (b _ _ hf nft)) ?_ ?_⟩
     · rintro j z σ H2 hz ⟨s4,s5,rfl,B2,⟨zt,ht,tt⟩⟩;obtain⟨w,u,hw',rfl,hu0⟩:=tz.of hz;have hu:=B2 _ _ hu0 (zI hu0 ht1 (by intro z;cases z));have mw:=List.mem_of_getElem? hw';have w12:=can.1 w mw;have b1:=lb w.1 (lm _ ((mem _).mp ⟨w,mw,Int.le_refl _,w12⟩));have b2:=lb w.2 (lm _ ((mem _).mp ⟨w,mw,w12,Int.le_refl _⟩));have lt:=tt.1;rw[List.length_map]at lt;have l0:=lenu j;have l1:=lenu (j+1);rw[qfX hw',List.filter_append,List.length_append]at l1;refine⟨u,_,rfl,SqT.of hu,rfl,_,_,rfl,_,_,rfl,rfl,?_⟩;refine⟨_,rfl,.inl ⟨rfl,_,SqL.of ht⟩,_,rfl,_,rfl,.inl ⟨_,_,rfl,rfl,_,_,rfl,⟨by omega,by omega,by omega,by omega⟩,fun D fD=>?_⟩⟩;have eT:(w.2+1 - w.1).toNat=(w.2+1 - w.1).toNat:=rfl;refine Jx (lo:=w.1) (n:=(w.2+1 - w.1).toNat) (D:=D) (fun i σ H3=>∃ (c0:Option V) (ys:List V),σ=[c0,some (.ref a.f_D)]∧Same H2 H3∧H3 D=some (.lst ys)∧TupL pr H3 ys ((((List.range i).map fun k:Nat=>w.1+(k:Int)).filter kpb).map dup)) ⟨none,[],rfl,Same.new _ fD,qd,.nil⟩ ?_ ?_
       · rintro i σ H3 hi ⟨c0,ys,rfl,S3,hD,ty⟩
         have es:(((List.range (i+1)).map fun k:Nat=>w.1+(k:Int)).filter kpb)=(((List.range i).map fun k:Nat=>w.1+(k:Int)).filter kpb)++(if kpb (w.1+(i:Int))=true then [w.1+(i:Int)] else []):=by
           rw[List.range_succ,List.map_append,List.filter_append];congr 1;show List.filter kpb [w.1+(i:Int)]=_;rw[List.filter_cons];split<;>rfl
         refine⟨_,rfl,a.f_D,jX,rfl,⟨rfl,rfl⟩,_,rfl,w.1+(i:Int),rfl,_,rfl,?_⟩;refine qm2 (fun g=>?_) (fun g=>?_)
         · refine⟨_,rfl,_,rfl,qj (Nat.le_of_ble_eq_true rfl),fun v fv=>⟨ys,(Same.new _ fv) _ _ hD,qw ?_,_,_,rfl,(S3.trans (Same.new _ fv)).put fD _,qd,?_⟩⟩
           · have h1:=ty.1;rw[List.length_map]at h1
             have h2:(((List.range i).map fun k:Nat=>w.1+(k:Int)).filter kpb).length≤((mo w).filter kpb).length:=by
               refine List.Sublist.length_le (List.Sublist.filter _ ?_);unfold mo;exact List.Sublist.map _ (List.range_sublist.mpr (by omega))
             omega
           · rw[es,if_pos g,List.map_append];exact((ty.same (Same.new _ fv)).snoc (p:=dup (w.1+(i:Int))) qd).put ((Same.new _ fv) _ _ hD)
         · refine⟨_,ys,rfl,S3,hD,?_⟩;rw[es,if_neg (by rw[show kpb (w.1+(i:Int))=false from g];decide),List.append_nil];exact ty
       · rintro σ H3 ⟨c0,ys,rfl,S3,hD,ty⟩;have tyw:TupL pr H3 ys (((mo w).filter kpb).map dup):=ty;have ly:=tyw.1;rw[List.length_map]at ly;refine⟨t,D,_,_,rfl,rfl,S3 _ _ ht,hD,Nat.le_of_lt (qw (by omega)),?_⟩;refine⟨_,_,rfl,fun b o e nb=>by rw[qh nb];exact S3 b o (B2 b o e nb),?_⟩;rw[qfX hw',List.filter_append,List.map_append];exact⟨_,qd,TupL.put (qiP (tt.same S3) tyw) (S3 _ _ ht)⟩
     · rintro σ H2 ⟨s4,s5,rfl,B2,R2⟩;rw[lz,List.take_length]at R2;refine hN _ _ ⟨_,_,_,rfl,fun b o e=>B2 b o (S1 b o (S0 b o e)) (qm e ft),R2,by have:=lenu r.length;rw[List.take_length]at this;exact this,fun n=>?_⟩;rw[List.mem_filter,mem_mos,mem];simp
   rintro _ H2 ⟨s4,s5,us,rfl,S2,R2,l2,m2⟩;refine⟨_,rfl,t,us.map dup,rfl,R2,(by rw[List.length_map];omega),fun d r H3 fd S3 R3 c3 l3 m3=>?_⟩;refine kk d r H3 (S2.none fd) (S2.trans S3) R3 c3 (by rw[List.length_map]at l3;omega) fun n=>?_;rw[m3,qk0,m2];exact⟨fun⟨h1,h2⟩=>⟨⟨W,due,h1⟩,h2⟩,fun⟨⟨W',d',h1⟩,h2⟩=>⟨by rw[qdh tq.nd due d'];exact h1,h2⟩⟩
end
theorem qdf {n:Str}{ns:List Str}:inV (.str n) (ns.map V.str)=decide (n∈ns):=by
 unfold inV;rw[List.any_map,Bool.eq_iff_iff,List.any_eq_true,decide_eq_true_iff];constructor
 · rintro⟨y,m,e⟩
   have:y=n:=by simpa[eqV] using e
   exact this▸m
 · intro m;exact⟨n,m,by simp[eqV]⟩
theorem qby (ns:List Str):(ns.map V.str).all qao=true:=by
 rw[List.all_map,List.all_eq_true];intro x _;rfl
theorem jx {α:Type}{p:α->Bool}{l:List α}{i:Nat}{x:α} (h:l[i]?=some x):(l.take (i+1)).filter p=(l.take i).filter p++(if p x=true then [x] else []):=by
 rw[List.take_add_one,h,List.filter_append];congr 1;by_cases c:p x=true
 · simp[c]
 · simp[c]
theorem qkL (pl:Str):(pls pl).length≤1:=by
 unfold pls;split<;>simp
section
variable {P:Program}{w:World}{K:Frag}{mg:Str->Option Value}{base:Heap}
theorem qbk {a:Ad} (T:Txt K mg a):qy P w K mg base CX0 2 a.f_aj a.fd_aj ["self"] (Qp a):=by
 have G_d:=Qt (P:=P) (w:=w) (base:=base) T;have G_h:=zX (P:=P) (w:=w) (base:=base) T;refine T.d_aj.F.ok sc_Joint_places (fun vs H Q E h=>?_) (fun cdv A outer s H vs Q E hr h=>?_)
 · obtain⟨x,l,nm,ps,rfl,en,sp,kk⟩:=h;rfl
 · obtain⟨x,l,nm,ps,rfl,en,sp,kk⟩:=h;have h_d:Room (1) _:=hr.mono (by decide);have h_h:Room (1) _:=hr.mono (by decide)
   refine⟨_,(qc (qH (i:=1) sc_Joint_places.nd rfl (Or.inr rfl) (qM qb))
     (qc (zw PassesOwn.never rfl (qX (qK (pv 0) rfl)) (qt (i:=2) (sc_Joint_places.nd) rfl (Or.inl rfl))
       (qf (qA (Zi PySem.F.plainAttrs_list PySem.F.slot_list_extend PySem.F.type_list_extend qeh (pv 1) (qa (zH rfl (CompOk.def ["place","told"] [none,some 1]) (qX (PE.or (qE (pv 2) T.cl_Entry T.d_d.mt G_d h_d T.d_d.b .nil qo) (PE.or (qE (pv 2) T.cl_Within T.i_Within_places G_d h_d T.d_d.b .nil qo) (PE.or (qE (pv 2) T.cl_At T.i_At_places G_d h_d T.d_d.b .nil qo) (PE.or (qE (pv 2) T.cl_Between T.d_h.mt G_h h_h T.d_h.b .nil qo) (qE (pv 2) T.cl_Read T.i_Read_places G_h h_h T.d_h.b .nil qo)))))) (fun _ _ _ _ _=>(qt (i:=0) (show List.Nodup (["place","told"]:List Str) by decide +kernel) rfl (Or.inl rfl))) (fun _ _ _ _ _=>(Js (qz (r:=rIn K true) J7 (pv 0) (pv 1) (by with_unfolding_all rfl)))) (fun _ _ _ _ _=>(pv 0))) qb)))))
     (qf (qu (pv 1))))),?_⟩
   try dsimp only [ze,Cx.nox]
   cases en with
   | @jn _ _ dx _ _ hx hl enp =>
   cases sp with
   | jn ok h0 h8 one spp =>
   refine⟨qj (Nat.le_of_ble_eq_true rfl),fun t ft=>?_⟩;generalize hG:upd H t _=G;obtain⟨S0,e0⟩:=qk hG ft;clear hG;(try unfold qP);(try dsimp only);refine qO (t:=qbG _ _ _) (fun σ' H'=>∃ (s2:Option V) (ss:List Str),σ'=[some (.ref x),some (.ref t),s2]∧Same H H'∧H' t=some (.lst (ss.map V.str))∧∀ s∈ss,∃ k∈ps,s∈plK k) (fun N hN=>?_) ?_
   · refine⟨_,rfl,x,_,dx,_,_,rfl,(S0 _ _ hx),T.cl_Joint,T.n_Joint_kept_parts,rfl,l,rfl,⟨_,SqL.of (S0 _ _ hl)⟩,zl (K:=K) (a:=l) (xs:=ps.map fun k=>V.ref k.x) (D:={ nx:=N,rt:=Q }) (fun j σ H'=>∃ (s2:Option V) (ss:List Str),σ=[some (.ref x),some (.ref t),s2]∧Same H H'∧H' t=some (.lst (ss.map V.str))∧ss.length≤j∧∀ s∈ss,∃ k∈ps,s∈plK k) ⟨_,[],rfl,S0,e0,Nat.le_refl _,(fun _ m=>nomatch m)⟩ (fun j σ H' _ ⟨_,_,_,S,_⟩=>SqL.of (S _ _ hl)) ?_ ?_⟩
     · rintro j z σ H2 hz ⟨s2,ss,rfl,S2,ht,ls,ms⟩
       obtain⟨k,hk,rfl⟩:∃ k,ps[j]?=some k∧V.ref k.x=z:=by
         rw[List.getElem?_map]at hz;exact Option.map_eq_some_iff.mp hz
       have mk:=List.mem_of_getElem? hk;have hj:j < ps.length:=(List.getElem?_eq_some_iff.mp hk).1;obtain⟨e,rfl⟩:=one k mk;have en1:=(enp _ mk).sm S2;have sp1:=spp _ mk
       cases en1 with
       | one en1 =>
       cases sp1 with
       | one sp1 =>
       refine⟨_,rfl,.inl ⟨rfl,_,SqL.of ht⟩,?_⟩;refine qd1 T (fun R h=>⟨_,rfl,h⟩) en1 sp1 fun l1 fl1=>?_;generalize hG:upd H2 l1 _=G2;obtain⟨S3,e3⟩:=qk hG fl1;clear hG;have lp:=qkL e.pl;refine⟨l1,rfl,⟨_,SqL.of e3⟩,fun D fD=>?_⟩;refine zh (K:=K) (a:=l1) (xs:=(pls e.pl).map V.str) (D:=D) (fun i σ H4=>∃ c0:Option V,σ=[c0,some (.ref t)]∧Same G2 H4∧H4 D=some (.lst ((((pls e.pl).take i).filter fun s=>decide (s∉ss)).map V.str))) ⟨none,rfl,Same.new _ fD,qd⟩ (fun i σ H4 _ ⟨_,_,S4,_⟩=>SqL.of (S4 _ _ e3)) ?_ ?_
       · rintro i y σ H4 hy ⟨c0,rfl,S4,hD⟩
         obtain⟨s,hs,rfl⟩:∃ s,(pls e.pl)[i]?=some s∧V.str s=y:=by
           rw[List.getElem?_map]at hy;exact Option.map_eq_some_iff.mp hy
         have tf:=jx (p:=fun s=>decide (s∉ss)) hs;refine⟨_,rfl,_,rfl,t,_,rfl,.inl (SqL.of (S4 _ _ (S3 _ _ ht))),rfl,qby _,_,rfl,?_⟩;rw[qdf];by_cases c:s∈ss
         · refine qG (by simp[c]) ⟨_,rfl,S4,?_⟩;rw[tf,if_neg (by simpa using c),List.append_nil];exact hD
         · refine QG (by simp[c]) ?_;refine⟨_,rfl,_,hD,qw ?_,_,rfl,S4.put fD _,?_⟩
           · rw[List.length_map];have h1:=List.length_filter_le (fun s=>decide (s∉ss)) ((pls e.pl).take i);rw[List.length_take]at h1;omega
           · rw[qd,tf,if_pos (by simpa using c),List.map_append];rfl
       rintro σ H4 ⟨c0,rfl,S4,hD⟩;rw[List.length_map,List.take_length]at hD;have lf:=List.length_filter_le (fun s=>decide (s∉ss)) (pls e.pl);refine⟨t,D,_,_,rfl,rfl,S4 _ _ (S3 _ _ ht),hD,Nat.le_of_lt (qw (by rw[List.length_map,List.length_map];omega)),?_⟩;refine⟨_,ss++(pls e.pl).filter (fun s=>decide (s∉ss)),rfl,((S2.trans S3).trans S4).put ft _,by rw[qd,List.map_append],by rw[List.length_append];omega,fun s m=>?_⟩;rcases List.mem_append.mp m with m|m
       · exact ms s m
       · exact⟨_,mk,(List.mem_filter.mp m).1⟩
     · rintro σ H2 ⟨s2,ss,rfl,S2,ht,ls,ms⟩;exact hN _ _ ⟨_,ss,rfl,S2,ht,ms⟩
   rintro _ H2 ⟨s2,ss,rfl,S2,ht,ms⟩;exact⟨_,rfl,kk t ss H2 ft S2 ht ms⟩
theorem qbQ {a:Ad} (T:Txt K mg a):qy P w K mg base CX0 7 a.f_ak a.fd_ak ["self","tables"] (QF a):=by
 have G_Y:=qkN (P:=P) (w:=w) (base:=base) T;have G_E:=ju (P:=P) (w:=w) (base:=base) T;have G_b:=zT (P:=P) (w:=w) (base:=base) T;have G_i:=Qd (P:=P) (w:=w) (base:=base) T;refine T.d_ak.F.ok sc_Joint_spans (fun vs H Q E h=>?_) (fun cdv A outer s H vs Q E hr h=>?_)
 · obtain⟨x,l,td,nm,ps,ts,rfl,en,sp,tq,hpl,kk⟩:=h;rfl
 · obtain⟨x,l,td,nm,ps,ts,rfl,en,sp,tq,hpl,kk⟩:=h;have h_Y:Room (1) _:=hr.mono (by decide);have h_E:Room (1) _:=hr.mono (by decide);have h_b:Room (5) _:=hr.mono (by decide);have h_i:Room (6) _:=hr.mono (by decide);obtain⟨t_LAST,c_LAST⟩:=T.g_LAST
   refine⟨_,(qc (qH (i:=2) sc_Joint_spans.nd rfl (Or.inl rfl) (qM (qa (qZ (qa qe (qa (za (v:=.int 1000000000) rfl c_LAST ⟨_,rfl⟩) qb))) qb)))
     (qc (zw PassesOwn.never rfl (qX (qK (pv 0) rfl)) (qt (i:=3) (sc_Joint_spans.nd) rfl (Or.inl rfl))
       (qf (qH (i:=2) sc_Joint_spans.nd rfl (Or.inl rfl) (qp G_Y h_Y rfl T.d_Y.m T.d_Y.k T.d_Y.b .nil qo (qa (pv 2) (qa (PE.or (qF (pv 3) T.cl_Entry T.d_E.mt G_E h_E T.d_E.b .nil qo (qa (pv 1) qb)) (PE.or (qF (pv 3) T.cl_Within T.d_b.mt G_b h_b T.d_b.b .nil qo (qa (pv 1) qb)) (PE.or (qF (pv 3) T.cl_At T.i_At_spans G_b h_b T.d_b.b .nil qo (qa (pv 1) qb)) (PE.or (qF (pv 3) T.cl_Between T.d_i.mt G_i h_i T.d_i.b .nil qo (qa (pv 1) qb)) (qF (pv 3) T.cl_Read T.i_Read_spans G_i h_i T.d_i.b .nil qo (qa (pv 1) qb)))))) qb))))))
     (qf (qu (pv 2))))),?_⟩
   try dsimp only [ze,Cx.nox]
   cases en with
   | @jn _ _ dx _ _ hx hl enp =>
   cases sp with
   | jn ok h0 h8 one spp =>
   refine⟨qj (Nat.le_of_ble_eq_true rfl),fun u fu=>⟨qj (Nat.le_of_ble_eq_true rfl),fun d0 fd0=>?_⟩⟩;have Su:=Same.new (.tup [.int 0,.int 1000000000]) fu;have Sd:=Same.new (.lst [.ref u]) fd0;have R0:=qbc (w:=(0,1000000000)) (Sd _ _ qd) qd;have S0:=Su.trans Sd;have fd:=Su.none fd0;generalize upd (upd H u (.tup [.int 0,.int 1000000000])) d0 (.lst [.ref u])=G at R0 S0 ⊢;clear Su Sd;(try unfold qP);(try dsimp only);refine qO (t:=qbG _ _ _) (fun σ' H'=>∃ (s3:Option V) (d:Addr) (cur:List (Int×Int)),σ'=[some (.ref x),some (.ref td),some (.ref d),s3]∧Same H H'∧H d=none∧Rs H' d cur∧zd cur∧cur.length≤200∧∀ n,Mem cur n↔(0≤n∧n≤1000000000)∧∀ k∈ps,MK ts k n) (fun N hN=>?_) ?_
   · refine⟨_,rfl,x,_,dx,_,_,rfl,(S0 _ _ hx),T.cl_Joint,T.n_Joint_kept_parts,rfl,l,rfl,⟨_,SqL.of (S0 _ _ hl)⟩,zl (K:=K) (a:=l) (xs:=ps.map fun k=>V.ref k.x) (D:={ nx:=N,rt:=Q }) (fun j σ H'=>∃ (s3:Option V) (d:Addr) (cur:List (Int×Int)),σ=[some (.ref x),some (.ref td),some (.ref d),s3]∧Same H H'∧H d=none∧Rs H' d cur∧zd cur∧cur.length≤1+21 * j∧∀ n,Mem cur n↔(0≤n∧n≤1000000000)∧∀ k∈ps.take j,MK ts k n) ⟨_,d0,_,rfl,S0,fd,R0,⟨fun w m=>by rw[List.mem_singleton.mp m];decide,List.pairwise_singleton _ _⟩,Nat.le_refl _,fun n=>?_⟩ (fun j σ H' _ ⟨_,_,_,_,S,_⟩=>SqL.of (S _ _ hl)) ?_ ?_⟩
     · constructor
       · rintro⟨w,m,h⟩;rw[List.mem_singleton.mp m]at h;exact⟨h,fun k m=>nomatch m⟩
       · rintro⟨h,_⟩;exact⟨_,List.mem_singleton.mpr rfl,h⟩
     · rintro j z σ H2 hz ⟨s3,d,cur,rfl,S2,fd,R2,c2,l2,m2⟩
       obtain⟨k,hk,rfl⟩:∃ k,ps[j]?=some k∧V.ref k.x=z:=by
         rw[List.getElem?_map]at hz;exact Option.map_eq_some_iff.mp hz
       have mk:=List.mem_of_getElem? hk;have hj:j < ps.length:=(List.getElem?_eq_some_iff.mp hk).1;obtain⟨e,rfl⟩:=one k mk;have en1:=(enp _ mk).sm S2;have sp1:=spp _ mk;have tq2:=tq.sm S2
       cases en1 with
       | one en1 =>
       cases sp1 with
       | one sp1 =>
       obtain⟨W,due⟩:=qif sp1 (hpl _ mk);refine⟨_,rfl,?_⟩;refine qfr T (fun R h=>⟨_,rfl,h⟩) en1 sp1 due (fun R hR=>⟨_,rfl,hR td (qg0 tq2 due)⟩) fun f r H3 ff S3 R3 c3 l3 m3=>?_;refine⟨d,f,cur,r,rfl,R2.same S3,R3,c2,c3,by omega,fun d' r' H4 fd' S4 R4 c4 l4 m4=>?_⟩;refine⟨_,d',r',rfl,(S2.trans S3).trans S4,(S2.trans S3).none fd',R4,c4,by omega,fun n=>?_⟩;rw[m4,m2,m3,List.take_add_one,hk];constructor
       · rintro⟨⟨h1,h2⟩,h3⟩;refine⟨h1,fun k m=>?_⟩;rcases List.mem_append.mp m with m|m
         · exact h2 k m
         · rw[List.mem_singleton.mp m];exact⟨W,due,h3⟩
       · rintro⟨h1,h2⟩;refine⟨⟨h1,fun k m=>h2 k (List.mem_append_left _ m)⟩,?_⟩;obtain⟨W',d'',h3⟩:=h2 (.one e) (List.mem_append_right _ (List.mem_singleton.mpr rfl));rw[qdh tq.nd due d''];exact h3
     · rintro σ H2 ⟨s3,d,cur,rfl,S2,fd,R2,c2,l2,m2⟩;rw[List.length_map,List.take_length]at m2;rw[List.length_map]at l2;exact hN _ _ ⟨_,d,cur,rfl,S2,fd,R2,c2,by omega,m2⟩
   rintro _ H2 ⟨s3,d,cur,rfl,S2,fd,R2,c2,l2,m2⟩;exact⟨_,rfl,kk d cur H2 fd S2 R2 c2 l2 m2⟩
end
def ekv (es:List Gk):List (Key×V):=es.map fun e=>((.inr e.nm:Key),V.ref e.x)
abbrev prB (b:Str×Str×Int):List V:=[.str b.1,.str b.2.1,.int b.2.2]
abbrev fsL (td ed bl:Addr):List (Str×V):=[("tables",.ref td),("entries",.ref ed),("bound",.ref bl)]
structure Lg (a:Ad) (H:Hp) (x dx td ed bl:Addr) (ts:Pls) (es:List Gk) (bs:List (Str×Str×Int)):Prop where
 hx:H x=some (.ins a.c_Log dx (fsL td ed bl))
 ht:H td=some (.dK (dkv ts))
 he:H ed=some (.dK (ekv es))
 hb:∃ zs,H bl=some (.lst zs)∧TupL prB H zs bs
 tt:∀ t∈ts,Tb a H t.2.1 t.2.2
 tg:∀ t∈ts,Good t.2.2
 tn:∀ t∈ts,zC (.str t.1)=true
 en:∀ e∈es,EnG a H e
 sp:∀ e∈es,SpG e
 pls:∀ e∈es,∀ s,PlG e s->s∈ts.map (·.1)
 ne:td≠ed
 ndt:(ts.map (·.1)).Nodup
 nde:(es.map (·.nm)).Nodup
theorem Lg.sm {a:Ad}{H H':Hp}{x dx td ed bl:Addr}{ts:Pls}{es:List Gk}{bs:List (Str×Str×Int)} (h:Lg a H x dx td ed bl ts es bs) (s:Same H H'):Lg a H' x dx td ed bl ts es bs:=by
 obtain⟨zs,hb,tb⟩:=h.hb;exact⟨s _ _ h.hx,s _ _ h.ht,s _ _ h.he,⟨zs,s _ _ hb,tb.same s⟩,fun t m=>(h.tt t m).sm s,h.tg,h.tn,fun e m=>(h.en e m).sm s,h.sp,h.pls,h.ne,h.ndt,h.nde⟩
theorem qfb:∀ {es:List Gk},(es.map (·.nm)).Nodup->∀ e∈es,qbF (ekv es) (.inr e.nm)=some (V.ref e.x)
 | [],_,x,m=>nomatch m
 | y::ps,nd,x,m=>by
   rw[List.map_cons,List.nodup_cons]at nd;unfold ekv qbF;rw[List.map_cons,List.find?_cons];rcases List.mem_cons.mp m with rfl|m
   · simp
   · have n:¬ ((.inr y.nm:Key)=.inr x.nm):=fun e=>by
       injection e with e;exact nd.1 (e▸List.mem_map_of_mem m)
     rw[show decide (((.inr y.nm:Key),V.ref y.x).1=.inr x.nm)=false by simpa using n];exact qfb nd.2 x m
theorem qgb:∀ {es:List Gk}{pl:Str},pl∉es.map (·.nm)->qbF (ekv es) (.inr pl)=none
 | [],_,_=>rfl
 | y::ps,pl,h=>by
   rw[List.map_cons,List.mem_cons,not_or]at h;unfold ekv qbF;rw[List.map_cons,List.find?_cons];have n:¬ ((.inr y.nm:Key)=.inr pl):=fun e=>by injection e with e;exact h.1 e.symm
   rw[show decide (((.inr y.nm:Key),V.ref y.x).1=.inr pl)=false by simpa using n];exact qgb h.2
theorem Lg.eget {a:Ad}{H:Hp}{x dx td ed bl:Addr}{ts:Pls}{es:List Gk}{bs:List (Str×Str×Int)} (h:Lg a H x dx td ed bl ts es bs) {e:Gk} (m:e∈es):qeH H ed (.str e.nm) (some (.ref e.x)):=.inl ⟨_,.inr e.nm,.inl h.he,rfl,(qfb h.nde e m).symm⟩
theorem Lg.tget {a:Ad}{H:Hp}{x dx td ed bl:Addr}{ts:Pls}{es:List Gk}{bs:List (Str×Str×Int)} (h:Lg a H x dx td ed bl ts es bs) {t:Str×Addr×List (Int×Int)} (m:t∈ts):qeH H td (.str t.1) (some (.ref t.2.1)):=.inl ⟨_,.inr t.1,.inl h.ht,rfl,(qg1 h.ndt t m).symm⟩
inductive jS (a:Ad) (vs:List V) (H:Hp) (Q:VK):Prop
 | mk (x dx:Addr) (h1:vs=[.ref x]) (h2:H x=some (.ins a.c_Log dx [])) (h3:∀ (td ed bl:Addr) (H':Hp),But x H H'->H td=none->H ed=none->H bl=none->Lg a H' x dx td ed bl [] [] []->Q .non H'):jS a vs H Q
def jy (a:Ad):Sp:=fun vs H Q _=>jS a vs H Q
inductive Qg (a:Ad) (vs:List V) (H:Hp) (Q:VK) (E:XK):Prop
 | mk (x dx td ed bl:Addr) (ts:Pls) (es:List Gk) (bs:List (Str×Str×Int)) (v:V) (ty:String) (h1:vs=[.ref x,v]) (h2:Lg a H x dx td ed bl ts es bs) (h3:tyN H v=some ty) (h4:((∃ nm,v=.str nm∧nm∈es.map (·.nm)∧Q .non H)∨((∀ nm,v=.str nm->nm∉es.map (·.nm))∧Rz a.c_NoEntry "found" v H E))):Qg a vs H Q E
def zk (a:Ad):Sp:=fun vs H Q E=>Qg a vs H Q E
inductive jc (a:Ad) (vs:List V) (H:Hp) (Q:VK):Prop
 | mk (x dx td ed bl:Addr) (ts:Pls) (es:List Gk) (bs:List (Str×Str×Int)) (h1:vs=[.ref x]) (h2:Lg a H x dx td ed bl ts es bs) (h3:∀ l,H l=none->Q (.ref l) (upd H l (.lst ((es.map (·.nm)).map V.str)))):jc a vs H Q
def Qz (a:Ad):Sp:=fun vs H Q _=>jc a vs H Q
inductive jd (a:Ad) (vs:List V) (H:Hp) (Q:VK) (E:XK):Prop
 | mk (x dx td ed bl:Addr) (ts:Pls) (es:List Gk) (bs:List (Str×Str×Int)) (nm:Str) (h1:vs=[.ref x,.str nm]) (h2:Lg a H x dx td ed bl ts es bs) (h3:((∃ e,e∈es∧e.nm=nm∧Q (.ref e.x) H)∨(nm∉es.map (·.nm)∧Rz a.c_NoEntry "found" (.str nm) H E))):jd a vs H Q E
def ZA (a:Ad):Sp:=fun vs H Q E=>jd a vs H Q E
inductive jf (a:Ad) (vs:List V) (H:Hp) (Q:VK):Prop
 | mk (x dx td ed bl:Addr) (ts:Pls) (es:List Gk) (bs:List (Str×Str×Int)) (h1:vs=[.ref x]) (h2:Lg a H x dx td ed bl ts es bs) (h3:∀ l zs,H l=none->TupL prB H zs bs->Q (.ref l) (upd H l (.lst zs))):jf a vs H Q
def JH (a:Ad):Sp:=fun vs H Q _=>jf a vs H Q
inductive Zz (a:Ad) (vs:List V) (H:Hp) (Q:VK):Prop
 | mk (x dx td ed bl:Addr) (ts:Pls) (es:List Gk) (bs:List (Str×Str×Int)) (h1:vs=[.ref x]) (h2:Lg a H x dx td ed bl ts es bs) (h3:ts.length≤6) (h4:∀ l ss,H l=none->ss.Perm (ts.map (·.1))->sortedS ss=true->Q (.ref l) (upd H l (.lst (ss.map V.str)))):Zz a vs H Q
def jR (a:Ad):Sp:=fun vs H Q _=>Zz a vs H Q
inductive ja (a:Ad) (vs:List V) (H:Hp) (Q:VK):Prop
 | mk (x dx td ed bl:Addr) (ts:Pls) (es:List Gk) (bs:List (Str×Str×Int)) (t:Str×Addr×List (Int×Int)) (h1:vs=[.ref x,.str t.1]) (h2:Lg a H x dx td ed bl ts es bs) (h3:t∈ts) (h4:Q (.ref t.2.1) H):ja a vs H Q
def JE (a:Ad):Sp:=fun vs H Q _=>ja a vs H Q
theorem Tb.putD {a:Ad}{H:Hp}{x d:Addr}{rows:List (Int×Int)}{kvs:List (Key×V)} (h:Tb a H x rows) (e:H d=some (.dK kvs)) (o:HO):Tb a (upd H d o) x rows:=by
 obtain⟨k,dx,zs,h1,h2,h3⟩:=h;refine⟨k,dx,zs,by rw[qh (zI h1 e (by intro z;cases z))];exact h1,by rw[qh (zI h2 e (by intro z;cases z))];exact h2,h3.1,fun j z y e1 e2=>?_⟩;obtain⟨t,et,ht⟩:=h3.2 j z y e1 e2;exact⟨t,et,by rw[qh (zI ht e (by intro z;cases z))];exact ht⟩
theorem TupL.putD {β:Type}{f:β->List V}{H:Hp}{d:Addr}{kvs:List (Key×V)}{zs:List V}{ps:List β} (h:TupL f H zs ps) (e:H d=some (.dK kvs)) (o:HO):TupL f (upd H d o) zs ps:=⟨h.1,fun j z y e1 e2=>by
 obtain⟨t,et,ht⟩:=h.2 j z y e1 e2
 exact⟨t,et,by rw[qh (zI ht e (by intro z;cases z))];exact ht⟩⟩
theorem qk9 {a:Ad}{H:Hp}{k:Bk} (h:EnK a H k):∃ C d fs,H k.x=some (.ins C d fs)∧fs.lookup ("bound":Str)=none:=by
 cases h with
 | @one e h =>
   show ∃ C d fs,H e.x=some (.ins C d fs)∧_;obtain⟨nm,wd,pl,lo,hi,x⟩:=e;dsimp only at h ⊢
   cases h with
   | any e=>exact⟨_,_,_,e,rfl⟩
   | within e=>exact⟨_,_,_,e,rfl⟩
   | at_ e=>exact⟨_,_,_,e,rfl⟩
   | between e=>exact⟨_,_,_,e,rfl⟩
   | read e=>exact⟨_,_,_,e,rfl⟩
 | sift e _=>exact⟨_,_,_,e,rfl⟩
theorem EnG.kp {a:Ad}{H H':Hp}{g:Gk} (h:EnG a H g) (sp:SpG g) (k1:∀ x C d fs,H x=some (.ins C d fs)->fs≠[]->fs.lookup ("bound":Str)=none->H' x=some (.ins C d fs)) (k2:∀ q t ws C d fs,H q=some (.lst (.ref t::ws))->H t=some (.ins C d fs)->fs.lookup ("bound":Str)=none->H' q=some (.lst (.ref t::ws))):EnG a H' g:=by
 cases h with
 | b h=>exact .b (h.mp k1)
 | @jn nm x dx l ps e1 e2 h =>
   cases sp with
   | jn _ h0 _ _ _ =>
     cases ps with
     | nil=>cases h0
     | cons k r =>
       obtain⟨C,d,fs,e3,n3⟩:=qk9 (h k List.mem_cons_self);exact .jn (k1 _ _ _ _ e1 (by simp) rfl) (k2 _ _ _ _ _ _ e2 e3 n3) fun k m=>(h k m).mp k1
theorem EnG.putD {a:Ad}{H:Hp}{d:Addr}{g:Gk}{kvs:List (Key×V)} (h:EnG a H g) (sp:SpG g) (e:H d=some (.dK kvs)) (o:HO):EnG a (upd H d o) g :=
 h.kp sp (fun x C dx fs e' _ _=>by rw[qh (zI e' e (by intro z;cases z))];exact e') (fun q t ws C dx fs e' _ _=>by rw[qh (zI e' e (by intro z;cases z))];exact e')
theorem EnG.putB {a:Ad}{H:Hp}{bl:Addr}{g:Gk}{zs:List V}{bs:List (Str×Str×Int)} (h:EnG a H g) (sp:SpG g) (e:H bl=some (.lst zs)) (tb:TupL prB H zs bs) (o:HO):EnG a (upd H bl o) g :=
 h.kp sp (fun x C dx fs e' _ _=>by rw[qh (zI e' e (by intro z;cases z))];exact e') (fun q t ws C dx fs e' et _=>by
   have n:q≠bl:=fun z=>by
     rw[z,e]at e';cases e';obtain⟨p,v,hp,ev,hv⟩:=tb.of (i:=0) (z:=.ref t) rfl;cases ev;rw[et]at hv;cases hv
   rw[qh n];exact e')
theorem Lg.tq {a:Ad}{H:Hp}{x dx td ed bl:Addr}{ts:Pls}{es:List Gk}{bs:List (Str×Str×Int)} (h:Lg a H x dx td ed bl ts es bs):Tq a H td ts:=⟨h.ht,h.tt,h.tg,h.ndt⟩
theorem qgi {H:Hp}{td:Addr}{ts:Pls} (h:H td=some (.dK (dkv ts))):Rd H td (.dK ((ts.map fun x=>(x.1,V.ref x.2.1)).map fun p=>((.inr p.1:Key),p.2))):=by
 rw[List.map_map];exact .inl h
section
variable {P:Program}{w:World}{K:Frag}{mg:Str->Option Value}{base:Heap}
theorem qbh {a:Ad} (T:Txt K mg a):qy P w K mg base CX0 1 a.f_H a.fd_H ["self"] (jy a):=by
 refine T.d_H.F.ok qeR (fun vs H Q E h=>?_) (fun cdv A outer s H vs Q E hr h=>?_)
 · obtain⟨x,dx,rfl,hx,kk⟩:=h;rfl
 · obtain⟨x,dx,rfl,hx,kk⟩:=h;have hU:=hr.units
   refine⟨_,(qc (z9 (pv 0) Ja rfl)
     (qc (z9 (pv 0) Ja rfl)
     (qf (z9 (pv 0) (qM qb) rfl)))),?_⟩
   try dsimp only [ze,Cx.nox]
   intro td ftd;have n1:td≠x:=fun e=>by rw[e,hx]at ftd;cases ftd
   refine⟨_,rfl,x,_,dx,_,rfl,(by rw[qh n1.symm];exact hx),T.cl_Log,T.n_Log_tables,(by decide),?_⟩;intro ed fed;have n2:ed≠x:=fun e=>by rw[e,qd]at fed;cases fed
   have n3:ed≠td:=fun e=>by rw[e,qh n1,qd]at fed;cases fed
   rw[qh n2,qh n3]at fed;refine⟨_,rfl,x,_,dx,_,rfl,(by rw[qh n2.symm,qd]),T.cl_Log,T.n_Log_entries,(Nat.le_of_ble_eq_true rfl),?_⟩;refine⟨qj (Nat.le_of_ble_eq_true rfl),fun bl fbl=>?_⟩;have n4:bl≠x:=fun e=>by rw[e,qd]at fbl;cases fbl
   have n5:bl≠ed:=fun e=>by rw[e,qh n2,qd]at fbl;cases fbl
   have n6:bl≠td:=fun e=>by rw[e,qh n1,qh n3.symm,qh n1,qd]at fbl;cases fbl
   rw[qh n4,qh n5,qh n4,qh n6]at fbl;refine⟨_,rfl,x,_,dx,_,rfl,(by rw[qh n4.symm,qd]),T.cl_Log,T.n_Log_bound,(Nat.le_of_ble_eq_true rfl),?_⟩;refine kk td ed bl _ (fun b o e nb=>?_) ftd fed fbl ⟨?_,?_,?_,⟨[],?_,.nil⟩,(fun _ m=>nomatch m),(fun _ m=>nomatch m),(fun _ m=>nomatch m),(fun _ m=>nomatch m),(fun _ m=>nomatch m),(fun _ m=>nomatch m),n3.symm,List.nodup_nil,List.nodup_nil⟩
   · rw[qh nb,qh (qm e fbl),qh nb,qh (qm e fed),qh nb,qh (qm e ftd)];exact e
   · rw[qd];rfl
   · rw[qh n1,qh n6.symm,qh n1,qh n3.symm,qh n1,qd];rfl
   · rw[qh n2,qh n5.symm,qh n2,qd];rfl
   · rw[qh n4,qd]
theorem zD {a:Ad} (T:Txt K mg a):qy P w K mg base (CX1 P w) 5 a.f_g a.fd_g ["self","name"] (zk a):=by
 have G_z:=qd6 (P:=P) (w:=w) (base:=base) T;have G_ay:=qbg (P:=P) (w:=w) (base:=base) T;refine T.d_g.F.okX j0 (fun vs H Q E h=>?_) (fun cdv A outer s H vs Q E hr h=>?_)
 · obtain⟨x,dx,td,ed,bl,ts,es,bs,v,ty,rfl,hL,ht,kk⟩:=h;rfl
 · obtain⟨x,dx,td,ed,bl,ts,es,bs,v,ty,rfl,hL,ht,kk⟩:=h;have h_z:Room (1) _:=hr.mono (by decide);have h_ay:Room (3+1) _:=hr.mono (by decide)
   refine⟨_,(qf (qU (zc (q8 (qp G_z h_z rfl T.d_z.m T.d_z.k T.d_z.b .nil qo (qa (pv 1) (qa (qK (pv 0) rfl) qb)))))
       (qf (qi1 throws_cx rfl (qi5 T.X_NoEntry G_ay h_ay rfl T.g_NoEntry T.d_ay.b (qa (pv 1) qb))))
       qx)),?_⟩
   try dsimp only [ze,Cx.nox]
   rcases kk with ⟨nm,rfl,m,kk⟩|⟨m,kz⟩
   · obtain⟨e,me,rfl⟩:=List.mem_map.mp m;exact⟨_,rfl,_,rfl,x,_,dx,_,_,rfl,hL.hx,T.cl_Log,T.n_Log_entries,rfl,.str e.nm,ed,_,true,rfl,ht,.inl ⟨e.nm,_,rfl,hL.eget me,rfl⟩,true,rfl,qG rfl kk⟩
   · refine⟨_,rfl,_,rfl,x,_,dx,_,_,rfl,hL.hx,T.cl_Log,T.n_Log_entries,rfl,v,ed,_,false,rfl,ht,?_,false,rfl,QG rfl ?_⟩
     · by_cases c:∃ nm,v=.str nm
       · obtain⟨nm,rfl⟩:=c;exact .inl ⟨nm,none,rfl,.inl ⟨_,.inr nm,.inl hL.he,rfl,(qgb (m nm rfl)).symm⟩,rfl⟩
       · exact .inr ⟨fun nm e=>c ⟨nm,e⟩,rfl⟩
     refine⟨_,rfl,Nat.le_of_ble_eq_true rfl,fun ea fea=>⟨ea,_,rfl,qd,fun dx' fdx ne=>?_⟩⟩;rw[qh ne]at fdx;exact⟨rfl,ea,_,_,rfl,T.X_NoEntry.c.xi,(qh (Ne.symm ne)).trans qd,Rz.sure kz fea fdx ne⟩
theorem ZK {a:Ad} (T:Txt K mg a):qy P w K mg base CX0 1 a.f_m a.fd_m ["self"] (Qz a):=by
 refine T.d_m.F.ok qdJ (fun vs H Q E h=>?_) (fun cdv A outer s H vs Q E hr h=>?_)
 · obtain⟨x,dx,td,ed,bl,ts,es,bs,rfl,hL,kk⟩:=h;rfl
 · obtain⟨x,dx,td,ed,bl,ts,es,bs,rfl,hL,kk⟩:=h;refine⟨_,(qf (qu (zo (r:=qjR) (qgP rfl) (by rfl) T.n_list zf (qa (qK (pv 0) rfl) qb)))),?_⟩;(try dsimp only [ze,Cx.nox]);refine⟨_,rfl,x,_,dx,_,_,rfl,hL.hx,T.cl_Log,T.n_Log_entries,rfl,ed,_,rfl,.inl hL.he,fun l fl=>?_⟩
   have e:((ekv es).map fun p=>kV p.1)=(es.map (·.nm)).map V.str:=by
     unfold ekv;rw[List.map_map,List.map_map];rfl
   rw[e];exact kk l fl
theorem qaa {a:Ad} (T:Txt K mg a):qy P w K mg base (CX1 P w) 6 a.f_e a.fd_e ["self","name"] (ZA a):=by
 have G_g:=zD (P:=P) (w:=w) (base:=base) T;refine T.d_e.F.okX qdK (fun vs H Q E h=>?_) (fun cdv A outer s H vs Q E hr h=>?_)
 · obtain⟨x,dx,td,ed,bl,ts,es,bs,nm,rfl,hL,kk⟩:=h;rfl
 · obtain⟨x,dx,td,ed,bl,ts,es,bs,nm,rfl,hL,kk⟩:=h;have hu:=qI hr;have h_g:Room (5) _:=hr.mono (by decide)
   refine⟨_,(qc (qA (qF (pv 0) T.cl_Log T.d_g.mt G_g h_g T.d_g.b .nil throws_cx.passes (qa (pv 1) qb)))
     (qf (qu (qeX hu (qK (pv 0) rfl) (pv 1) (fun _ _=>rfl))))),?_⟩
   try dsimp only [ze,Cx.nox]
   rcases kk with ⟨e,me,rfl,kk⟩|⟨m,kz⟩
   · refine⟨_,rfl,x,dx,_,rfl,hL.hx,rfl,_,rfl,x,dx,td,ed,bl,ts,es,bs,.str e.nm,_,rfl,hL,rfl,.inl ⟨_,rfl,List.mem_map_of_mem me,?_⟩⟩;exact⟨_,rfl,x,_,dx,_,_,rfl,hL.hx,T.cl_Log,T.n_Log_entries,rfl,_,rfl,ed,_,rfl,hL.eget me,kk⟩
   · exact⟨_,rfl,x,dx,_,rfl,hL.hx,rfl,_,rfl,x,dx,td,ed,bl,ts,es,bs,.str nm,_,rfl,hL,rfl,.inr ⟨fun n e=>by cases e;exact m,kz⟩⟩
theorem qed {a:Ad} (T:Txt K mg a):qy P w K mg base CX0 1 a.f_ar a.fd_ar ["self"] (JH a):=by
 refine T.d_ar.F.ok qdM (fun vs H Q E h=>?_) (fun cdv A outer s H vs Q E hr h=>?_)
 · obtain⟨x,dx,td,ed,bl,ts,es,bs,rfl,hL,kk⟩:=h;rfl
 · obtain⟨x,dx,td,ed,bl,ts,es,bs,rfl,hL,kk⟩:=h;refine⟨_,(qf (qu (zo (r:=qiU K) zm (by rfl) T.n_list zf (qa (qK (pv 0) rfl) qb)))),?_⟩;(try dsimp only [ze,Cx.nox]);obtain⟨zs,hb,tbb⟩:=hL.hb;exact⟨_,rfl,x,_,dx,_,_,rfl,hL.hx,T.cl_Log,T.n_Log_bound,rfl,bl,zs,rfl,.inl (SqL.of hb),fun l fl=>kk l zs fl tbb⟩
theorem qc0 {a:Ad} (T:Txt K mg a):qy P w K mg base CX0 1 a.f_as a.fd_as ["self"] (jR a):=by
 refine T.d_as.F.ok qcK (fun vs H Q E h=>?_) (fun cdv A outer s H vs Q E hr h=>?_)
 · obtain⟨x,dx,td,ed,bl,ts,es,bs,rfl,hL,few,kk⟩:=h;rfl
 · obtain⟨x,dx,td,ed,bl,ts,es,bs,rfl,hL,few,kk⟩:=h;refine⟨_,(qf (qu (qq (r:=qjO) (qgO rfl) (by rfl) T.n_sorted ZR (qa (qK (pv 0) rfl) qb)))),?_⟩;(try dsimp only [ze,Cx.nox]);refine⟨_,rfl,x,_,dx,_,_,rfl,hL.hx,T.cl_Log,T.n_Log_tables,rfl,td,_,rfl,qgi hL.ht,(by rw[List.length_map];omega),fun l ss fl pm so=>?_⟩;rw[List.map_map]at pm;exact kk l ss fl pm so
theorem qeb {a:Ad} (T:Txt K mg a):qy P w K mg base CX0 2 a.f_at a.fd_at ["self","place"] (JE a):=by
 have G_z:=qd6 (P:=P) (w:=w) (base:=base) T;refine T.d_at.F.ok qdH (fun vs H Q E h=>?_) (fun cdv A outer s H vs Q E hr h=>?_)
 · obtain⟨x,dx,td,ed,bl,ts,es,bs,t,rfl,hL,mt,kk⟩:=h;rfl
 · obtain⟨x,dx,td,ed,bl,ts,es,bs,t,rfl,hL,mt,kk⟩:=h;have hu:=qI hr;have h_z:Room (1) _:=hr.mono (by decide)
   refine⟨_,(qc (qU (zc (q8 (qp G_z h_z rfl T.d_z.m T.d_z.k T.d_z.b .nil qo (qa (pv 1) (qa (qK (pv 0) rfl) qb)))))
       (qf qV)
       qx)
     (qf (qu (qeX hu (qK (pv 0) rfl) (pv 1) (fun _ _=>rfl))))),?_⟩
   try dsimp only [ze,Cx.nox]
   refine⟨_,rfl,_,rfl,x,_,dx,_,_,rfl,hL.hx,T.cl_Log,T.n_Log_tables,rfl,.str t.1,td,_,true,rfl,rfl,.inl ⟨t.1,_,rfl,hL.tget mt,rfl⟩,true,rfl,qG rfl ?_⟩;exact⟨_,rfl,x,_,dx,_,_,rfl,hL.hx,T.cl_Log,T.n_Log_tables,rfl,_,rfl,td,_,rfl,hL.tget mt,kk⟩
end
def wdG:Gk->Str
 | .b (.one e)=>e.wd
 | .b (.sift _ _ _)=>"sifted"
 | .jn _ _ _ _=>"joint"
theorem qgr {K:Frag}{mg:Str->Option Value}{a:Ad} (T:Txt K mg a) {σ:L2.St}{H:Hp}{Q:VK}{te:TE}{g:Gk} (hte:∀ R:VK,R (.ref g.x) H->te σ H R) (en:EnG a H g) (sp:SpG g) (k:∀ (l:Addr) (ss:List Str) (H':Hp),H l=none->Same H H'->H' l=some (.lst (ss.map V.str))->(∀ s∈ss,PlG g s)->Q (.ref l) H'):zj a.c_Entry "places" qN [] E0 te jD σ H Q∨zj a.c_Within "places" qN [] E0 te jD σ H Q∨zj a.c_At "places" qN [] E0 te jD σ H Q∨zj a.c_Between "places" (qS K) [] E0 te jD σ H Q∨zj a.c_Read "places" (qS K) [] E0 te jD σ H Q∨zj a.c_Joint "places" (Qp a) [] E0 te jD σ H Q∨zj a.c_Sifted "places" (Qb a) [] E0 te jD σ H Q:=by
 cases en with
 | b en =>
   cases sp with
   | b sp =>
   cases en with
   | one en =>
     cases sp with
     | one sp =>
     have:=qd1 (Q:=Q) T hte en sp fun l fl=>k l _ _ fl (Same.new _ fl) qd fun s m=>m
     rcases this with h|h|h|h|h
     · exact .inl h
     · exact .inr (.inl h)
     · exact .inr (.inr (.inl h))
     · exact .inr (.inr (.inr (.inl h)))
     · exact .inr (.inr (.inr (.inr (.inl h))))
   | @sift nm x dx e hx en =>
     exact .inr (.inr (.inr (.inr (.inr (.inr (hte _ ⟨x,dx,_,rfl,hx,rfl,x,nm,e,rfl,.sift hx en,sp,fun d fd=>k d _ _ fd (Same.new _ fd) qd fun s m=>m⟩))))))
 | @jn nm x dx l ps hx hl enp =>
   exact .inr (.inr (.inr (.inr (.inr (.inl (hte _ ⟨x,dx,_,rfl,hx,rfl,x,l,nm,ps,rfl,.jn hx hl enp,sp,fun d ss H' fd S hd ms=>k d ss H' fd S hd ms⟩))))))
theorem qfk {K:Frag}{mg:Str->Option Value}{a:Ad} (T:Txt K mg a) {σ:L2.St}{H:Hp}{Q:VK}{te:TE}{g:Gk} (hte:∀ R:VK,R (.ref g.x) H->te σ H R) (en:EnG a H g) (k:Q (.str (wdG g)) H):zj a.c_Entry "word" Qj [] E0 te jD σ H Q∨zj a.c_Within "word" zZ [] E0 te jD σ H Q∨zj a.c_At "word" ZV [] E0 te jD σ H Q∨zj a.c_Between "word" zO [] E0 te jD σ H Q∨zj a.c_Read "word" Qy [] E0 te jD σ H Q∨zj a.c_Joint "word" Q0 [] E0 te jD σ H Q∨zj a.c_Sifted "word" QE [] E0 te jD σ H Q:=by
 cases en with
 | b en =>
   cases en with
   | one en =>
     have:=qkm (Q:=Q) T hte en k
     rcases this with h|h|h|h|h
     · exact .inl h
     · exact .inr (.inl h)
     · exact .inr (.inr (.inl h))
     · exact .inr (.inr (.inr (.inl h)))
     · exact .inr (.inr (.inr (.inr (.inl h))))
   | @sift nm x dx e hx en=>exact .inr (.inr (.inr (.inr (.inr (.inr (hte _ ⟨x,dx,_,rfl,hx,rfl,_,rfl,k⟩))))))
 | @jn nm x dx l ps hx hl enp=>exact .inr (.inr (.inr (.inr (.inr (.inl (hte _ ⟨x,dx,_,rfl,hx,rfl,_,rfl,k⟩))))))
theorem qg9 {K:Frag}{mg:Str->Option Value}{a:Ad} (T:Txt K mg a) {σ:L2.St}{H:Hp}{Q:VK}{te:TE}{g:Gk} (hte:∀ R:VK,R (.ref g.x) H->te σ H R) (en:EnG a H g) {td:Addr}{ts:Pls}{ta:TA} (sp:SpG g) (tq:Tq a H td ts) (hpl:∀ s,PlG g s->s∈ts.map (·.1)) (hta:∀ R:List V->Hp->Prop,R [.ref td] H->ta σ H R)
   (k:∀ (f:Addr) (r:List (Int×Int)) (H':Hp),H f=none->Same H H'->Rs H' f r->zd r->r.length≤200->(∀ n,Mem r n↔MG ts g n)->Q (.ref f) H'):zj a.c_Entry "spans" zJ [] E0 te ta σ H Q∨zj a.c_Within "spans" (qQ K) [] E0 te ta σ H Q∨zj a.c_At "spans" (qQ K) [] E0 te ta σ H Q∨zj a.c_Between "spans" (qW a) [] E0 te ta σ H Q∨zj a.c_Read "spans" (qW a) [] E0 te ta σ H Q∨zj a.c_Joint "spans" (QF a) [] E0 te ta σ H Q∨zj a.c_Sifted "spans" (Qn a) [] E0 te ta σ H Q:=by
 cases en with
 | b en =>
   cases sp with
   | b sp =>
   cases en with
   | one en =>
     cases sp with
     | one sp =>
     obtain⟨W,due⟩:=qif sp hpl
     have:=qfr (Q:=Q) (ta:=ta) T hte en sp due (fun R hR=>hta _ (hR td (qg0 tq due))) fun f r H' ff S R c l m=>k f r H' ff S R c (Nat.le_trans l (by decide)) fun n=>by
       rw[m];exact⟨fun h=>⟨W,due,h⟩,fun⟨W',d',h⟩=>by rw[qdh tq.nd due d'];exact h⟩
     rcases this with h|h|h|h|h
     · exact .inl h
     · exact .inr (.inl h)
     · exact .inr (.inr (.inl h))
     · exact .inr (.inr (.inr (.inl h)))
     · exact .inr (.inr (.inr (.inr (.inl h))))
   | @sift nm x dx e hx en =>
     exact .inr (.inr (.inr (.inr (.inr (.inr (hte _ ⟨x,dx,_,rfl,hx,rfl,hta _ ⟨x,td,nm,e,ts,rfl,.sift hx en,sp,tq,hpl,fun d r H' fd S R c l m=>k d r H' fd S R c (Nat.le_trans l (by decide)) m⟩⟩))))))
 | @jn nm x dx l ps hx hl enp =>
   exact .inr (.inr (.inr (.inr (.inr (.inl (hte _ ⟨x,dx,_,rfl,hx,rfl,hta _ ⟨x,l,td,nm,ps,ts,rfl,.jn hx hl enp,sp,tq,(fun k' m s ms=>hpl s ⟨k',m,ms⟩),fun d r H' fd S R c l m=>k d r H' fd S R c l m⟩⟩))))))
theorem qla {K:Frag}{mg:Str->Option Value}{a:Ad} (T:Txt K mg a) {H:Hp}{g:Gk} (en:EnG a H g):∃ C,qdo K H (.ref g.x) (.ref C)∧kitOne K (.ref C) (.ref a.c_Entry)=some true:=by
 cases en with
 | b en =>
   obtain⟨C,h1,h2,_⟩:=qic T en;exact⟨C,h1,h2⟩
 | jn hx _ _=>exact⟨_,T.io_Joint.ty hx,qbT T⟩
theorem qf9 {K:Frag}{mg:Str->Option Value}{a:Ad} (T:Txt K mg a) {H:Hp}{g:Gk} (en:EnG a H g):∃ C dx fs,H g.x=some (.ins C dx fs)∧Cls K C∧NoAttr K C "name"∧fs.lookup ("name":Str)=some (V.str g.nm):=by
 cases en with
 | b en =>
   cases en with
   | one en=>exact qlb T en
   | sift hx en=>exact⟨_,_,_,hx,T.cl_Sifted,T.n_Sifted_name,rfl⟩
 | jn hx _ _=>exact⟨_,_,_,hx,T.cl_Joint,T.n_Joint_name,rfl⟩
theorem qlY {H:Hp}{C:Addr}{cs ws:List V}{qs:List (Str×Str×Int)}{rows:List (Int×Int)} (h1:H C=some (.lst cs)) (t1:TupL prB H cs qs) (g:0 < rows.length) (t2:TupL pr H ws rows):H C≠some (.lst ws):=fun e=>by
 rw[h1]at e;cases e
 cases rows with
 | nil=>cases g
 | cons r rs =>
   obtain⟨t,hz,ht⟩:=t2.at_ (i:=0) (p:=r) rfl;obtain⟨q,u,hq,eu,hu⟩:=t1.of hz;cases eu;rw[ht]at hu;cases hu
theorem Tb.putB {a:Ad}{H:Hp}{x bl:Addr}{rows:List (Int×Int)}{zs:List V}{bs:List (Str×Str×Int)} (h:Tb a H x rows) (g:Good rows) (e:H bl=some (.lst zs)) (tb:TupL prB H zs bs) (o:HO):Tb a (upd H bl o) x rows:=by
 obtain⟨k,dx,ws,h1,h2,h3⟩:=h;have nk:k≠bl:=fun z=>qlY e tb (Jf g) h3 (by rw[← z];exact h2);refine⟨k,dx,ws,by rw[qh (zI h1 e (by intro z;cases z))];exact h1,by rw[qh nk];exact h2,h3.1,fun j z y e1 e2=>?_⟩;obtain⟨t,et,ht⟩:=h3.2 j z y e1 e2;exact⟨t,et,by rw[qh (zI ht e (by intro z;cases z))];exact ht⟩
inductive JG (a:Ad) (vs:List V) (H:Hp) (Q:VK):Prop
 | mk (x dx td ed bl:Addr) (ts:Pls) (es:List Gk) (bs:List (Str×Str×Int)) (e:Gk) (h1:vs=[.ref x,.ref e.x]) (h2:Lg a H x dx td ed bl ts es bs) (h3:EnG a H e) (h4:SpG e) (h5:e.nm∉es.map (·.nm)) (h6:(∀ s,PlG e s->s∈ts.map (·.1))) (h7:es.length < 60) (h8:∀ H',But ed H H'->Lg a H' x dx td ed bl ts (es++[e]) bs->Q .non H'):JG a vs H Q
def Jo (a:Ad):Sp:=fun vs H Q _=>JG a vs H Q
inductive jV (a:Ad) (vs:List V) (H:Hp) (Q:VK) (E:XK):Prop
 | mk (x dx td ed bl:Addr) (ts:Pls) (es:List Gk) (bs:List (Str×Str×Int)) (n1 n2:Str) (m:Int) (h1:vs=[.ref x,.str n1,.str n2,.int m]) (h2:Lg a H x dx td ed bl ts es bs) (h3:((n1∈es.map (·.nm)∧n2∈es.map (·.nm)∧-2000000000≤m∧m≤2000000001∧bs.length < 100∧∀ H',But bl H H'->Lg a H' x dx td ed bl ts es (bs++[(n1,n2,m)])->Q (.int (bs.length:Int)) H')∨(n1∉es.map (·.nm)∧Rz a.c_NoEntry "found" (.str n1) H E))):jV a vs H Q E
def jA (a:Ad):Sp:=fun vs H Q E=>jV a vs H Q E
inductive jb (a:Ad) (vs:List V) (H:Hp) (Q:VK) (E:XK):Prop
 | mk (x dx td ed bl:Addr) (ts:Pls) (es:List Gk) (bs:List (Str×Str×Int)) (nm:Str) (h1:vs=[.ref x,.str nm]) (h2:Lg a H x dx td ed bl ts es bs) (h3:((∃ e:Gk,e∈es∧e.nm=nm∧∀ (f:Addr) (r:List (Int×Int)) (H':Hp),H f=none->Same H H'->Rs H' f r->zd r->r.length≤200->(∀ n,Mem r n↔MG ts e n)->Q (.ref f) H')∨(nm∉es.map (·.nm)∧Rz a.c_NoEntry "found" (.str nm) H E))):jb a vs H Q E
def JF (a:Ad):Sp:=fun vs H Q E=>jb a vs H Q E
section
variable {P:Program}{w:World}{K:Frag}{mg:Str->Option Value}{base:Heap}
theorem qck {a:Ad} (T:Txt K mg a):qy P w K mg base CX0 3 a.f_F a.fd_F ["self","entry"] (Jo a):=by
 have G_d:=Qt (P:=P) (w:=w) (base:=base) T;have G_h:=zX (P:=P) (w:=w) (base:=base) T;have G_aj:=qbk (P:=P) (w:=w) (base:=base) T;have G_am:=qaj (P:=P) (w:=w) (base:=base) T;refine T.d_F.F.ok sc_Log_put (fun vs H Q E h=>?_) (fun cdv A outer s H vs Q E hr h=>?_)
 · obtain⟨x,dx,td,ed,bl,ts,es,bs,e,rfl,hL,en,sp,no,hpl,few,kk⟩:=h;rfl
 · obtain⟨x,dx,td,ed,bl,ts,es,bs,e,rfl,hL,en,sp,no,hpl,few,kk⟩:=h;have hu:=qI hr;have h_d:Room (1) _:=hr.mono (by decide);have h_h:Room (1) _:=hr.mono (by decide);have h_aj:Room (2) _:=hr.mono (by decide);have h_am:Room (2) _:=hr.mono (by decide);obtain⟨t_MOST_ENTRIES,c_MOST_ENTRIES⟩:=T.g_MOST_ENTRIES
   refine⟨_,(qc (qU (zc (q8 (qq (r:=qkB K) Z1 (by rfl) T.n_isinstance qv (qa (pv 1) (qa (za (v:=.ref a.c_Entry) rfl T.g_Entry rfl) qb)))))
       (qf qV)
       qx)
     (qc (qU (qz (qj0 hu) (qK (pv 1) rfl) (qK (pv 0) rfl) (by with_unfolding_all rfl))
       (qf qV)
       qx)
     (qc (zw PassesOwn.never rfl (qX (PE.or (qE (pv 1) T.cl_Entry T.d_d.mt G_d h_d T.d_d.b .nil qo) (PE.or (qE (pv 1) T.cl_Within T.i_Within_places G_d h_d T.d_d.b .nil qo) (PE.or (qE (pv 1) T.cl_At T.i_At_places G_d h_d T.d_d.b .nil qo) (PE.or (qE (pv 1) T.cl_Between T.d_h.mt G_h h_h T.d_h.b .nil qo) (PE.or (qE (pv 1) T.cl_Read T.i_Read_places G_h h_h T.d_h.b .nil qo) (PE.or (qE (pv 1) T.cl_Joint T.d_aj.mt G_aj h_aj T.d_aj.b .nil qo) (qE (pv 1) T.cl_Sifted T.d_am.mt G_am h_am T.d_am.b .nil qo)))))))) (qt (i:=2) (sc_Log_put.nd) rfl (Or.inl rfl))
       (qf (qU (qz (qba hu) (pv 2) (qK (pv 0) rfl) (by with_unfolding_all rfl))
         (qf qV)
         qx)))
     (qc (qU (qz qi9 (qq qey (by rfl) T.n_len qL (qa (qK (pv 0) rfl) qb)) (za (v:=.int 60) rfl c_MOST_ENTRIES ⟨_,rfl⟩) (qJ _))
       (qf qV)
       qx)
     (qf (qhs hu (qK (pv 0) rfl) (qK (pv 1) rfl) (pv 1) rfl)))))),?_⟩
   try dsimp only [ze,Cx.nox]
   obtain⟨C,ty,hk⟩:=qla T en;refine⟨_,rfl,_,_,_,_,rfl,ty,hk,true,rfl,qG rfl ?_⟩;obtain⟨Ce,de,fe,he,cle,nae,lke⟩:=qf9 T en;have dg:qeH H ed (.str e.nm) none:=.inl ⟨_,.inr e.nm,.inl hL.he,rfl,(qgb no).symm⟩;refine⟨_,rfl,e.x,Ce,de,fe,_,rfl,he,cle,nae,lke,_,rfl,x,_,dx,_,_,rfl,hL.hx,T.cl_Log,T.n_Log_entries,rfl,ed,_,rfl,dg,_,rfl,qG rfl ?_⟩;(try unfold qP);(try dsimp only);refine qO (t:=qbG _ _ _) (fun σ' H'=>∃ s2:Option V,σ'=[some (.ref x),some (.ref e.x),s2]∧Same H H') (fun N hN=>?_) ?_
   · refine qgr T (fun R h=>⟨_,rfl,h⟩) en sp fun l ss G fl SG eG ms=>?_;refine⟨l,rfl,⟨_,SqL.of eG⟩,zl (D:={ nx:=N,rt:=Q }) (K:=K) (a:=l) (xs:=ss.map V.str) (fun j σ H'=>∃ s2:Option V,σ=[some (.ref x),some (.ref e.x),s2]∧H'=G) ⟨_,rfl,rfl⟩ (fun j σ H' _ ⟨_,_,h⟩=>h▸SqL.of eG) ?_ ?_⟩
     · rintro j z σ H' hz ⟨s2,rfl,rfl⟩
       obtain⟨y,hy,rfl⟩:∃ y,ss[j]?=some y∧V.str y=z:=by
         rw[List.getElem?_map]at hz;exact Option.map_eq_some_iff.mp hz
       obtain⟨t,mt,et⟩:=List.mem_map.mp (hpl y (ms y (List.mem_of_getElem? hy)));have dgt:=(hL.sm SG).tget mt;rw[et]at dgt;exact⟨_,rfl,_,rfl,x,_,dx,_,_,rfl,(hL.sm SG).hx,T.cl_Log,T.n_Log_tables,rfl,td,_,rfl,dgt,_,rfl,qG rfl ⟨_,rfl,rfl⟩⟩
     · rintro σ H' ⟨s2,rfl,rfl⟩;exact hN _ _ ⟨s2,rfl,SG⟩
   rintro _ H1 ⟨s2,rfl,S1⟩;have hL1:=hL.sm S1;refine⟨_,rfl,x,_,dx,_,_,rfl,hL1.hx,T.cl_Log,T.n_Log_entries,rfl,ed,_,rfl,hL1.he,_,_,rfl,rfl,_,rfl,jE (fun g=>absurd g ?_) (fun _=>?_)⟩
   · unfold ekv;rw[List.length_map];omega
   have ep:qd0 (ekv es) (.inr e.nm) (V.ref e.x)=ekv (es++[e]):=by
     rw[qiX _ (qgb no)];unfold ekv;rw[List.map_append];rfl
   refine⟨_,rfl,_,rfl,x,_,dx,_,_,rfl,hL1.hx,T.cl_Log,T.n_Log_entries,rfl,_,rfl,e.x,Ce,de,fe,_,rfl,S1 _ _ he,cle,nae,lke,ed,_,rfl,DPut.k (k:=.inr e.nm) hL1.he (by unfold ekv;rw[List.length_map];exact Nat.lt_of_lt_of_le (by omega:es.length < 100) (qj (by decide:100≤1000))),?_⟩;rw[ep];obtain⟨zs,hb,tbb⟩:=hL1.hb;refine kk _ (fun b o e nb=>by rw[qh nb];exact S1 b o e) ⟨by rw[qh (zI hL1.hx hL1.he (by intro z;cases z))];exact hL1.hx,by rw[qh hL1.ne];exact hL1.ht,qd,⟨zs,by rw[qh (zI hb hL1.he (by intro z;cases z))];exact hb,TupL.putD tbb hL1.he _⟩,fun y m=>(hL1.tt y m).putD hL1.he _,hL1.tg,hL1.tn,fun y m=>?_,fun y m=>?_,fun y m=>?_,hL1.ne,hL1.ndt,?_⟩
   · rcases List.mem_append.mp m with m|m
     · exact(hL1.en y m).putD (hL1.sp y m) hL1.he _
     · rw[List.mem_singleton.mp m];exact(en.sm S1).putD sp hL1.he _
   · rcases List.mem_append.mp m with m|m
     · exact hL1.sp y m
     · rw[List.mem_singleton.mp m];exact sp
   · rcases List.mem_append.mp m with m|m
     · exact hL1.pls y m
     · rw[List.mem_singleton.mp m];exact hpl
   · rw[List.map_append];exact List.nodup_append.mpr ⟨hL1.nde,by simp,fun y m z mz e'=>no (by rw[List.mem_singleton.mp mz]at e';have e2:y=e.nm:=e';rw[← e2];exact m)⟩
theorem qbj {a:Ad} (T:Txt K mg a):qy P w K mg base (CX1 P w) 6 a.f_r a.fd_r ["self","later","earlier","minutes"] (jA a):=by
 have G_g:=zD (P:=P) (w:=w) (base:=base) T;have G_V:=qcV (P:=P) (w:=w) (base:=base) T;refine T.d_r.F.okX qeT (fun vs H Q E h=>?_) (fun cdv A outer s H vs Q E hr h=>?_)
 · obtain⟨x,dx,td,ed,bl,ts,es,bs,n1,n2,m,rfl,hL,kk⟩:=h;rfl
 · obtain⟨x,dx,td,ed,bl,ts,es,bs,n1,n2,m,rfl,hL,kk⟩:=h;have h_g:Room (5) _:=hr.mono (by decide);have h_V:Room (3) _:=hr.mono (by decide);obtain⟨t_MOST_BONDS,c_MOST_BONDS⟩:=T.g_MOST_BONDS
   refine⟨_,(qc (qA (qF (pv 0) T.cl_Log T.d_g.mt G_g h_g T.d_g.b .nil throws_cx.passes (qa (pv 1) qb)))
     (qc (qA (qF (pv 0) T.cl_Log T.d_g.mt G_g h_g T.d_g.b .nil throws_cx.passes (qa (pv 2) qb)))
     (qc (qU (zc (q8 (qp G_V h_V rfl T.d_V.m T.d_V.k T.d_V.b .nil qo (qa (pv 3) qb))))
       (qf qV)
       qx)
     (qc (qU (qz qi9 (qq qY (by rfl) T.n_len qL (qa (qK (pv 0) rfl) qb)) (za (v:=.int 100) rfl c_MOST_BONDS ⟨_,rfl⟩) (qJ _))
       (qf qV)
       qx)
     (qc (qA (Zi PySem.F.plainAttrs_list PySem.F.slot_list_append PySem.F.type_list_append zg (qK (pv 0) rfl) (qa (qZ (qa (pv 1) (qa (pv 2) (qa (pv 3) qb)))) qb)))
     (qf (qu (qB zG (qq qY (by rfl) T.n_len qL (qa (qK (pv 0) rfl) qb)) qe)))))))),?_⟩
   try dsimp only [ze,Cx.nox]
   rcases kk with ⟨me,mf,m0,m1,few,kk⟩|⟨mn,kz⟩
   case inr=>exact⟨_,rfl,x,dx,_,rfl,hL.hx,rfl,_,rfl,x,dx,td,ed,bl,ts,es,bs,.str n1,_,rfl,hL,rfl,.inr ⟨fun n e=>by cases e;exact mn,kz⟩⟩
   refine⟨_,rfl,x,dx,_,rfl,hL.hx,rfl,_,rfl,x,dx,td,ed,bl,ts,es,bs,.str n1,_,rfl,hL,rfl,.inl ⟨_,rfl,me,?_⟩⟩;refine⟨_,rfl,x,dx,_,rfl,hL.hx,rfl,_,rfl,x,dx,td,ed,bl,ts,es,bs,.str n2,_,rfl,hL,rfl,.inl ⟨_,rfl,mf,?_⟩⟩;refine⟨_,rfl,m,rfl,m0,m1,true,rfl,qG rfl ?_⟩;obtain⟨zs,hb,tbb⟩:=hL.hb;have lz:zs.length=bs.length:=tbb.1;refine⟨_,rfl,x,_,dx,_,_,rfl,hL.hx,T.cl_Log,T.n_Log_bound,rfl,_,_,rfl,.inl ⟨_,SqL.of hb,rfl⟩,_,_,rfl,rfl,_,rfl,jE (fun g=>absurd g (by omega)) (fun _=>?_)⟩;refine⟨_,rfl,x,_,dx,_,_,rfl,hL.hx,T.cl_Log,T.n_Log_bound,rfl,.inl ⟨rfl,_,SqL.of hb⟩,_,rfl,_,rfl,_,rfl,qj (Nat.le_of_ble_eq_true rfl),fun t ft=>?_⟩;generalize hG:upd H t _=G;obtain⟨SG,eG⟩:=qk hG ft;clear hG;have hLG:=hL.sm SG;have hbG:=SG _ _ hb;have tbG:TupL prB G zs bs:=tbb.same SG;refine⟨bl,_,_,rfl,rfl,hbG,qw (by omega),?_⟩;have hL2:Lg a (upd G bl (.lst (zs++[.ref t]))) x dx td ed bl ts es (bs++[(n1,n2,m)]):=⟨by rw[qh (zI hLG.hx hbG (by intro z;cases z))];exact hLG.hx,by rw[qh (zI hLG.ht hbG (by intro z;cases z))];exact hLG.ht,by rw[qh (zI hLG.he hbG (by intro z;cases z))];exact hLG.he,⟨_,qd,(tbG.snoc (p:=(n1,n2,m)) eG).put hbG⟩,fun y my=>(hLG.tt y my).putB (hLG.tg y my) hbG tbG _,hLG.tg,hLG.tn,fun y my=>(hLG.en y my).putB (hLG.sp y my) hbG tbG _,hLG.sp,hLG.pls,hLG.ne,hLG.ndt,hLG.nde⟩
   have B2:But bl H (upd G bl (.lst (zs++[.ref t]))):=fun b o e nb=>by rw[qh nb];exact SG b o e
   obtain⟨zs2,hb2,tb2⟩:=hL2.hb;generalize upd G bl (.lst (zs++[.ref t]))=G2 at hL2 B2 hb2 tb2 ⊢;have l2:zs2.length=bs.length+1:=by rw[tb2.1,List.length_append];rfl
   refine⟨_,rfl,x,_,dx,_,_,rfl,hL2.hx,T.cl_Log,T.n_Log_bound,rfl,_,_,rfl,.inl ⟨_,SqL.of hb2,rfl⟩,_,_,rfl,rfl,?_⟩;have e3:((zs2.length:Int) - 1)=(bs.length:Int):=by omega
   rw[e3];exact kk _ B2 hL2
theorem qec {a:Ad} (T:Txt K mg a):qy P w K mg base (CX1 P w) 8 a.f_aq a.fd_aq ["self","name"] (JF a):=by
 have G_E:=ju (P:=P) (w:=w) (base:=base) T;have G_b:=zT (P:=P) (w:=w) (base:=base) T;have G_i:=Qd (P:=P) (w:=w) (base:=base) T;have G_ak:=qbQ (P:=P) (w:=w) (base:=base) T;have G_an:=qbf (P:=P) (w:=w) (base:=base) T;have G_e:=qaa (P:=P) (w:=w) (base:=base) T;refine T.d_aq.F.okX qdI (fun vs H Q E h=>?_) (fun cdv A outer s H vs Q E hr h=>?_)
 · obtain⟨x,dx,td,ed,bl,ts,es,bs,nm,rfl,hL,kk⟩:=h;rfl
 · obtain⟨x,dx,td,ed,bl,ts,es,bs,nm,rfl,hL,kk⟩:=h;have h_E:Room (1) _:=hr.mono (by decide);have h_b:Room (5) _:=hr.mono (by decide);have h_i:Room (6) _:=hr.mono (by decide);have h_ak:Room (7) _:=hr.mono (by decide);have h_an:Room (7) _:=hr.mono (by decide);have h_e:Room (6) _:=hr.mono (by decide);refine⟨_,(qf (qu (PE.or (qF (qF (pv 0) T.cl_Log T.d_e.mt G_e h_e T.d_e.b .nil throws_cx.passes (qa (pv 1) qb)) T.cl_Entry T.d_E.mt G_E h_E T.d_E.b .nil qo (qa (qK (pv 0) rfl) qb)) (PE.or (qF (qF (pv 0) T.cl_Log T.d_e.mt G_e h_e T.d_e.b .nil throws_cx.passes (qa (pv 1) qb)) T.cl_Within T.d_b.mt G_b h_b T.d_b.b .nil qo (qa (qK (pv 0) rfl) qb)) (PE.or (qF (qF (pv 0) T.cl_Log T.d_e.mt G_e h_e T.d_e.b .nil throws_cx.passes (qa (pv 1) qb)) T.cl_At T.i_At_spans G_b h_b T.d_b.b .nil qo (qa (qK (pv 0) rfl) qb)) (PE.or (qF (qF (pv 0) T.cl_Log T.d_e.mt G_e h_e T.d_e.b .nil throws_cx.passes (qa (pv 1) qb)) T.cl_Between T.d_i.mt G_i h_i T.d_i.b .nil qo (qa (qK (pv 0) rfl) qb)) (PE.or (qF (qF (pv 0) T.cl_Log T.d_e.mt G_e h_e T.d_e.b .nil throws_cx.passes (qa (pv 1) qb)) T.cl_Read T.i_Read_spans G_i h_i T.d_i.b .nil qo (qa (qK (pv 0) rfl) qb)) (PE.or (qF (qF (pv 0) T.cl_Log T.d_e.mt G_e h_e T.d_e.b .nil throws_cx.passes (qa (pv 1) qb)) T.cl_Joint T.d_ak.mt G_ak h_ak T.d_ak.b .nil qo (qa (qK (pv 0) rfl) qb)) (qF (qF (pv 0) T.cl_Log T.d_e.mt G_e h_e T.d_e.b .nil throws_cx.passes (qa (pv 1) qb)) T.cl_Sifted T.d_an.mt G_an h_an T.d_an.b .nil qo (qa (qK (pv 0) rfl) qb)))))))))),?_⟩;(try dsimp only [ze,Cx.nox]);rcases kk with ⟨e,me,rfl,kk⟩|⟨mn,kz⟩
   case inr=>exact .inl ⟨_,rfl,x,dx,_,rfl,hL.hx,rfl,_,rfl,x,dx,td,ed,bl,ts,es,bs,nm,rfl,hL,.inr ⟨mn,kz⟩⟩
   exact qg9 T (fun R h=>⟨_,rfl,x,dx,_,rfl,hL.hx,rfl,_,rfl,x,dx,td,ed,bl,ts,es,bs,e.nm,rfl,hL,.inl ⟨e,me,rfl,h⟩⟩) (hL.en e me) (hL.sp e me) hL.tq (hL.pls e me) (fun R hR=>⟨_,rfl,x,_,dx,_,_,rfl,hL.hx,T.cl_Log,T.n_Log_tables,rfl,hR⟩) kk
end
abbrev tR (t:Str×Addr×List (Int×Int)):Str×List (Int×Int):=(t.1,t.2.2)
structure Imm (H H':Hp):Prop where
 tup:∀ t xs,H t=some (.tup xs)->H' t=some (.tup xs)
 ins:∀ x C d fs,H x=some (.ins C d fs)->fs.lookup ("bound":Str)=none->H' x=some (.ins C d fs)
 row:∀ q t zs r,H q=some (.lst (.ref t::zs))->H t=some (.tup (pr r))->H' q=some (.lst (.ref t::zs))
 ent:∀ q t zs C d fs,H q=some (.lst (.ref t::zs))->H t=some (.ins C d fs)->fs.lookup ("bound":Str)=none->H' q=some (.lst (.ref t::zs))
inductive Mu (H:Hp) (m:Addr):Prop
 | d {kvs:List (Key×V)}:H m=some (.dK kvs)->Mu H m
 | log {C d:Addr}{fs:List (Str×V)}:H m=some (.ins C d fs)->fs.lookup ("bound":Str)≠none->Mu H m
 | ls {zs:List V}:H m=some (.lst zs)->(∀ t ws r,zs=.ref t::ws->H t≠some (.tup (pr r)))->(∀ t ws C d fs,zs=.ref t::ws->H t=some (.ins C d fs)->fs.lookup ("bound":Str)≠none)->Mu H m
theorem ButL.imm {M:List Addr}{H H':Hp} (h:ButL M H H') (mu:∀ m∈M,Mu H m):Imm H H':=by
 refine⟨fun t xs e=>h t _ e fun m=>?_,fun x C d fs e n=>h x _ e fun m=>?_,fun q t zs r e et=>h q _ e fun m=>?_,fun q t zs C d fs e et n=>h q _ e fun m=>?_⟩
 · cases mu t m with
   | d e'=>rw[e]at e';cases e'
   | log e' _=>rw[e]at e';cases e'
   | ls e' _ _=>rw[e]at e';cases e'
 · cases mu x m with
   | d e'=>rw[e]at e';cases e'
   | log e' hn=>rw[e]at e';cases e';exact hn n
   | ls e' _ _=>rw[e]at e';cases e'
 · cases mu q m with
   | d e'=>rw[e]at e';cases e'
   | log e' _=>rw[e]at e';cases e'
   | ls e' hz _=>rw[e]at e';cases e';exact hz t zs r rfl et
 · cases mu q m with
   | d e'=>rw[e]at e';cases e'
   | log e' _=>rw[e]at e';cases e'
   | ls e' _ hz=>rw[e]at e';cases e';exact hz t zs C d fs rfl et n
theorem Imm.sm {H H':Hp} (s:Same H H'):Imm H H':=⟨fun _ _ e=>s _ _ e,fun _ _ _ _ e _=>s _ _ e,fun _ _ _ _ e _=>s _ _ e,fun _ _ _ _ _ _ e _ _=>s _ _ e⟩
theorem Imm.trans {H H1 H2:Hp} (a:Imm H H1) (b:Imm H1 H2):Imm H H2:=⟨fun t xs e=>b.tup _ _ (a.tup _ _ e),fun x C d fs e n=>b.ins _ _ _ _ (a.ins _ _ _ _ e n) n,fun q t zs r e et=>b.row _ _ _ _ (a.row _ _ _ _ e et) (a.tup _ _ et),fun q t zs C d fs e et n=>b.ent _ _ _ _ _ _ (a.ent _ _ _ _ _ _ e et n) (a.ins _ _ _ _ et n) n⟩
theorem TupL.im {β:Type}{f:β->List V}{H H':Hp}{zs:List V}{ps:List β} (h:TupL f H zs ps) (i:Imm H H'):TupL f H' zs ps:=⟨h.1,fun j z y e1 e2=>by
 obtain⟨t,et,ht⟩:=h.2 j z y e1 e2
 exact⟨t,et,i.tup _ _ ht⟩⟩
theorem qlM {H H':Hp}{q:Addr}{zs:List V}{rows:List (Int×Int)} (hq:H q=some (.lst zs)) (tz:TupL pr H zs rows) (g:0 < rows.length) (i:Imm H H'):H' q=some (.lst zs):=by
 cases rows with
 | nil=>cases g
 | cons r rs =>
   obtain⟨t,hz,ht⟩:=tz.at_ (i:=0) (p:=r) rfl
   cases zs with
   | nil=>cases hz
   | cons z ws=>cases hz;exact i.row _ t _ r hq ht
theorem Tb.im {a:Ad}{H H':Hp}{x:Addr}{rows:List (Int×Int)} (h:Tb a H x rows) (g:Good rows) (i:Imm H H'):Tb a H' x rows:=by
 obtain⟨k,dx,zs,h1,h2,h3⟩:=h;exact⟨k,dx,zs,i.ins _ _ _ _ h1 (qdg _ (by decide)),qlM h2 h3 (Jf g) i,TupL.im h3 i⟩
theorem EnG.im {a:Ad}{H H':Hp}{g:Gk} (h:EnG a H g) (sp:SpG g) (i:Imm H H'):EnG a H' g:=h.kp sp (fun x C d fs e _ n=>i.ins _ _ _ _ e n) (fun q t ws C d fs e et n=>i.ent _ _ _ _ _ _ e et n)
theorem Lg.im {a:Ad}{H H':Hp}{x dx td ed bl:Addr}{ts:Pls}{es:List Gk}{bs:List (Str×Str×Int)} (h:Lg a H x dx td ed bl ts es bs) (i:Imm H H') (k:∀ b∈[x,td,ed,bl],∀ o,H b=some o->H' b=some o):Lg a H' x dx td ed bl ts es bs:=by
 obtain⟨zs,hb,tb⟩:=h.hb;exact⟨k _ (by simp) _ h.hx,k _ (by simp) _ h.ht,k _ (by simp) _ h.he,⟨zs,k _ (by simp) _ hb,TupL.im tb i⟩,fun t m=>(h.tt t m).im (h.tg t m) i,h.tg,h.tn,fun e m=>(h.en e m).im (h.sp e m) i,h.sp,h.pls,h.ne,h.ndt,h.nde⟩
theorem qmb {H:Hp}{m:Addr}{zs:List V}{bs:List (Str×Str×Int)} (e:H m=some (.lst zs)) (t:TupL prB H zs bs):Mu H m:=.ls e (fun u ws r ez eu=>by
 subst ez;obtain⟨q,v,hq,ev,hv⟩:=t.of (i:=0) (z:=.ref u) rfl;cases ev;rw[eu]at hv
 cases hv) (fun u ws C d fs ez eu=>by
 subst ez;obtain⟨q,v,hq,ev,hv⟩:=t.of (i:=0) (z:=.ref u) rfl;cases ev;rw[eu]at hv
 cases hv)
theorem Lg.mu {a:Ad}{H:Hp}{x dx td ed bl:Addr}{ts:Pls}{es:List Gk}{bs:List (Str×Str×Int)} (h:Lg a H x dx td ed bl ts es bs):∀ m∈[x,td,ed,bl],Mu H m:=by
 intro m hm;simp only[List.mem_cons,List.not_mem_nil,or_false]at hm;obtain⟨zs,hb,tb⟩:=h.hb;rcases hm with rfl|rfl|rfl|rfl
 · exact .log h.hx (by intro z;cases z)
 · exact .d h.ht
 · exact .d h.he
 · exact qmb hb tb
def qgq (ts:Pls) (pl:Str) (t:Addr) (rows:List (Int×Int)):Pls:=if pl∈ts.map (·.1) then ts.map (fun y=>if y.1=pl then (pl,t,rows) else y) else ts++[(pl,t,rows)]
theorem any_dkv {ts:Pls}{pl:Str}:((dkv ts).any fun kv=>decide (kv.1=(.inr pl:Key)))=true↔pl∈ts.map (·.1):=by
 unfold dkv;rw[List.any_map,List.any_eq_true,List.mem_map];constructor
 · rintro⟨y,m,e⟩;have e':(.inr y.1:Key)=.inr pl:=by simpa using e
   exact⟨y,m,by injection e'⟩
 · rintro⟨y,m,e⟩;exact⟨y,m,by simp[e]⟩
theorem qld {ts:Pls}{pl:Str}{t:Addr}{rows:List (Int×Int)}:qd0 (dkv ts) (.inr pl) (V.ref t)=dkv (qgq ts pl t rows):=by
 unfold qd0 qgq;by_cases h:pl∈ts.map (·.1)
 · rw[if_pos (any_dkv.mpr h),if_pos h];unfold dkv;rw[List.map_map,List.map_map];refine List.map_congr_left fun y _=>?_;by_cases e:y.1=pl
   · simp[e]
   · have:¬ ((.inr y.1:Key)=.inr pl):=fun z=>e (by injection z)
     simp[e]
 · rw[if_neg (fun z=>h (any_dkv.mp z)),if_neg h];unfold dkv;rw[List.map_append];rfl
theorem qdZ {ts:Pls}{pl:Str}{t:Addr}{rows:List (Int×Int)}:(qgq ts pl t rows).map (·.1)=if pl∈ts.map (·.1) then ts.map (·.1) else ts.map (·.1)++[pl]:=by
 unfold qgq;by_cases c:pl∈ts.map (·.1)
 · rw[if_pos c,if_pos c,List.map_map];refine List.map_congr_left fun y _=>?_;by_cases e:y.1=pl
   · simp[e]
   · simp[e]
 · rw[if_neg c,if_neg c,List.map_append];rfl
theorem qcQ {ts:Pls}{pl:Str}{t:Addr}{rows:List (Int×Int)}{y:Str×Addr×List (Int×Int)} (m:y∈qgq ts pl t rows):y∈ts∨y=(pl,t,rows):=by
 unfold qgq at m;split at m
 · obtain⟨z,mz,e⟩:=List.mem_map.mp m;split at e
   · exact .inr e.symm
   · exact .inl (e▸mz)
 · rcases List.mem_append.mp m with m|m
   · exact .inl m
   · exact .inr (List.mem_singleton.mp m)
theorem qkF {ts:Pls} (h:(ts.map (·.1)).Nodup) {pl:Str}{t:Addr}{rows:List (Int×Int)}:((qgq ts pl t rows).map (·.1)).Nodup:=by
 rw[qdZ];split
 · exact h
 · rename_i c
   exact List.nodup_append.mpr ⟨h,by simp,fun y m z mz e=>c (by rw[List.mem_singleton.mp mz]at e;exact e▸m)⟩
theorem qiV {ts:Pls}{pl:Str}{t:Addr}{rows:List (Int×Int)}{n:Str} (m:n∈ts.map (·.1)):n∈(qgq ts pl t rows).map (·.1):=by
 rw[qdZ];split
 · exact m
 · exact List.mem_append_left _ m
theorem TupL.er {β:Type}{f:β->List V}{H:Hp}{zs:List V}{ps:List β} (h:TupL f H zs ps) (n:Nat):TupL f H (zs.eraseIdx n) (ps.eraseIdx n):=by
 have hl:=h.1;refine⟨by rw[List.length_eraseIdx,List.length_eraseIdx,hl],fun j z y e1 e2=>?_⟩;rw[List.getElem?_eraseIdx]at e1 e2;by_cases c:j < n
 · rw[if_pos c]at e1 e2;exact h.2 j z y e1 e2
 · rw[if_neg c]at e1 e2;exact h.2 (j+1) z y e1 e2
abbrev kb (nm:Str) (b:Str×Str×Int):Bool:=!decide (nm=b.1) && !decide (nm=b.2.1)
theorem qjx {es:List Gk}{nm:Str}:qfd (ekv es) (.inr nm)=ekv (es.filter fun e=>decide (e.nm≠nm)):=by
 unfold qfd ekv;rw[List.filter_map];congr 1;refine List.filter_congr fun e _=>?_;show decide ((.inr e.nm:Key)≠.inr nm)=decide (e.nm≠nm);by_cases h:e.nm=nm
 · simp[h]
 · have:¬ ((.inr e.nm:Key)=.inr nm):=fun z=>h (by injection z)
   simp[h]
inductive je (a:Ad) (vs:List V) (H:Hp) (Q:VK):Prop
 | mk (x dx td ed bl:Addr) (ts:Pls) (es:List Gk) (bs:List (Str×Str×Int)) (pl:Str) (t:Addr) (rows:List (Int×Int)) (h1:vs=[.ref x,.str pl,.ref t]) (h2:Lg a H x dx td ed bl ts es bs) (h3:zC (.str pl)=true) (h4:(pl∉ts.map (·.1)->ts.length < 6)) (h5:ts.length≤6) (h6:Tb a H t rows) (h7:Good rows) (h8:∀ H',But td H H'->Lg a H' x dx td ed bl (qgq ts pl t rows) es bs->Q .non H'):je a vs H Q
def QA (a:Ad):Sp:=fun vs H Q _=>je a vs H Q
inductive Qo (a:Ad) (vs:List V) (H:Hp) (Q:VK):Prop
 | mk (x dx td ed bl:Addr) (ts:Pls) (es:List Gk) (bs:List (Str×Str×Int)) (n:Nat) (h1:vs=[.ref x,.int (n:Int)]) (h2:Lg a H x dx td ed bl ts es bs) (h3:n < bs.length) (h4:Q .non H):Qo a vs H Q
def QN (a:Ad):Sp:=fun vs H Q _=>Qo a vs H Q
inductive Zy (a:Ad) (vs:List V) (H:Hp) (Q:VK):Prop
 | mk (x dx td ed bl:Addr) (ts:Pls) (es:List Gk) (bs:List (Str×Str×Int)) (n:Nat) (h1:vs=[.ref x,.int (n:Int)]) (h2:Lg a H x dx td ed bl ts es bs) (h3:n < bs.length) (h4:bs.length≤100) (h5:∀ H',But bl H H'->Lg a H' x dx td ed bl ts es (bs.eraseIdx n)->Q .non H'):Zy a vs H Q
def jQ (a:Ad):Sp:=fun vs H Q _=>Zy a vs H Q
inductive jT (a:Ad) (vs:List V) (H:Hp) (Q:VK):Prop
 | mk (x dx td ed bl:Addr) (ts:Pls) (es:List Gk) (bs:List (Str×Str×Int)) (nm:Str) (h1:vs=[.ref x,.str nm]) (h2:Lg a H x dx td ed bl ts es bs) (h3:nm∈es.map (·.nm)) (h4:bs.length≤100) (h5:∀ (bl':Addr) (H':Hp),H bl'=none->ButL [x,ed] H H'->Lg a H' x dx td ed bl' ts (es.filter fun e=>decide (e.nm≠nm)) (bs.filter (kb nm))->Q .non H'):jT a vs H Q
def jz (a:Ad):Sp:=fun vs H Q _=>jT a vs H Q
inductive ZB (a:Ad) (vs:List V) (H:Hp) (Q:VK):Prop
 | mk (x dx td ed bl:Addr) (ts:Pls) (es:List Gk) (bs:List (Str×Str×Int)) (h1:vs=[.ref x]) (h2:Lg a H x dx td ed bl ts es bs) (h3:∀ (x' dx' td' ed' bl':Addr) (H':Hp),H x'=none->H td'=none->H ed'=none->H bl'=none->Same H H'->Lg a H' x' dx' td' ed' bl' ts es bs->Q (.ref x') H'):ZB a vs H Q
def jU (a:Ad):Sp:=fun vs H Q _=>ZB a vs H Q
section
variable {P:Program}{w:World}{K:Frag}{mg:Str->Option Value}{base:Heap}
theorem ZL {a:Ad} (T:Txt K mg a):qy P w K mg base CX0 2 a.f_l a.fd_l ["self","place","table"] (QA a):=by
 have G_x:=qcj (P:=P) (w:=w) (base:=base) T;refine T.d_l.F.ok qdL (fun vs H Q E h=>?_) (fun cdv A outer s H vs Q E hr h=>?_)
 · obtain⟨x,dx,td,ed,bl,ts,es,bs,pl,t,rows,rfl,hL,ok,few,few6,tb,good,kk⟩:=h;rfl
 · obtain⟨x,dx,td,ed,bl,ts,es,bs,pl,t,rows,rfl,hL,ok,few,few6,tb,good,kk⟩:=h;have hu:=qI hr;have h_x:Room (1) _:=hr.mono (by decide);obtain⟨t_MOST_PLACES,c_MOST_PLACES⟩:=T.g_MOST_PLACES
   refine⟨_,(qc (qU (zc (q8 (qp G_x h_x rfl T.d_x.m T.d_x.k T.d_x.b .nil qo (qa (pv 1) qb))))
       (qf qV)
       qx)
     (qc (qU (PW.pt (J1 (qz (qba hu) (pv 1) (qK (pv 0) rfl) (by with_unfolding_all rfl)) (ZI (qz qi9 (qq qey (by rfl) T.n_len qL (qa (qK (pv 0) rfl) qb)) (za (v:=.int 6) rfl c_MOST_PLACES ⟨_,rfl⟩) (qJ _)))))
       (qf qV)
       qx)
     (qf (qhs hu (qK (pv 0) rfl) (pv 1) (pv 2) rfl)))),?_⟩
   try dsimp only [ze,Cx.nox]
   refine⟨_,rfl,pl,rfl,ok,fun H1 S1=>⟨true,rfl,qG rfl ?_⟩⟩;have hL1:=hL.sm S1;obtain⟨zs,hb,tbb⟩:=hL1.hb
   have K1:Q .non (upd H1 td (.dK (qd0 (dkv ts) (.inr pl) (V.ref t)))):=by
     rw[qld (rows:=rows)];refine kk _ (fun b o e nb=>by rw[qh nb];exact S1 b o e) ⟨by rw[qh (zI hL1.hx hL1.ht (by intro z;cases z))];exact hL1.hx,qd,by rw[qh hL1.ne.symm];exact hL1.he,⟨zs,by rw[qh (zI hb hL1.ht (by intro z;cases z))];exact hb,TupL.putD tbb hL1.ht _⟩,fun y m=>?_,fun y m=>?_,fun y m=>?_,fun e m=>(hL1.en e m).putD (hL1.sp e m) hL1.ht _,hL1.sp,fun e m=>?_,hL1.ne,qkF hL1.ndt,hL1.nde⟩
     · rcases qcQ m with m|rfl
       · exact(hL1.tt y m).putD hL1.ht _
       · exact(tb.sm S1).putD hL1.ht _
     · rcases qcQ m with m|rfl
       · exact hL1.tg y m
       · exact good
     · rcases qcQ m with m|rfl
       · exact hL1.tn y m
       · exact ok
     · exact fun s ms=>qiV (hL1.pls e m s ms)
   by_cases no:pl∈ts.map (·.1)
   · obtain⟨y,my,ey⟩:=List.mem_map.mp no;have dg:=hL1.tget my;rw[ey]at dg;refine⟨_,rfl,_,rfl,x,_,dx,_,_,rfl,hL1.hx,T.cl_Log,T.n_Log_tables,rfl,td,_,rfl,dg,_,rfl,qG rfl ?_⟩;exact⟨_,rfl,_,rfl,x,_,dx,_,_,rfl,hL1.hx,T.cl_Log,T.n_Log_tables,rfl,_,rfl,td,_,rfl,DPut.k (k:=.inr pl) hL1.ht (by unfold dkv;rw[List.length_map];exact Nat.lt_of_lt_of_le (by omega:ts.length < 60) (qj (by decide:60≤1000))),K1⟩
   · have few:=few no;have dg:qeH H1 td (.str pl) none:=.inl ⟨_,.inr pl,.inl hL1.ht,rfl,(qlx no).symm⟩;refine⟨_,rfl,_,rfl,x,_,dx,_,_,rfl,hL1.hx,T.cl_Log,T.n_Log_tables,rfl,td,_,rfl,dg,_,rfl,QG rfl ?_⟩;refine⟨_,rfl,x,_,dx,_,_,rfl,hL1.hx,T.cl_Log,T.n_Log_tables,rfl,td,_,rfl,hL1.ht,_,_,rfl,rfl,_,rfl,jE (fun g=>absurd g ?_) (fun _=>?_)⟩
     · unfold dkv;rw[List.length_map];omega
     exact⟨_,rfl,_,rfl,x,_,dx,_,_,rfl,hL1.hx,T.cl_Log,T.n_Log_tables,rfl,_,rfl,td,_,rfl,DPut.k (k:=.inr pl) hL1.ht (by unfold dkv;rw[List.length_map];exact Nat.lt_of_lt_of_le (by omega:ts.length < 60) (qj (by decide:60≤1000))),K1⟩
theorem Jv {a:Ad} (T:Txt K mg a):qy P w K mg base CX0 3 a.f_ap a.fd_ap ["self","number"] (QN a):=by
 have G_a:=Qs (P:=P) (w:=w) (base:=base) T;refine T.d_ap.F.ok Jq (fun vs H Q E h=>?_) (fun cdv A outer s H vs Q E hr h=>?_)
 · obtain⟨x,dx,td,ed,bl,ts,es,bs,n,rfl,hL,hn,kk⟩:=h;rfl
 · obtain⟨x,dx,td,ed,bl,ts,es,bs,n,rfl,hL,hn,kk⟩:=h;have h_a:Room (2) _:=hr.mono (by decide)
   refine⟨_,(qf (qU (zc (q8 (qp G_a h_a rfl T.d_a.m T.d_a.k T.d_a.b .nil qo (qa (pv 1) (qa qe (qa (qB zG (qq qY (by rfl) T.n_len qL (qa (qK (pv 0) rfl) qb)) qe) qb))))))
       (qf qV)
       qx)),?_⟩
   try dsimp only [ze,Cx.nox]
   obtain⟨zs,hb,tbb⟩:=hL.hb;have lz:zs.length=bs.length:=tbb.1;exact⟨_,rfl,_,rfl,x,_,dx,_,_,rfl,hL.hx,T.cl_Log,T.n_Log_bound,rfl,_,_,rfl,.inl ⟨_,SqL.of hb,rfl⟩,_,_,rfl,rfl,(n:Int),0,_,rfl,(by omega),(by omega),true,rfl,qG rfl kk⟩
theorem qcZ {a:Ad} (T:Txt K mg a):qy P w K mg base CX0 4 a.f_ao a.fd_ao ["self","number"] (jQ a):=by
 have G_ap:=Jv (P:=P) (w:=w) (base:=base) T;refine T.d_ao.F.ok qcJ (fun vs H Q E h=>?_) (fun cdv A outer s H vs Q E hr h=>?_)
 · obtain⟨x,dx,td,ed,bl,ts,es,bs,n,rfl,hL,hn,few,kk⟩:=h;rfl
 · obtain⟨x,dx,td,ed,bl,ts,es,bs,n,rfl,hL,hn,few,kk⟩:=h;have h_ap:Room (3) _:=hr.mono (by decide)
   refine⟨_,(qc (qA (qF (pv 0) T.cl_Log T.d_ap.mt G_ap h_ap T.d_ap.b .nil qo (qa (pv 1) qb)))
     (qf (qA (Zi PySem.F.plainAttrs_list PySem.F.slot_list_pop PySem.F.type_list_pop qje (qK (pv 0) rfl) (qa (pv 1) qb))))),?_⟩
   try dsimp only [ze,Cx.nox]
   refine⟨_,rfl,x,dx,_,rfl,hL.hx,rfl,_,rfl,x,dx,td,ed,bl,ts,es,bs,n,rfl,hL,hn,?_⟩;obtain⟨zs,hb,tbb⟩:=hL.hb;have lz:zs.length=bs.length:=tbb.1;refine⟨_,rfl,x,_,dx,_,_,rfl,hL.hx,T.cl_Log,T.n_Log_bound,rfl,.inl ⟨rfl,_,SqL.of hb⟩,_,rfl,bl,zs,_,n,zs[n]'(by omega),rfl,rfl,hb,(by omega),(by omega),(qe9 (qk3 (by omega))).1,List.getElem?_eq_getElem (by omega),?_⟩;refine kk _ (fun b o e nb=>by rw[qh nb];exact e) ⟨by rw[qh (zI hL.hx hb (by intro z;cases z))];exact hL.hx,by rw[qh (zI hL.ht hb (by intro z;cases z))];exact hL.ht,by rw[qh (zI hL.he hb (by intro z;cases z))];exact hL.he,⟨_,qd,(TupL.er tbb n).put hb⟩,fun y my=>(hL.tt y my).putB (hL.tg y my) hb tbb _,hL.tg,hL.tn,fun y my=>(hL.en y my).putB (hL.sp y my) hb tbb _,hL.sp,hL.pls,hL.ne,hL.ndt,hL.nde⟩
end
theorem Je {H:Hp}{a b:Addr}{o:HO} (h:upd H a o b=none):H b=none:=by
 by_cases e:b=a
 · subst e;rw[qd]at h;cases h
 · rw[qh e]at h;exact h
theorem qcy {H L M:Hp}{x n:Addr}{o o' o1:HO} (S:Same H L) (fx:H x=none) (fn:L n=none) (hx:L x=some o1) (hM:upd (upd L n o) x o'=M):Same H M∧M x=some o'∧M n=some o∧H n=none∧∀ b ob,L b=some ob->b≠x->M b=some ob:=by
 subst hM;have nx:n≠x:=fun e=>by rw[e,hx]at fn;cases fn
 refine⟨fun b ob e=>?_,qd,by rw[qh nx,qd],S.none fn,fun b ob e nb=>?_⟩
 · rw[qh (qm e fx),qh (qm (S b ob e) fn)];exact S b ob e
 · rw[qh nb,qh (qm e fn)];exact e
section
variable {P:Program}{w:World}{K:Frag}{mg:Str->Option Value}{base:Heap}
theorem qbi {a:Ad} (T:Txt K mg a):qy P w K mg base CX0 6 a.f_s a.fd_s ["self","name"] (jz a):=by
 have G_g:=zD (P:=P) (w:=w) (base:=base) T;refine T.d_s.F.ok qeS (fun vs H Q E h=>?_) (fun cdv A outer s H vs Q E hr h=>?_)
 · obtain⟨x,dx,td,ed,bl,ts,es,bs,nm,rfl,hL,mn,few,kk⟩:=h;rfl
 · obtain⟨x,dx,td,ed,bl,ts,es,bs,nm,rfl,hL,mn,few,kk⟩:=h;have hU:=hr.units;have h_g:Room (5) _:=hr.mono (by decide);obtain⟨t_LATER,c_LATER⟩:=T.g_LATER;obtain⟨t_EARLIER,c_EARLIER⟩:=T.g_EARLIER
   refine⟨_,(qc (qA (qF (pv 0) T.cl_Log T.d_g.mt G_g h_g T.d_g.b .nil qev (qa (pv 1) qb)))
     (qc (qA (qi7 (qK (pv 0) rfl) (pv 1) ⟨rfl,rfl,rfl,rfl⟩))
     (qf (z9 (pv 0) (zH rfl (CompOk.def ["bond","name"] [none,some 1]) (qX (qK (pv 0) rfl)) (fun _ _ _ _ _=>(qt (i:=0) (show List.Nodup (["bond","name"]:List Str) by decide +kernel) rfl (Or.inl rfl))) (fun _ _ _ _ _=>(Js (PW.pt (J1 (qz (uNe hU) (pv 1) (qr (r:=rIx K) qi (pv 0) (za (v:=.int 0) rfl c_LATER ⟨_,rfl⟩) (fun _ _=>rfl)) (qJ _)) (ZI (qz (uNe hU) (pv 1) (qr (r:=rIx K) qi (pv 0) (za (v:=.int 1) rfl c_EARLIER ⟨_,rfl⟩) (fun _ _=>rfl)) (qJ _))))))) (fun _ _ _ _ _=>(pv 0))) rfl)))),?_⟩
   try dsimp only [ze,Cx.nox]
   refine⟨_,rfl,x,dx,_,rfl,hL.hx,rfl,_,rfl,x,dx,td,ed,bl,ts,es,bs,.str nm,_,rfl,hL,rfl,.inl ⟨_,rfl,mn,?_⟩⟩;obtain⟨e0,me0,rfl⟩:=List.mem_map.mp mn;refine⟨_,rfl,x,_,dx,_,_,rfl,hL.hx,T.cl_Log,T.n_Log_entries,rfl,ed,rfl,.inl ⟨_,.inl hL.he⟩,_,rfl,_,.inr e0.nm,_,hL.he,rfl,qfb hL.nde e0 me0,?_⟩;rw[qjx];obtain⟨zs,hb,tbb⟩:=hL.hb;have gx:(upd H ed (.dK (ekv (es.filter fun e=>decide (e.nm≠e0.nm))))) x=_:=(qh (zI hL.hx hL.he (by intro z;cases z))).trans hL.hx;have gt:(upd H ed (.dK (ekv (es.filter fun e=>decide (e.nm≠e0.nm))))) td=_:=(qh hL.ne).trans hL.ht;have ge:(upd H ed (.dK (ekv (es.filter fun e=>decide (e.nm≠e0.nm))))) ed=_:=qd;have gb:(upd H ed (.dK (ekv (es.filter fun e=>decide (e.nm≠e0.nm))))) bl=_:=(qh (zI hb hL.he (by intro z;cases z))).trans hb;have tg:TupL prB (upd H ed (.dK (ekv (es.filter fun e=>decide (e.nm≠e0.nm))))) zs bs:=TupL.putD tbb hL.he _;have BG:But ed H (upd H ed (.dK (ekv (es.filter fun e=>decide (e.nm≠e0.nm))))):=fun b o e nb=>by rw[qh nb];exact e
   have FG:∀ b,(upd H ed (.dK (ekv (es.filter fun e=>decide (e.nm≠e0.nm))))) b=none->H b=none:=fun b h=>Je h;generalize upd H ed (.dK (ekv (es.filter fun e=>decide (e.nm≠e0.nm))))=G at gx gt ge gb tg BG FG ⊢;refine⟨_,rfl,x,_,dx,_,_,rfl,gx,T.cl_Log,T.n_Log_bound,rfl,bl,rfl,⟨_,SqL.of gb⟩,fun D fD=>?_⟩;refine zh (K:=K) (a:=bl) (xs:=zs) (D:=D) (fun i σ H2=>∃ (c0:Option V) (ws:List V),σ=[c0,some (.str e0.nm)]∧Same G H2∧H2 D=some (.lst ws)∧TupL prB H2 ws ((bs.take i).filter (kb e0.nm))) ⟨none,[],rfl,Same.new _ fD,qd,.nil⟩ (fun i σ H2 _ ⟨_,_,_,S,_⟩=>SqL.of (S _ _ gb)) ?_ ?_
   · rintro i z σ H2 hz ⟨c0,ws,rfl,S,hD,tw⟩;obtain⟨b,u,hb',rfl,hu'⟩:=tg.of hz;have hu2:=S _ _ hu'
     have lw:ws.length≤100:=by
       have h1:=tw.1;have h2:=List.length_filter_le (kb e0.nm) (bs.take i);rw[List.length_take]at h2;omega
     have tf:=jx (p:=kb e0.nm) hb';refine⟨_,rfl,_,rfl,.inr (.inl ⟨u,_,_,_,rfl,rfl,SqT.of hu2,rfl,.inl ⟨rfl,_,rfl,?_⟩⟩)⟩;by_cases c1:e0.nm=b.1
     · refine qG (by simp[c1]) (qG rfl ?_);refine⟨_,ws,rfl,S,hD,?_⟩;rw[tf,if_neg (by simp[kb,c1]),List.append_nil];exact tw
     refine QG (by simp[c1]) ?_;refine⟨_,rfl,_,rfl,.inr (.inl ⟨u,_,_,_,rfl,rfl,SqT.of hu2,rfl,.inl ⟨rfl,_,rfl,?_⟩⟩)⟩;by_cases c2:e0.nm=b.2.1
     · refine qG (by simp[c2]) ?_;refine⟨_,ws,rfl,S,hD,?_⟩;rw[tf,if_neg (by simp[kb,c2]),List.append_nil];exact tw
     refine QG (by simp[c2]) ?_;refine⟨_,rfl,ws,hD,qw (by omega),_,_,rfl,S.put fD _,qd,?_⟩;rw[tf,if_pos (by simp[kb,c1,c2])];exact(tw.snoc hu2).put hD
   rintro σ H2 ⟨c0,ws,rfl,S,hD,tw⟩;rw[tg.1,List.take_length]at tw;refine⟨_,rfl,x,_,dx,_,rfl,S _ _ gx,T.cl_Log,T.n_Log_bound,(Nat.le_of_ble_eq_true rfl),?_⟩;have nxt:td≠x:=zI hL.ht hL.hx (by intro z;cases z);have nxe:ed≠x:=zI hL.he hL.hx (by intro z;cases z);have nxD:D≠x:=zI hD (S _ _ gx) (by intro z;cases z);have ef:qdm ("bound":Str) (.ref D) (fsL td ed bl)=fsL td ed D:=rfl;rw[ef]
   have BL:ButL [x,ed] H (upd H2 x (.ins a.c_Log dx (fsL td ed D))):=fun b o e nb=>by
     simp only[List.mem_cons,List.not_mem_nil,or_false,not_or]at nb;rw[qh nb.1];exact S b o (BG b o e nb.2)
   have im:Imm H (upd H2 x (.ins a.c_Log dx (fsL td ed D))):=ButL.imm BL fun m mm=>hL.mu m (by
     simp only[List.mem_cons,List.not_mem_nil,or_false]at mm ⊢;rcases mm with h|h
     · exact .inl h
     · exact .inr (.inr (.inl h)))
   refine kk D _ (FG D fD) BL ⟨qd,by rw[qh nxt];exact S _ _ gt,by rw[qh nxe];exact S _ _ ge,⟨ws,by rw[qh nxD];exact hD,?_⟩,fun t m=>(hL.tt t m).im (hL.tg t m) im,hL.tg,hL.tn,fun e m=>?_,fun e m=>hL.sp e (List.mem_filter.mp m).1,fun e m=>hL.pls e (List.mem_filter.mp m).1,hL.ne,hL.ndt,?_⟩
   · refine⟨tw.1,fun j z y e1 e2=>?_⟩;obtain⟨t,et,ht⟩:=tw.2 j z y e1 e2;exact⟨t,et,by rw[qh (zI ht (S _ _ gx) (by intro z;cases z))];exact ht⟩
   · exact(hL.en e (List.mem_filter.mp m).1).im (hL.sp e (List.mem_filter.mp m).1) im
   · exact List.Nodup.sublist (List.Sublist.map _ List.filter_sublist) hL.nde
theorem qc1 {a:Ad} (T:Txt K mg a):qy P w K mg base CX0 3 a.f_au a.fd_au ["self"] (jU a):=by
 have G_H:=qbh (P:=P) (w:=w) (base:=base) T;refine T.d_au.F.ok sc_Log_copied (fun vs H Q E h=>?_) (fun cdv A outer s H vs Q E hr h=>?_)
 · obtain⟨x,dx,td,ed,bl,ts,es,bs,rfl,hL,kk⟩:=h;rfl
 · obtain⟨x,dx,td,ed,bl,ts,es,bs,rfl,hL,kk⟩:=h;have h_H:Room (1+1) _:=hr.mono (by decide)
   refine⟨_,(qc (qH (i:=1) sc_Log_copied.nd rfl (Or.inl rfl) (qfQ T.M_Log G_H h_H rfl T.g_Log T.d_H.b .nil qo))
     (qc (z9 (pv 1) (zo (r:=qhr) qcr (by rfl) T.n_dict qcs (qa (qK (pv 0) rfl) qb)) rfl)
     (qc (z9 (pv 1) (zo (r:=qhr) qcr (by rfl) T.n_dict qcs (qa (qK (pv 0) rfl) qb)) rfl)
     (qc (z9 (pv 1) (zo (r:=qiU K) zm (by rfl) T.n_list zf (qa (qK (pv 0) rfl) qb)) rfl)
     (qf (qu (pv 1))))))),?_⟩
   try dsimp only [ze,Cx.nox]
   refine fun x1 dx1 f1 f2 ne=>⟨x1,dx1,rfl,qd,fun td1 ed1 bl1 L1 B1 g1 g2 g3 hL1=>⟨rfl,?_⟩⟩
   have S1:Same H L1:=qR f1 f2 B1;obtain⟨zs,hb,tbb⟩:=hL.hb;refine⟨_,rfl,x,_,dx,_,_,rfl,(S1 _ _ hL.hx),T.cl_Log,T.n_Log_tables,rfl,td,_,rfl,.inl (S1 _ _ hL.ht),fun td2 ftd2=>?_⟩;have n1:td2≠x1:=fun e=>by rw[e,hL1.hx]at ftd2;cases ftd2
   refine⟨_,rfl,x1,_,dx1,_,rfl,(by rw[qh n1.symm];exact hL1.hx),T.cl_Log,T.n_Log_tables,(Nat.le_of_ble_eq_true rfl),?_⟩;generalize hM:upd (upd L1 td2 _) x1 _=M1;obtain⟨S2,m1,m2,f3,k2⟩:=qcy S1 f1 ftd2 hL1.hx hM;clear hM;(try unfold qP);(try dsimp only);refine⟨_,rfl,x,_,dx,_,_,rfl,(S2 _ _ hL.hx),T.cl_Log,T.n_Log_entries,rfl,ed,_,rfl,.inl (S2 _ _ hL.he),fun ed2 fed2=>?_⟩;have n2:ed2≠x1:=fun e=>by rw[e,m1]at fed2;cases fed2
   have n3:ed2≠td2:=fun e=>by rw[e,m2]at fed2;cases fed2
   refine⟨_,rfl,x1,_,dx1,_,rfl,(by rw[qh n2.symm];exact m1),T.cl_Log,T.n_Log_entries,(Nat.le_of_ble_eq_true rfl),?_⟩;generalize hM:upd (upd M1 ed2 _) x1 _=M2;obtain⟨S3,m3,m4,f4,k3⟩:=qcy S2 f1 fed2 m1 hM;clear hM;(try unfold qP);(try dsimp only);refine⟨_,rfl,x,_,dx,_,_,rfl,(S3 _ _ hL.hx),T.cl_Log,T.n_Log_bound,rfl,bl,zs,rfl,.inl (SqL.of (S3 _ _ hb)),fun bl2 fbl2=>?_⟩;have n4:bl2≠x1:=fun e=>by rw[e,m3]at fbl2;cases fbl2
   refine⟨_,rfl,x1,_,dx1,_,rfl,(by rw[qh n4.symm];exact m3),T.cl_Log,T.n_Log_bound,(Nat.le_of_ble_eq_true rfl),?_⟩;generalize hM:upd (upd M2 bl2 _) x1 _=M3;obtain⟨S4,m5,m6,f5,k4⟩:=qcy S3 f1 fbl2 m3 hM;clear hM;have im:=Imm.sm S4;refine⟨_,rfl,kk x1 dx1 td2 ed2 bl2 M3 f1 f3 f4 f5 S4 ⟨m5,k4 _ _ (k3 _ _ m2 n1) n1,k4 _ _ m4 n2,⟨zs,m6,TupL.im tbb im⟩,fun t m=>(hL.tt t m).im (hL.tg t m) im,hL.tg,hL.tn,fun e m=>(hL.en e m).im (hL.sp e m) im,hL.sp,hL.pls,n3.symm,hL.ndt,hL.nde⟩⟩
end
inductive qdt (vs:List V) (H:Hp) (Q:VK):Prop
 | mk (c:Int) (p:Addr) (sz:List Int) (h1:vs=[.int c,.ref p]) (h2:H p=some (.lst (sz.map V.int))) (h3:(∀ s∈sz,0 < s∧s < 1073741824)) (h4:sz.length≤100) (h5:∀ (q:Addr) (fs:List Int) (H':Hp),Same H H'->H' q=some (.lst (fs.map V.int))->fs.length=sz.length->(∀ (k:Nat) (f s:Int),fs[k]?=some f->sz[k]?=some s->0≤f∧f < s)->Q (.ref q) H'):qdt vs H Q
def qeN:Sp:=fun vs H Q _=>qdt vs H Q
def PvR (c:Int) (p q:Addr) (sz:List Int) (H:Hp) (i:Nat) (σ:L2.St) (H2:Hp):Prop:=∃ (lf nu:Int) (s5 s6:Option V) (fs:List Int),σ=[some (.int c),some (.ref p),some (.ref q),some (.int lf),some (.int nu),s5,s6]∧Same H H2∧H2 q=some (.lst (fs.map V.int))∧fs.length=i∧(∀ (k:Nat) (f s:Int),fs[k]?=some f->sz[k]?=some s->0≤f∧f < s)∧0≤nu∧nu < 2147483647
theorem qfL {fs sz:List Int}{i:Nat}{f s:Int} (hl:fs.length=i) (hs:sz[i]?=some s) (h:∀ (k:Nat) (f s:Int),fs[k]?=some f->sz[k]?=some s->0≤f∧f < s) (h1:0≤f∧f < s):∀ (k:Nat) (g s:Int),(fs++[f])[k]?=some g->sz[k]?=some s->0≤g∧g < s:=by
 intro k g s' hg hs';by_cases hk:k < fs.length
 · rw[List.getElem?_append_left hk]at hg;exact h k g s' hg hs'
 · rw[List.getElem?_append_right (by omega)]at hg
   have hk2:k=i:=by
     by_cases hz:k - fs.length=0
     · omega
     · rw[List.getElem?_eq_none (by simp;omega)]at hg;cases hg
   subst hk2;rw[hs]at hs';injection hs' with hs';subst hs';rw[hl,Nat.sub_self]at hg
   have:f=g:=by simpa using hg
   subst this;exact h1
def SZ:List Int:=[5,999999000,4,12,4,40,40,40,61,61,61,61,4,40,40,40,61,61,61,61,7,2,8,7,200,12,122,12,7,200,12,122,12,7,200,12,122,12,7,200,12,122,12,7,200,12,122,12,7,200,12,122,12,6,6,8,4920,6,6,8,4920,6,6,8,4920,6,6,8,4920,6,6,8,4920,6,6,8,4920,6,6,8,4920]
structure Dr (H:Hp) (q:Addr) (fs:List Int):Prop where
 hq:H q=some (.lst (fs.map V.int))
 ln:fs.length=81
 bd:∀ (k:Nat) (f s:Int),fs[k]?=some f->SZ[k]?=some s->0≤f∧f < s
theorem Dr.sm {H H':Hp}{q:Addr}{fs:List Int} (h:Dr H q fs) (s:Same H H'):Dr H' q fs:=⟨s _ _ h.hq,h.ln,h.bd⟩
theorem Dr.ix {H:Hp}{q:Addr}{fs:List Int} (h:Dr H q fs) (k:Nat) {s:Int} (hs:SZ[k]?=some s):∃ f,fs[k]?=some f∧atI (fs.map V.int) (k:Int)=some (.int f)∧0≤f∧f < s:=by
 have hk:k < fs.length:=by
   have:=(List.getElem?_eq_some_iff.mp hs).1
   rw[h.ln];exact this
 refine⟨fs[k],List.getElem?_eq_getElem hk,qT (by rw[List.getElem?_map,List.getElem?_eq_getElem hk];rfl),h.bd k _ s (List.getElem?_eq_getElem hk) hs⟩
inductive qaJ (vs:List V) (H:Hp) (Q:VK):Prop
 | mk (c:Int) (h1:vs=[.int c]) (h2:∀ (q:Addr) (fs:List Int) (H':Hp),Same H H'->Dr H' q fs->Q (.ref q) H'):qaJ vs H Q
def qdz:Sp:=fun vs H Q _=>qaJ vs H Q
inductive qb2 (vs:List V) (H:Hp) (Q:VK):Prop
 | mk (q:Addr) (fs:List Int) (h1:vs=[.ref q]) (h2:Dr H q fs) (h3:∀ (b:Int) (H':Hp),Same H H'->0≤b->b≤999999300->Q (.int b) H'):qb2 vs H Q
def qfw:Sp:=fun vs H Q _=>qb2 vs H Q
structure D8 (H:Hp) (p:Addr) (gs:List Int):Prop where
 hp:H p=some (.lst (gs.map V.int))
 ln:gs.length=8
 bd:∀ (k:Nat) (f s:Int),gs[k]?=some f->([4,40,40,40,61,61,61,61]:List Int)[k]?=some s->0≤f∧f < s
theorem D8.ix {H:Hp}{q:Addr}{fs:List Int} (h:D8 H q fs) (k:Nat) {s:Int} (hs:([4,40,40,40,61,61,61,61]:List Int)[k]?=some s):∃ f,fs[k]?=some f∧atI (fs.map V.int) (k:Int)=some (.int f)∧0≤f∧f < s:=by
 have hk:k < fs.length:=by
   have:=(List.getElem?_eq_some_iff.mp hs).1
   rw[h.ln];exact this
 refine⟨fs[k],List.getElem?_eq_getElem hk,qT (by rw[List.getElem?_map,List.getElem?_eq_getElem hk];rfl),h.bd k _ s (List.getElem?_eq_getElem hk) hs⟩
inductive qaA (vs:List V) (H:Hp) (Q:VK):Prop
 | mk (p:Addr) (gs:List Int) (b:Int) (h1:vs=[.ref p,.int b]) (h2:D8 H p gs) (h3:0≤b) (h4:b≤999999300) (h5:∀ (q:Addr) (rows:List (Int×Int)) (H':Hp),H q=none->Same H H'->Rs H' q rows->Good rows->Q (.ref q) H'):qaA vs H Q
def qds:Sp:=fun vs H Q _=>qaA vs H Q
abbrev prT (t:Str×Addr×List (Int×Int)):List V:=[.str t.1,.ref t.2.1]
structure Lt (H:Hp) (d:Addr) (ts:Pls):Prop where
 hd:∃ zs,H d=some (.lst zs)∧TupL prT H zs ts
 rs:∀ t∈ts,Rs H t.2.1 t.2.2
 gd:∀ t∈ts,Good t.2.2
theorem Lt.sm {H H':Hp}{d:Addr}{ts:Pls} (h:Lt H d ts) (s:Same H H'):Lt H' d ts:=by
 obtain⟨zs,h1,h2⟩:=h.hd;exact⟨⟨zs,s _ _ h1,h2.same s⟩,fun t m=>(h.rs t m).same s,h.gd⟩
inductive JC (vs:List V) (H:Hp) (Q:VK):Prop
 | mk (q:Addr) (fs:List Int) (b:Int) (h1:vs=[.ref q,.int b]) (h2:Dr H q fs) (h3:0≤b) (h4:b≤999999300) (h5:∀ (d q1 q2:Addr) (r1 r2:List (Int×Int)) (H':Hp),Same H H'->Lt H' d [("bond",q1,r1),("p",q2,r2)]->Q (.ref d) H'):JC vs H Q
def qbX:Sp:=fun vs H Q _=>JC vs H Q
inductive jW (vs:List V) (H:Hp) (Q:VK):Prop
 | mk (s n g:Int) (h1:vs=[.int s,.int n,.int g]) (h2:0≤n) (h3:-1000000000≤g) (h4:g≤1000000000) (h5:∀ (m:Int) (H':Hp),Same H H'->-2000000000≤m->m≤2000000001->Q (.int m) H'):jW vs H Q
def qaG:Sp:=fun vs H Q _=>jW vs H Q
inductive JI (vs:List V) (H:Hp) (Q:VK):Prop
 | mk (q:Addr) (r:List (Int×Int)) (n b:Int) (h1:vs=[.ref q,.int n,.int b]) (h2:Rs H q r) (h3:(∀ w∈r,0≤w.1∧w.1≤w.2∧w.2≤1000000000)) (h4:0≤n) (h5:n < 100) (h6:0≤b) (h7:b≤999999300) (h8:∀ (m:Int) (H':Hp),Same H H'->0≤m->m≤1000000000->Q (.int m) H'):JI vs H Q
def qbY:Sp:=fun vs H Q _=>JI vs H Q
section
variable {P:Program}{w:World}{K:Frag}{mg:Str->Option Value}{base:Heap}
theorem qhF {a:Ad} (T:Txt K mg a):qy P w K mg base CX0 1 a.f_A a.fd_A ["_law_cell_here","_law_sizes"] qeN:=by
 refine T.d_A.F.ok sc_Lrow (fun vs H Q E h=>?_) (fun cdv A outer s H vs Q E hr h=>?_)
 · obtain⟨c,p,sz,rfl,hp,hs,hl,k⟩:=h;rfl
 · obtain⟨c,p,sz,rfl,hp,hs,hl,k⟩:=h;have hU:=hr.units
   refine⟨_,(qc (qH (i:=2) sc_Lrow.nd rfl (Or.inl rfl) (qM qb))
     (qc (qH (i:=3) sc_Lrow.nd rfl (Or.inl rfl) (qB zG (pv 0) (qB ql6 qe qe)))
     (qc (qH (i:=4) sc_Lrow.nd rfl (Or.inl rfl) (qB zN (pv 0) qe))
     (qc (zw PassesOwn.never rfl (zR rfl T.n_range (qa (qq qY (by rfl) T.n_len qL (qa (pv 1) qb)) qb)) (qt (i:=5) (sc_Lrow.nd) rfl (Or.inl rfl))
       (qf (qU (qz qi9 (pv 3) qe (qJ _))
         (qc (qA (Zi PySem.F.plainAttrs_list PySem.F.slot_list_append PySem.F.type_list_append zg (pv 2) (qa (qB zN (pv 3) (qr (r:=rIx K) qi (pv 1) (pv 5) (fun _ _=>rfl))) qb)))
         (qf (qH (i:=3) sc_Lrow.nd rfl (Or.inl rfl) (qB qhC (pv 3) (qr (r:=rIx K) qi (pv 1) (pv 5) (fun _ _=>rfl))))))
         (qc (qH (i:=4) sc_Lrow.nd rfl (Or.inl rfl) (qB zN (qB Qh (qB Qh (qB QV (pv 4) qe) (qB QV qe (pv 5))) qe) qe))
         (qc (qH (i:=6) sc_Lrow.nd rfl (Or.inl rfl) (qB zN (qB Qh (qB Qh (qB QV (pv 4) (pv 4)) (qB QV qe (pv 5))) qe) qe))
         (qf (qA (Zi PySem.F.plainAttrs_list PySem.F.slot_list_append PySem.F.type_list_append zg (pv 2) (qa (qB zN (pv 6) (qr (r:=rIx K) qi (pv 1) (pv 5) (fun _ _=>rfl))) qb)))))))))
     (qf (qu (pv 2))))))),?_⟩
   try dsimp only [ze,Cx.nox]
   refine⟨Nat.zero_le _,fun q fq=>?_⟩;have npq:p≠q:=qm hp fq;have S0:Same H (upd H q (.lst [])):=Same.new _ fq;have hq:(upd H q (.lst [])) q=some (.lst []):=qd;(try dsimp only);generalize upd H q (.lst [])=G0 at S0 hq ⊢;refine⟨_,rfl,_,_,rfl,rfl,⟨by decide,by decide,by decide⟩,_,_,rfl,rfl,?_⟩;refine⟨_,rfl,_,_,rfl,rfl,(by show (0:Int) < 2147483647;decide),?_⟩;refine⟨_,rfl,_,_,rfl,.inl ⟨_,SqL.of (S0 _ _ hp),rfl⟩,_,rfl,?_,?_,?_⟩
   · omega
   · rw[List.length_map];omega
   rw[List.length_map];refine Qa (D:={ nx:=qmM (qmA 2) { nx:=fun _ H'=>Q .non H',rt:=Q },rt:=Q }) (lo:=0) (PvR c p q sz H) ⟨_,_,_,_,[],rfl,S0,hq,rfl,(fun k f s h=>by simp at h),by omega,by omega⟩ ?_ ?_
   case refine_2 =>
     rintro σ H2 ⟨lf,nu,s5,s6,fs,rfl,S,hf,hlen,hb,_⟩;refine⟨_,rfl,k q fs _ S hf (by omega) hb⟩
   rintro i σ H2 hi ⟨lf,nu,s5,s6,fs,rfl,S,hf,hlen,hb,n0,n1⟩;have hi:i < sz.length:=by omega
   obtain⟨s,hsi⟩:∃ s,sz[i]?=some s:=⟨_,List.getElem?_eq_getElem hi⟩
   have hss:=hs s (List.mem_of_getElem? hsi)
   have hat:atI (sz.map V.int) (0+(i:Int))=some (.int s):=by
     rw[Int.zero_add];exact qT (by rw[List.getElem?_map,hsi];rfl)
   have hp2:=S _ _ hp;have hfl:(fs.map V.int).length < sizeLine:=qw (by rw[List.length_map];omega);(try unfold qP);(try dsimp only);refine⟨_,rfl,_,_,rfl,rfl,_,rfl,?_⟩;refine jE (fun h=>?_) (fun h=>?_)
   · refine⟨_,rfl,.inl ⟨rfl,_,SqL.of hf⟩,_,rfl,_,rfl,_,rfl,.inl ⟨p,_,_,_,rfl,rfl,SqL.of hp2,hat,_,_,rfl,rfl,hss.1,?_⟩⟩;refine⟨q,_,_,rfl,rfl,hf,hfl,?_⟩;refine⟨_,rfl,_,rfl,_,rfl,.inl ⟨p,_,_,_,rfl,rfl,SqL.of (by rw[qh npq];exact hp2),hat,_,_,rfl,rfl,hss,?_⟩⟩;exact⟨_,nu,_,_,fs++[lf % s],rfl,(fun b o z=>by rw[qh (qm z fq)];exact S b o z),by rw[qd,List.map_append];rfl,by rw[List.length_append,hlen];rfl,qfL hlen hsi hb ⟨Int.emod_nonneg _ (by omega),Int.emod_lt_of_pos _ hss.1⟩,n0,n1⟩
   · refine⟨_,rfl,_,_,rfl,rfl,.inr ⟨by decide,by decide⟩,_,rfl,_,_,rfl,rfl,.inl ⟨by decide,by decide⟩,.inl ⟨_,_,rfl,rfl,.inl ⟨_,_,rfl,rfl,_,_,rfl,rfl,(by show (0:Int) < 2147483647;decide),?_⟩⟩⟩;have m0:0≤(nu * 48271+7919 * (0+(i:Int))+12345) % 2147483647∧(nu * 48271+7919 * (0+(i:Int))+12345) % 2147483647 < 2147483647:=by omega
     try dsimp only
     generalize (nu * 48271+7919 * (0+(i:Int))+12345) % 2147483647=nn at m0 ⊢;refine⟨_,rfl,_,rfl,_,_,rfl,rfl,.inl ⟨by omega,by omega⟩,_,rfl,_,_,rfl,rfl,.inl ⟨by decide,by decide⟩,.inl ⟨_,_,rfl,rfl,.inl ⟨_,_,rfl,rfl,_,_,rfl,rfl,(by show (0:Int) < 2147483629;decide),?_⟩⟩⟩;(try dsimp only);generalize (nn * nn+69621 * (0+(i:Int))+271) % 2147483629=ot;refine⟨_,rfl,.inl ⟨rfl,_,SqL.of hf⟩,_,rfl,_,rfl,_,rfl,.inl ⟨p,_,_,_,rfl,rfl,SqL.of hp2,hat,_,_,rfl,rfl,hss.1,?_⟩⟩;refine⟨q,_,_,rfl,rfl,hf,hfl,?_⟩;exact⟨lf,nn,_,_,fs++[ot % s],rfl,(fun b o z=>by rw[qh (qm z fq)];exact S b o z),by rw[qd,List.map_append];rfl,by rw[List.length_append,hlen];rfl,qfL hlen hsi hb ⟨Int.emod_nonneg _ (by omega),Int.emod_lt_of_pos _ hss.1⟩,m0.1,m0.2⟩
theorem qjb {a:Ad} (T:Txt K mg a):qy P w K mg base CX0 1 a.f_K a.fd_K ["_law_script","_law_k"] (qfv K):=by
 refine T.d_K.F.ok qiS (fun vs H Q E h=>?_) (fun cdv A outer s H vs Q E hr h=>?_)
 · obtain⟨sa,ns,k,rfl,hS,k0,kk⟩:=h;rfl
 · obtain⟨sa,ns,k,rfl,hS,k0,kk⟩:=h;have hU:=hr.units
   refine⟨_,(qc (qU (qz (qfT hU) (pv 0) (qM qb) (qJ _))
       (qf (qu qe))
       qx)
     (qf (qu (qr (r:=rIx K) qi (pv 0) (qB zN (pv 1) (qq qY (by rfl) T.n_len qL (qa (pv 0) qb))) (fun _ _=>rfl))))),?_⟩
   try dsimp only [ze,Cx.nox]
   refine⟨_,rfl,qj (Nat.le_of_ble_eq_true rfl),fun l0 fl0=>?_⟩;have S0:=Same.new (.lst []) fl0;have hS0:=S0.seq hS;refine⟨sa,l0,_,rfl,rfl,hS0,SqL.of qd,_,rfl,?_⟩
   cases ns with
   | nil=>exact qgF (kk _ _ S0)
   | cons n0 nr =>
     refine qgR ?_;have pos:(0:Int) < (((n0::nr).map V.int).length:Int):=by rw[List.length_map];show (0:Int) < ((nr.length+1:Nat):Int);omega
     have h1:=Int.emod_nonneg k (show (((n0::nr).map V.int).length:Int)≠0 by omega);have h2:=Int.emod_lt_of_pos k pos;obtain⟨v,hv,mv⟩:=qll (xs:=(n0::nr).map V.int) (i:=k % (((n0::nr).map V.int).length:Int)) h1 h2
     obtain⟨n,rfl⟩:∃ n,v=.int n:=by
       obtain⟨n,_,e⟩:=List.mem_map.mp mv;exact⟨n,e.symm⟩
     exact⟨_,rfl,_,rfl,_,rfl,_,_,rfl,.inl ⟨_,hS0,rfl⟩,_,_,rfl,rfl,pos,.inl ⟨sa,_,_,_,rfl,rfl,hS0,hv,kk _ _ S0⟩⟩
theorem qhK {a:Ad} (T:Txt K mg a):qy P w K mg base CX0 2 a.f_5 a.fd_5 ["_law_cell_here"] qdz:=by
 have G_A:=qhF (P:=P) (w:=w) (base:=base) T;refine T.d_5.F.ok sc_Ldraws (fun vs H Q E h=>?_) (fun cdv A outer s H vs Q E hr h=>?_)
 · obtain⟨c,rfl,kk⟩:=h;rfl
 · obtain⟨c,rfl,kk⟩:=h;have h_A:Room (1) _:=hr.mono (by decide)
   refine⟨_,(qc (qH (i:=1) sc_Ldraws.nd rfl (Or.inl rfl) (qB Qh (qM (qa qe (qa qe (qa qe (qa qe qb))))) (qB qfS (qM (qa qe (qa qe (qa qe (qa qe (qa qe (qa qe (qa qe (qa qe qb))))))))) qe)))
     (qf (qu (qp G_A h_A rfl T.d_A.m T.d_A.k T.d_A.b .nil qo (qa (pv 0) (qa (qB Qh (qB Qh (qB Qh (pv 1) (qM (qa qe (qa qe (qa qe qb))))) (qB qfS (qM (qa qe (qa qe (qa qe (qa qe (qa qe qb)))))) qe)) (qB qfS (qM (qa qe (qa qe (qa qe (qa qe qb))))) qe)) qb)))))),?_⟩
   try dsimp only [ze,Cx.nox]
   refine⟨qj (Nat.le_of_ble_eq_true rfl),fun l1 f1=>?_⟩;generalize hG:upd H l1 _=H1;obtain⟨S1,e1⟩:=qk hG f1;clear hG;refine⟨qj (Nat.le_of_ble_eq_true rfl),fun l2 f2=>?_⟩;generalize hG:upd H1 l2 _=H2;obtain⟨S2,e2⟩:=qk hG f2;clear hG;refine⟨l2,_,_,rfl,rfl,e2,by decide,by decide,Nat.le_of_lt (qw (Nat.le_of_ble_eq_true rfl)),fun l3 f3=>?_⟩;generalize hG:upd H2 l3 _=H3;obtain⟨S3,e3⟩:=qk hG f3;clear hG;refine .inr (.inl ⟨l1,l3,_,_,rfl,rfl,S3 _ _ (S2 _ _ e1),e3,qj (Nat.le_of_ble_eq_true rfl),fun l4 f4=>?_⟩);generalize hG:upd H3 l4 _=H4;obtain⟨S4,e4⟩:=qk hG f4;clear hG;(try unfold qP);(try dsimp only);have T4:=((S1.trans S2).trans S3).trans S4;refine⟨_,rfl,_,rfl,qj (Nat.le_of_ble_eq_true rfl),fun l5 f5=>?_⟩;generalize hG:upd H4 l5 _=H5;obtain⟨S5,e5⟩:=qk hG f5;clear hG;refine .inr (.inl ⟨l4,l5,_,_,rfl,rfl,S5 _ _ e4,e5,qj (Nat.le_of_ble_eq_true rfl),fun l6 f6=>?_⟩);generalize hG:upd H5 l6 _=H6;obtain⟨S6,e6⟩:=qk hG f6;clear hG;refine⟨qj (Nat.le_of_ble_eq_true rfl),fun l7 f7=>?_⟩;generalize hG:upd H6 l7 _=H7;obtain⟨S7,e7⟩:=qk hG f7;clear hG;refine⟨l7,_,_,rfl,rfl,e7,by decide,by decide,Nat.le_of_lt (qw (Nat.le_of_ble_eq_true rfl)),fun l8 f8=>?_⟩;generalize hG:upd H7 l8 _=H8;obtain⟨S8,e8⟩:=qk hG f8;clear hG;refine .inr (.inl ⟨l6,l8,_,_,rfl,rfl,S8 _ _ (S7 _ _ e6),e8,qj (Nat.le_of_ble_eq_true rfl),fun l9 f9=>?_⟩);generalize hG:upd H8 l9 _=H9;obtain⟨S9,e9⟩:=qk hG f9;clear hG;refine⟨qj (Nat.le_of_ble_eq_true rfl),fun la fa=>?_⟩;generalize hG:upd H9 la _=Ha;obtain⟨Sa,ea⟩:=qk hG fa;clear hG;refine⟨la,_,_,rfl,rfl,ea,by decide,by decide,Nat.le_of_lt (qw (Nat.le_of_ble_eq_true rfl)),fun lb fb=>?_⟩;generalize hG:upd Ha lb _=Hb;obtain⟨Sb,eb⟩:=qk hG fb;clear hG;refine .inr (.inl ⟨l9,lb,_,_,rfl,rfl,Sb _ _ (Sa _ _ e9),eb,qj (Nat.le_of_ble_eq_true rfl),fun lc fc=>?_⟩);generalize hG:upd Hb lc _=Hc;obtain⟨Sc,ec⟩:=qk hG fc;clear hG;have Tc:=(((((((T4.trans S5).trans S6).trans S7).trans S8).trans S9).trans Sa).trans Sb).trans Sc;refine⟨c,lc,SZ,rfl,ec,?_,by decide,fun q fs H' S' hq ln bd=>kk q fs H' (Tc.trans S') ⟨hq,ln,bd⟩⟩;decide
theorem qjc {a:Ad} (T:Txt K mg a):qy P w K mg base CX0 1 a.f_6 a.fd_6 ["_law_xs"] qfw:=by
 refine T.d_6.F.ok qiT (fun vs H Q E h=>?_) (fun cdv A outer s H vs Q E hr h=>?_)
 · obtain⟨q,fs,rfl,dr,kk⟩:=h;rfl
 · obtain⟨q,fs,rfl,dr,kk⟩:=h;refine⟨_,(qf (qu (qr (r:=rIx K) qi (qM (qa qe (qa qe (qa qe (qa qe (qa (qr (r:=rIx K) qi (pv 0) qe (fun _ _=>rfl)) qb)))))) (qr (r:=rIx K) qi (pv 0) qe (fun _ _=>rfl)) (fun _ _=>rfl)))),?_⟩;(try dsimp only [ze,Cx.nox]);obtain⟨x1,_,a1,x10,x11⟩:=dr.ix 1 (s:=999999000) rfl;obtain⟨x0,_,a0,x00,x01⟩:=dr.ix 0 (s:=5) rfl;refine⟨_,rfl,.inl ⟨q,_,_,_,rfl,rfl,SqL.of dr.hq,a1,qj (Nat.le_of_ble_eq_true rfl),fun l fl=>?_⟩⟩;generalize hG:upd H l _=H1;obtain⟨S1,e1⟩:=qk hG fl;clear hG;refine⟨_,rfl,.inl ⟨q,_,_,_,rfl,rfl,SqL.of (S1 _ _ dr.hq),a0,?_⟩⟩
   obtain⟨b,hb,b0,b1⟩:∃ b:Int,atI [V.int 0,V.int 100,V.int 999999300,V.int 500000,V.int x1] x0=some (.int b)∧0≤b∧b≤999999300:=by
     obtain rfl|rfl|rfl|rfl|rfl:x0=0∨x0=1∨x0=2∨x0=3∨x0=4:=by omega
     · exact⟨_,rfl,by omega,by omega⟩
     · exact⟨_,rfl,by omega,by omega⟩
     · exact⟨_,rfl,by omega,by omega⟩
     · exact⟨_,rfl,by omega,by omega⟩
     · exact⟨_,rfl,by omega,by omega⟩
   exact .inl ⟨l,_,_,_,rfl,rfl,SqL.of e1,hb,kk b H1 S1 b0 b1⟩
theorem qe0 {a:Ad} (T:Txt K mg a):qy P w K mg base CX0 1 a.f_ab a.fd_ab ["_law_style","_law_number","_law_gap"] qaG:=by
 refine T.d_ab.F.ok qeU (fun vs H Q E h=>?_) (fun cdv A outer s H vs Q E hr h=>?_)
 · obtain⟨s,n,g,rfl,n0,g0,g1,kk⟩:=h;rfl
 · obtain⟨s,n,g,rfl,n0,g0,g1,kk⟩:=h;have hU:=hr.units
   refine⟨_,(qc (qU (qz qhA (pv 0) qe (qJ _))
       (qf (qu (qB zG (pv 2) (qB zN (pv 1) qe))))
       qx)
     (qc (qU (qz qhA (pv 0) qe (qJ _))
       (qf (qu (pv 2)))
       qx)
     (qc (qU (qz (uEq hU) (pv 0) qe (qJ _))
       (qf (qu (qB zG (qB zN (pv 1) qe) qe)))
       qx)
     (qf (qu (qr (r:=rIx K) qi (qM (qa (jB Qm qe) (qa qe (qa qe (qa (jB Qm qe) (qa qe (qa qe qb))))))) (qB zN (pv 1) qe) (fun _ _=>rfl))))))),?_⟩
   try dsimp only [ze,Cx.nox]
   have m20:=Int.emod_nonneg n (show (20:Int)≠0 by decide);have m21:=Int.emod_lt_of_pos n (show (0:Int) < 20 by decide);have m41:=Int.emod_nonneg n (show (41:Int)≠0 by decide);have m42:=Int.emod_lt_of_pos n (show (0:Int) < 41 by decide);have m61:=Int.emod_nonneg n (show (6:Int)≠0 by decide);have m62:=Int.emod_lt_of_pos n (show (0:Int) < 6 by decide);refine⟨_,rfl,_,_,rfl,rfl,_,rfl,jE (fun h=>?_) (fun h=>?_)⟩
   · exact⟨_,rfl,_,rfl,_,_,rfl,rfl,(by show (0:Int) < _;decide),_,_,rfl,rfl,kk _ H (Same.refl H) (by omega) (by omega)⟩
   refine⟨_,rfl,_,_,rfl,rfl,_,rfl,jE (fun h2=>?_) (fun h2=>?_)⟩
   · exact⟨_,rfl,kk _ H (Same.refl H) (by omega) (by omega)⟩
   refine⟨_,rfl,.inl ⟨rfl,_,rfl,jE (fun h3=>?_) (fun h3=>?_)⟩⟩
   · exact⟨_,rfl,_,_,rfl,rfl,(by show (0:Int) < _;decide),_,_,rfl,rfl,kk _ H (Same.refl H) (by omega) (by omega)⟩
   refine⟨_,rfl,_,rfl,qj (Nat.le_of_ble_eq_true rfl),fun l fl=>?_⟩;generalize hG:upd H l _=H1;obtain⟨S1,e1⟩:=qk hG fl;clear hG;refine⟨_,rfl,_,_,rfl,rfl,(by show (0:Int) < _;decide),?_⟩
   obtain⟨b,hb,b0,b1⟩:∃ b:Int,atI [V.int (-2000000000),V.int 2000000001,V.int 1000000000,V.int (-1000000000),V.int 0,V.int 1] (n % 6)=some (.int b)∧-2000000000≤b∧b≤2000000001:=by
     generalize n % 6=k at m61 m62;obtain rfl|rfl|rfl|rfl|rfl|rfl:k=0∨k=1∨k=2∨k=3∨k=4∨k=5:=by omega
     · exact⟨_,rfl,by omega,by omega⟩
     · exact⟨_,rfl,by omega,by omega⟩
     · exact⟨_,rfl,by omega,by omega⟩
     · exact⟨_,rfl,by omega,by omega⟩
     · exact⟨_,rfl,by omega,by omega⟩
     · exact⟨_,rfl,by omega,by omega⟩
   exact .inl ⟨l,_,_,_,rfl,rfl,SqL.of e1,hb,kk b H1 S1 b0 b1⟩
theorem qgv {a:Ad} (T:Txt K mg a):qy P w K mg base CX0 1 a.f_aa a.fd_aa ["_law_spans","_law_number","_law_base_here"] qbY:=by
 refine T.d_aa.F.ok sc_Lmoment (fun vs H Q E h=>?_) (fun cdv A outer s H vs Q E hr h=>?_)
 · obtain⟨q,r,n,b,rfl,⟨zs,hq,tz⟩,bd,n0,n1,b0,b1,kk⟩:=h;rfl
 · obtain⟨q,r,n,b,rfl,⟨zs,hq,tz⟩,bd,n0,n1,b0,b1,kk⟩:=h;have hu:=qI hr;have hU:=hr.units
   refine⟨_,(qc (qU (qz (qfT hU) (pv 0) (qM qb) (qJ _))
       (qf (qu (pv 2)))
       qx)
     (qc (qce (qr (r:=rIx K) qi (pv 0) (qB zN (pv 1) (qq qY (by rfl) T.n_len qL (qa (pv 0) qb))) (fun _ _=>rfl)) (zS rfl (qC (qt (i:=3) (sc_Lmoment.nd) rfl (Or.inl rfl)) (qC (qt (i:=4) (sc_Lmoment.nd) rfl (Or.inl rfl)) zx))))
     (qc (qU (qz qhB (qB zG (pv 4) (pv 3)) qe (qJ _))
       (qf (qu (qB Qh (pv 2) (pv 1))))
       qx)
     (qf (qu (qB Qh (pv 3) (qB zN (pv 1) (qB Qh (qB zG (pv 4) (pv 3)) qe)))))))),?_⟩
   try dsimp only [ze,Cx.nox]
   have lz:zs.length=r.length:=tz.1;refine⟨_,rfl,qj (Nat.le_of_ble_eq_true rfl),fun l fl=>?_⟩;generalize hG:upd H l _=H1;obtain⟨S1,e1⟩:=qk hG fl;clear hG;refine⟨q,l,_,rfl,rfl,SqL.of (S1 _ _ hq),SqL.of e1,_,rfl,qm2 (fun g=>?_) (fun g=>?_)⟩
   · exact⟨_,rfl,kk _ H1 S1 b0 (by omega)⟩
   have l0:0 < zs.length:=by
     cases hz:zs with
     | nil=>rw[hz]at g;cases g
     | cons _ _=>simp
   have h1:=Int.emod_nonneg n (show ((zs.length:Nat):Int)≠0 by omega);have h2:=Int.emod_lt_of_pos n (show (0:Int) < (zs.length:Int) by omega);obtain⟨j,hj⟩:=Int.eq_ofNat_of_zero_le h1;have hjl:j < r.length:=by omega
   obtain⟨u,hu,hu'⟩:=tz.at_ (List.getElem?_eq_getElem hjl);have w0:=bd _ (List.getElem_mem hjl);generalize r[j]=w at hu' w0;(try unfold qP);(try dsimp only);refine⟨_,rfl,_,rfl,_,rfl,_,_,rfl,.inl ⟨_,SqL.of (S1 _ _ hq),rfl⟩,_,_,rfl,rfl,(by omega),.inl ⟨q,_,_,_,rfl,rfl,SqL.of (S1 _ _ hq),(by rw[hj];exact qT hu),?_⟩⟩;refine⟨u,_,rfl,SqT.of (S1 _ _ hu'),rfl,_,_,rfl,_,_,rfl,rfl,?_⟩;refine⟨_,rfl,_,rfl,_,_,rfl,rfl,_,_,rfl,rfl,_,rfl,jE (fun g2=>?_) (fun g2=>?_)⟩
   · exact⟨_,rfl,_,rfl,.inl ⟨_,_,rfl,rfl,kk _ H1 S1 (by omega) (by omega)⟩⟩
   have p1:(0:Int) < w.2 - w.1+1:=by omega
   have h3:=Int.emod_nonneg n (show w.2 - w.1+1≠0 by omega);have h4:=Int.emod_lt_of_pos n p1;exact⟨_,rfl,_,rfl,_,rfl,_,rfl,_,_,rfl,rfl,.inl ⟨_,_,rfl,rfl,_,_,rfl,rfl,p1,.inl ⟨_,_,rfl,rfl,kk _ H1 S1 (by omega) (by omega)⟩⟩⟩
end
structure Rg (b:Int) (j:Nat) (rows:List (Int×Int)) (mo:Int):Prop where
 ln:rows.length=j+1
 fst:∃ n,rows.head?=some (0,n)
 asc:Asc rows
 ok:∀ r∈rows,0≤r.1∧r.1≤mo∧-2880≤r.2∧r.2≤2880
 m0:0≤mo
 m1:mo≤b+40 * (j:Int)
theorem Rg.put {b:Int}{j:Nat}{rows:List (Int×Int)}{mo x y:Int} (h:Rg b j rows mo) (x0:0≤x) (x1:x < 40) (y0:-2880≤y) (y1:y≤2880):Rg b (j+1) (rows++[(mo+1+x,y)]) (mo+1+x):=by
 obtain⟨n,hn⟩:=h.fst
 have:=h.m0
 have:=h.m1
 refine⟨by rw[List.length_append,h.ln];rfl,⟨n,by rw[List.head?_append,hn];rfl⟩,List.pairwise_append.mpr ⟨h.asc,List.pairwise_singleton _ _,fun u mu v mv=>?_⟩,fun r m=>?_,by omega,by omega⟩
 · rw[List.mem_singleton.mp mv];show u.1 < mo+1+x
   have:=h.ok u mu
   omega
 · rcases List.mem_append.mp m with m|m
   · have:=h.ok r m
     omega
   · rw[List.mem_singleton.mp m];exact⟨by show (0:Int)≤mo+1+x;omega,by show mo+1+x≤mo+1+x;omega,y0,y1⟩
theorem Rg.good {b:Int}{j:Nat}{rows:List (Int×Int)}{mo:Int} (h:Rg b j rows mo) (hj:j≤20) (hb:b+40 * (j:Int)≤1000000000):Good rows :=
 ⟨by rw[h.ln];omega,h.fst,h.asc,fun r m=>by have:=h.ok r m;have:=h.m1;omega⟩
theorem qfg (zs:List V) (m n:Nat) (h:n≤zs.length) (h':m≤n):qew zs (some (m:Int)) (some (n:Int))=(zs.drop m).take (n - m):=by
 unfold qew;rw[HT.sIx_nat,HT.sIx_nat,Nat.min_eq_left h,Nat.min_eq_left (Nat.le_trans h' h)]
theorem qny {fs:List Int}{i:Nat}:((fs.map V.int).drop i).take 8=((fs.drop i).take 8).map V.int:=by rw[List.map_take,List.map_drop]
theorem Dr.cut {H H':Hp}{q p:Addr}{fs:List Int} (d:Dr H q fs) (i:Nat) (hi:i+8≤fs.length) (hs:∀ (k:Nat) (s:Int),([4,40,40,40,61,61,61,61]:List Int)[k]?=some s->SZ[i+k]?=some s) (hp:H' p=some (.lst (((fs.drop i).take 8).map V.int))):D8 H' p ((fs.drop i).take 8):=by
 refine⟨hp,by rw[List.length_take,List.length_drop];omega,fun k f s e1 e2=>?_⟩;have hk:k < 8:=(List.getElem?_eq_some_iff.mp e2).1;rw[List.getElem?_take_of_lt hk,List.getElem?_drop]at e1;exact d.bd (i+k) f s e1 (hs k s e2)
section
variable {P:Program}{w:World}{K:Frag}{mg:Str->Option Value}{base:Heap}
theorem qhE {a:Ad} (T:Txt K mg a):qy P w K mg base CX0 1 a.f_L a.fd_L ["_law_xs","_law_base_here"] qds:=by
 refine T.d_L.F.ok sc_Ltable (fun vs H Q E h=>?_) (fun cdv A outer s H vs Q E hr h=>?_)
 · obtain⟨p,gs,b,rfl,d8,b0,b1,kk⟩:=h;rfl
 · obtain⟨p,gs,b,rfl,d8,b0,b1,kk⟩:=h;have hU:=hr.units
   refine⟨_,(qc (qH (i:=2) sc_Ltable.nd rfl (Or.inl rfl) (qM (qa (qZ (qa qe (qa (qB zG (qr (r:=rIx K) qi (pv 0) qe (fun _ _=>rfl)) qe) qb))) qb)))
     (qc (qH (i:=3) sc_Ltable.nd rfl (Or.inl rfl) (pv 1))
     (qc (zw PassesOwn.never rfl (zR rfl T.n_range (qa (qr (r:=rIx K) qi (pv 0) qe (fun _ _=>rfl)) qb)) (qt (i:=4) (sc_Ltable.nd) rfl (Or.inl rfl))
       (qc (qH (i:=3) sc_Ltable.nd rfl (Or.inl rfl) (qB Qh (qB Qh (pv 3) qe) (qr (r:=rIx K) qi (pv 0) (qB Qh qe (pv 4)) (fun _ _=>rfl))))
       (qf (qA (Zi PySem.F.plainAttrs_list PySem.F.slot_list_append PySem.F.type_list_append zg (pv 2) (qa (qZ (qa (pv 3) (qa (qB zG (qr (r:=rIx K) qi (pv 0) (qB Qh qe (pv 4)) (fun _ _=>rfl)) qe) qb))) qb))))))
     (qf (qu (pv 2)))))),?_⟩
   try dsimp only [ze,Cx.nox]
   obtain⟨x0,_,a0,x00,x01⟩:=d8.ix 0 (s:=4) rfl;obtain⟨x4,_,a4,x40,x41⟩:=d8.ix 4 (s:=61) rfl;refine⟨_,rfl,.inl ⟨p,_,_,_,rfl,rfl,SqL.of d8.hp,a4,_,_,rfl,rfl,qj (Nat.le_of_ble_eq_true rfl),fun t ft=>?_⟩⟩;generalize hG:upd H t _=H1;obtain⟨S1,e1⟩:=qk hG ft;clear hG;refine⟨qj (Nat.le_of_ble_eq_true rfl),fun d fd=>?_⟩;generalize hG:upd H1 d _=H2;obtain⟨S2,e2⟩:=qk hG fd;clear hG;have S0:=S1.trans S2;have fdH:=S1.none fd;have R0:Rs H2 d [(0,x4 - 30)]:=qbc (w:=(0,x4 - 30)) (S2 _ _ e1) e2;(try unfold qP);(try dsimp only);refine⟨_,rfl,?_⟩;(try unfold qP);(try dsimp only);refine qO (t:=qbG _ _ _) (fun σ' H'=>∃ (mo:Int) (s4:Option V) (rows:List (Int×Int)),σ'=[some (.ref p),some (.int b),some (.ref d),some (.int mo),s4]∧Same H H'∧Rs H' d rows∧Good rows) (fun N hN=>?_) ?_
   · refine⟨_,rfl,.inl ⟨p,_,_,_,rfl,rfl,SqL.of (S0 _ _ d8.hp),a0,_,rfl,by omega,by omega,Qa (lo:=0) (D:={ nx:=N,rt:=Q }) (fun j σ H'=>∃ (mo:Int) (s4:Option V) (rows:List (Int×Int)),σ=[some (.ref p),some (.int b),some (.ref d),some (.int mo),s4]∧Same H H'∧Rs H' d rows∧Rg b j rows mo) ⟨_,_,_,rfl,S0,R0,⟨rfl,⟨_,rfl⟩,List.pairwise_singleton _ _,fun r m=>?_,b0,by omega⟩⟩ ?_ ?_⟩⟩
     · rw[List.mem_singleton.mp m];exact⟨Int.le_refl _,b0,by show -2880≤x4 - 30;omega,by show x4 - 30≤2880;omega⟩
     · rintro j σ H3 hj ⟨mo,s4,rows,rfl,S3,⟨zs,hd,tz⟩,rg⟩;have lz:zs.length=rows.length:=tz.1;have lr:=rg.ln;have hj3:j < 3:=by omega
       obtain⟨y,_,ay,y0,y1⟩:∃ f,gs[1+j]?=some f∧atI (gs.map V.int) ((1+j:Nat):Int)=some (.int f)∧0≤f∧f < 40:=by
         obtain rfl|rfl|rfl:j=0∨j=1∨j=2:=by omega
         · exact d8.ix 1 rfl
         · exact d8.ix 2 rfl
         · exact d8.ix 3 rfl
       obtain⟨z,_,az,z0,z1⟩:∃ f,gs[5+j]?=some f∧atI (gs.map V.int) ((5+j:Nat):Int)=some (.int f)∧0≤f∧f < 61:=by
         obtain rfl|rfl|rfl:j=0∨j=1∨j=2:=by omega
         · exact d8.ix 5 rfl
         · exact d8.ix 6 rfl
         · exact d8.ix 7 rfl
       have ey:(1:Int)+(0+(j:Int))=((1+j:Nat):Int):=by omega
       have ez:(5:Int)+(0+(j:Int))=((5+j:Nat):Int):=by omega
       refine⟨_,rfl,.inl ⟨_,_,rfl,rfl,_,rfl,_,rfl,.inl ⟨_,_,rfl,rfl,.inl ⟨p,_,_,_,rfl,rfl,SqL.of (S3 _ _ d8.hp),(by rw[ey];exact ay),.inl ⟨_,_,rfl,rfl,?_⟩⟩⟩⟩⟩;(try unfold qP);(try dsimp only);refine⟨_,rfl,.inl ⟨rfl,_,SqL.of hd⟩,_,rfl,_,rfl,_,rfl,.inl ⟨_,_,rfl,rfl,.inl ⟨p,_,_,_,rfl,rfl,SqL.of (S3 _ _ d8.hp),(by rw[ez];exact az),_,_,rfl,rfl,qj (Nat.le_of_ble_eq_true rfl),fun u fu=>?_⟩⟩⟩;generalize hG:upd H3 u _=H4;obtain⟨S4,e4⟩:=qk hG fu;clear hG;refine⟨d,_,_,rfl,rfl,S4 _ _ hd,qw (by omega),?_⟩;refine⟨_,_,_,rfl,(S3.trans S4).put fdH _,⟨_,qd,((tz.same S4).snoc (p:=(mo+1+y,z - 30)) e4).put (S4 _ _ hd)⟩,rg.put y0 y1 (by omega) (by omega)⟩
     · rintro σ H3 ⟨mo,s4,rows,rfl,S3,R3,rg⟩;exact hN _ _ ⟨_,_,rows,rfl,S3,R3,rg.good (by omega) (by omega)⟩
   rintro _ H3 ⟨mo,s4,rows,rfl,S3,R3,g⟩;exact⟨_,rfl,kk d rows H3 fdH S3 R3 g⟩
theorem qgu {a:Ad} (T:Txt K mg a):qy P w K mg base CX0 2 a.f_7 a.fd_7 ["_law_xs","_law_base_here"] qbX:=by
 have G_L:=qhE (P:=P) (w:=w) (base:=base) T;refine T.d_7.F.ok qgm (fun vs H Q E h=>?_) (fun cdv A outer s H vs Q E hr h=>?_)
 · obtain⟨q,fs,b,rfl,dr,b0,b1,kk⟩:=h;rfl
 · obtain⟨q,fs,b,rfl,dr,b0,b1,kk⟩:=h;have h_L:Room (1) _:=hr.mono (by decide);refine⟨_,(qf (qu (qM (qa (qZ (qa q9 (qa (qp G_L h_L rfl T.d_L.m T.d_L.k T.d_L.b .nil qo (qa (z3 uSl (pv 0) (zK qe) (zK qe)) (qa (pv 1) qb))) qb))) (qa (qZ (qa q9 (qa (qp G_L h_L rfl T.d_L.m T.d_L.k T.d_L.b .nil qo (qa (z3 uSl (pv 0) (zK qe) (zK qe)) (qa (pv 1) qb))) qb))) qb))))),?_⟩;(try dsimp only [ze,Cx.nox]);refine⟨_,rfl,_,rfl,_,rfl,.inl ⟨q,_,rfl,SqL.of dr.hq,fun l1 f1=>?_⟩⟩;have c1:qew (fs.map V.int) (some 4) (some 12)=((fs.drop 4).take 8).map V.int:=(qfg _ 4 12 (by rw[List.length_map,dr.ln];decide) (by decide)).trans qny;rw[c1];generalize hG:upd H l1 _=H1;obtain⟨S1,e1⟩:=qk hG f1;clear hG;refine⟨_,rfl,l1,_,b,rfl,dr.cut 4 (by rw[dr.ln];decide) (fun k s h=>?_) e1,b0,b1,fun q1 r1 H2 fq1 S2 R1 g1=>⟨qj (Nat.le_of_ble_eq_true rfl),fun t1 ft1=>?_⟩⟩
   · have hk:=(List.getElem?_eq_some_iff.mp h).1;have hk8:k < 8:=hk;obtain rfl|rfl|rfl|rfl|rfl|rfl|rfl|rfl:k=0∨k=1∨k=2∨k=3∨k=4∨k=5∨k=6∨k=7:=by omega
     all_goals (rw[← h];rfl)
   generalize hG:upd H2 t1 _=H3;obtain⟨S3,e3⟩:=qk hG ft1;clear hG;have T3:=(S1.trans S2).trans S3;refine⟨_,rfl,_,rfl,_,rfl,.inl ⟨q,_,rfl,SqL.of (T3 _ _ dr.hq),fun l2 f2=>?_⟩⟩;have c2:qew (fs.map V.int) (some 12) (some 20)=((fs.drop 12).take 8).map V.int:=(qfg _ 12 20 (by rw[List.length_map,dr.ln];decide) (by decide)).trans qny;rw[c2];generalize hG:upd H3 l2 _=H4;obtain⟨S4,e4⟩:=qk hG f2;clear hG;refine⟨_,rfl,l2,_,b,rfl,dr.cut 12 (by rw[dr.ln];decide) (fun k s h=>?_) e4,b0,b1,fun q2 r2 H5 fq2 S5 R2 g2=>⟨qj (Nat.le_of_ble_eq_true rfl),fun t2 ft2=>?_⟩⟩
   · have hk:=(List.getElem?_eq_some_iff.mp h).1;have hk8:k < 8:=hk;obtain rfl|rfl|rfl|rfl|rfl|rfl|rfl|rfl:k=0∨k=1∨k=2∨k=3∨k=4∨k=5∨k=6∨k=7:=by omega
     all_goals (rw[← h];rfl)
   generalize hG:upd H5 t2 _=H6;obtain⟨S6,e6⟩:=qk hG ft2;clear hG;refine⟨qj (Nat.le_of_ble_eq_true rfl),fun d fd=>?_⟩;generalize hG:upd H6 d _=H7;obtain⟨S7,e7⟩:=qk hG fd;clear hG;have T37:=((S4.trans S5).trans S6).trans S7;have T67:=S6.trans S7;refine kk d q1 q2 r1 r2 H7 (T3.trans T37) ⟨⟨_,e7,rfl,fun j z y h1 h2=>?_⟩,fun t m=>?_,fun t m=>?_⟩
   · cases j with
     | zero=>cases h1;cases h2;exact⟨t1,rfl,T37 _ _ e3⟩
     | succ j =>
       cases j with
       | zero=>cases h1;cases h2;exact⟨t2,rfl,S7 _ _ e6⟩
       | succ j=>cases h1
   · simp only[List.mem_cons,List.not_mem_nil,or_false]at m;rcases m with rfl|rfl
     · exact R1.same (S3.trans T37)
     · exact R2.same T67
   · simp only[List.mem_cons,List.not_mem_nil,or_false]at m;rcases m with rfl|rfl
     · exact g1
     · exact g2
end
def nb (y:V):Prop:=(∃ i,y=.int i)∨∃ s,y=.str s
theorem shp {d:PyData} (c:PyData.canLay0 d=true) (h:PyData.depth d≤10):SeqAt.shaped d=true:=by
 unfold SeqAt.shaped;rw[c,Bool.true_and];exact decide_eq_true (by omega)
theorem qc6 {H:Hp}{x y:V}{d:PyData}{Q:VK} (h1:DV H x d) (h2:DV H y d) (c:PyData.canLay0 d=true) (sh:SeqAt.shaped d=true) (q:Q (.bl false) H):qlS x y H Q:=by
 refine .inr ⟨d,d,h1,h2,sh,sh,?_⟩;rw[SeqAt.eqv_refl _ c];exact q
theorem qfa {H:Hp}{x y:V}{d:PyData}{Q:VK} (h1:DV H x d) (h2:DV H y d) (c:PyData.canLay0 d=true) (sh:SeqAt.shaped d=true) (q:Q (.bl true) H):qmY x y H Q:=by
 refine .inr ⟨d,d,h1,h2,sh,sh,?_⟩;rw[SeqAt.eqv_refl _ c];exact q
abbrev dP (w:Int×Int):PyData:=.tuple [.int w.1,.int w.2]
theorem qa8 {H:Hp}{q:Addr}{ws:List (Int×Int)} (h:Rs H q ws):∃ zs,H q=some (.lst zs)∧DVs H zs (ws.map dP)∧PyData.canLay0 (.list (ws.map dP))=true∧SeqAt.shaped (.list (ws.map dP))=true∧∀ z∈zs,∃ t xs,z=.ref t∧H t=some (.tup xs)∧∀ y∈xs,nb y:=by
 obtain⟨zs,hq,tz⟩:=h;have d1:=qid (g:=g2) tz;obtain⟨l1,l2⟩:=qfZ (g:=g2) ws;have cl:PyData.canLay0 (.list (ws.map dP))=true:=by simp only[PyData.canLay0];exact l1
 refine⟨zs,hq,d1,cl,shp cl (by simp only[PyData.depth];have:PyData.depthAll (ws.map dP)≤2:=l2;omega),fun z m=>?_⟩;obtain⟨j,hj⟩:=List.getElem?_of_mem m;obtain⟨w,t,hw,rfl,ht⟩:=tz.of hj;refine⟨t,_,rfl,ht,fun y my=>?_⟩;obtain⟨i,_,rfl⟩:=List.mem_map.mp my;exact .inl ⟨i,rfl⟩
abbrev dB (b:Str×Str×Int):PyData:=.tuple [.str b.1,.str b.2.1,.int b.2.2]
theorem qm9 {H:Hp}:∀ {zs:List V}{bs:List (Str×Str×Int)},TupL prB H zs bs->DVs H zs (bs.map dB)
 | [],[],_=>.nil
 | z::zs,p::ps,h=>by
   obtain⟨t,e,q⟩:=h.2 0 z p rfl rfl;subst e;exact .cons (.tup (.inl q) (.cons (.str _) (.cons (.str _) (.cons (.int _) .nil)))) (qm9 ⟨by simpa using h.1,fun i z p e1 e2=>h.2 (i+1) z p (by simpa using e1) (by simpa using e2)⟩)
 | [],_::_,h=>by simp[TupL]at h
 | _::_,[],h=>by simp[TupL]at h
theorem qnx:∀ (bs:List (Str×Str×Int)),(∀ b∈bs,PyData.strOk b.1=true∧PyData.strOk b.2.1=true)->PyData.canLayAll0 (bs.map dB)=true∧PyData.depthAll (bs.map dB)≤2
 | [],_=>⟨rfl,by simp[PyData.depthAll]⟩
 | p::r,h=>by
   obtain⟨h1,h2⟩:=qnx r fun x m=>h x (List.mem_cons_of_mem _ m);obtain⟨o1,o2⟩:=h p List.mem_cons_self;refine⟨by simp[PyData.canLayAll0,PyData.canLay0,h1,o1,o2],?_⟩;simp only[List.map_cons,PyData.depthAll,PyData.depth];omega
theorem qkc {wd pl:Str}{lo hi:Int}{ts ps:Pls}{W:List (Int×Int)} (h:ts.map tR=ps.map tR) (d:Due ps wd pl lo hi W):Due ts wd pl lo hi W:=by
 cases d with
 | @pl x hw mx ex =>
   have:tR x∈ts.map tR:=h▸List.mem_map_of_mem (f:=tR) mx
   obtain⟨y,my,ey⟩:=List.mem_map.mp this;injection ey with e1 e2;rw[← e2];exact .pl hw my (e1.trans ex)
 | no h=>exact .no h
theorem qe7 {ts ps:Pls} (h:ts.map tR=ps.map tR):ts.map (·.1)=ps.map (·.1):=by
 have:=congrArg (List.map Prod.fst) h
 rw[List.map_map,List.map_map]at this;exact this
theorem qhP {H:Hp}{a b:Addr}{zs:List V}{r:List (Int×Int)}{Q:VK} (h1:H a=some (.lst zs)) (t1:TupL pr H zs r) (h2:H b=some (.lst [])) (q:Q (.bl (!r.isEmpty)) H):qlS (.ref a) (.ref b) H Q:=by
 obtain⟨zs',h1',dv,cl,sh,_⟩:=qa8 ⟨zs,h1,t1⟩;refine .inr ⟨_,_,.lst (.inl h1') dv,.lst (.inl h2) .nil,sh,rfl,?_⟩
 cases r with
 | nil=>exact q
 | cons w ws=>exact q
theorem TupL.setG {β:Type}{f:β->List V}{H:Hp}{zs:List V}{ps:List β} (h:TupL f H zs ps) {i:Nat}{t:Addr}{p:β} (ht:H t=some (.tup (f p))):TupL f H (zs.set i (.ref t)) (ps.set i p):=by
 refine⟨by rw[List.length_set,List.length_set];exact h.1,fun j z y e1 e2=>?_⟩;rw[List.getElem?_set]at e1 e2;have hl:=h.1;by_cases hj:i=j
 · subst hj;by_cases hb:i < zs.length
   · rw[if_pos rfl,if_pos hb]at e1;rw[if_pos rfl,if_pos (by omega)]at e2;cases e1;cases e2;exact⟨t,rfl,ht⟩
   · rw[if_pos rfl,if_neg hb]at e1;cases e1
 · rw[if_neg hj]at e1 e2;exact h.2 j z y e1 e2
def mrg (acc:List (Int×Int)) (w:Int×Int):List (Int×Int):=match acc.getLast? with
 | some l=>if l.2=w.1 - 1 then acc.set (acc.length - 1) (l.1,w.2) else acc++[w]
 | none=>[w]
theorem qhQ {acc:List (Int×Int)}{x w:Int×Int} (h:acc.getLast?=some x) (e:x.2=w.1 - 1):mrg acc w=acc.set (acc.length - 1) (x.1,w.2):=by
 unfold mrg;rw[h];exact if_pos e
theorem qj5 {acc:List (Int×Int)}{x w:Int×Int} (h:acc.getLast?=some x) (e:¬ x.2=w.1 - 1):mrg acc w=acc++[w]:=by
 unfold mrg;rw[h];exact if_neg e
structure BW (acc:List (Int×Int)) (b:Int):Prop where
 can:zd acc
 lt:∀ w∈acc,w.2 < b
theorem qjf {l:List (Int×Int)}{x w:Int×Int}:mrg (l++[x]) w=if x.2=w.1 - 1 then l++[(x.1,w.2)] else l++[x]++[w]:=by
 unfold mrg;rw[List.getLast?_append,List.getLast?_singleton];show (if x.2=w.1 - 1 then (l++[x]).set ((l++[x]).length - 1) (x.1,w.2) else l++[x]++[w])=_;split
 · rw[List.length_append,List.set_append_right _ _ (by simp)];simp
 · rfl
theorem BW.step {acc:List (Int×Int)}{b:Int} (h:BW acc b) {w:Int×Int} (hb:b≤w.1) (hw:w.1≤w.2):BW (mrg acc w) (w.2+1)∧(∀ n,Mem (mrg acc w) n↔Mem acc n∨(w.1≤n∧n≤w.2))∧(mrg acc w).length≤acc.length+1:=by
 rcases List.eq_nil_or_concat acc with rfl|⟨l,x,rfl⟩
 · refine⟨⟨⟨fun u m=>?_,List.pairwise_singleton _ _⟩,fun u m=>?_⟩,fun n=>?_,Nat.le_refl _⟩
   · rw[List.mem_singleton.mp m];exact hw
   · rw[List.mem_singleton.mp m];omega
   · constructor
     · rintro⟨u,m,h⟩;rw[List.mem_singleton.mp m]at h;exact .inr h
     · rintro (⟨u,m,_⟩|h)
       · cases m
       · exact⟨w,List.mem_singleton.mpr rfl,h⟩
 · rw[List.concat_eq_append]at h ⊢;have hx:=h.lt x (List.mem_append_right _ (List.mem_singleton.mpr rfl));have x0:=h.can.1 x (List.mem_append_right _ (List.mem_singleton.mpr rfl));have pw:=List.pairwise_append.mp h.can.2;have gl:∀ u∈l,u.2+1 < x.1:=fun u m=>pw.2.2 u m x (List.mem_singleton.mpr rfl);have ul:∀ u∈l,u.1≤u.2:=fun u m=>h.can.1 u (List.mem_append_left _ m);rw[qjf];split
   · rename_i e
     refine⟨⟨⟨fun u m=>?_,List.pairwise_append.mpr ⟨pw.1,List.pairwise_singleton _ _,fun u mu v mv=>?_⟩⟩,fun u m=>?_⟩,fun n=>?_,by simp⟩
     · rcases List.mem_append.mp m with m|m
       · exact ul u m
       · rw[List.mem_singleton.mp m];show x.1≤w.2;omega
     · rw[List.mem_singleton.mp mv];exact gl u mu
     · rcases List.mem_append.mp m with m|m
       · have:=gl u m;omega
       · rw[List.mem_singleton.mp m];show w.2 < w.2+1;omega
     · rw[mem_snoc2,mem_snoc2];constructor
       · rintro (z|⟨z1,z2⟩)
         · exact .inl (.inl z)
         · have z1':x.1≤n:=z1;have z2':n≤w.2:=z2;by_cases c:n≤x.2
           · exact .inl (.inr ⟨z1',c⟩)
           · exact .inr ⟨by omega,z2'⟩
       · rintro ((z|⟨z1,z2⟩)|⟨z1,z2⟩)
         · exact .inl z
         · exact .inr ⟨z1,by show n≤w.2;omega⟩
         · exact .inr ⟨by show x.1≤n;omega,z2⟩
   · rename_i e
     refine⟨⟨⟨fun u m=>?_,List.pairwise_append.mpr ⟨h.can.2,List.pairwise_singleton _ _,fun u mu v mv=>?_⟩⟩,fun u m=>?_⟩,fun n=>mem_snoc2,by simp⟩
     · rcases List.mem_append.mp m with m|m
       · exact h.can.1 u m
       · rw[List.mem_singleton.mp m];exact hw
     · rw[List.mem_singleton.mp mv];rcases List.mem_append.mp mu with mu|mu
       · have:=gl u mu;omega
       · rw[List.mem_singleton.mp mu];omega
     · rcases List.mem_append.mp m with m|m
       · have:=h.lt u m;omega
       · rw[List.mem_singleton.mp m];omega
theorem BW.up {acc:List (Int×Int)}{b c:Int} (h:BW acc b) (hc:b≤c):BW acc c:=⟨h.can,fun w m=>by have:=h.lt w m;omega⟩
inductive jY (vs:List V) (H:Hp) (Q:VK):Prop
 | mk (q:Addr) (rows:List (Int×Int)) (lo hi:Int) (h1:vs=[.ref q,.int lo,.int hi]) (h2:Rs H q rows) (h3:Good rows) (h4:∀ (d:Addr) (r:List (Int×Int)) (H':Hp),H d=none->Same H H'->Rs H' d r->zd r->r.length≤21->(∀ n,Mem r n↔Mem (shw rows lo hi) n)->Q (.ref d) H'):jY vs H Q
def qaN:Sp:=fun vs H Q _=>jY vs H Q
inductive qbZ (vs:List V) (H:Hp) (Q:VK):Prop
 | mk (lo hi:Int) (h1:vs=[.int lo,.int hi]) (h2:0≤lo) (h3:hi - lo < 60) (h4:lo≤1000000000) (h5:hi≤1000000000) (h6:0≤hi) (h7:∀ (d:Addr) (r:List (Int×Int)) (H':Hp),H d=none->Same H H'->Rs H' d r->zd r->r.length≤60->(∀ n,Mem r n↔(lo≤n∧n≤hi)∧n % 3≠1)->Q (.ref d) H'):qbZ vs H Q
def qfu:Sp:=fun vs H Q _=>qbZ vs H Q
section
variable {P:Program}{w:World}{K:Frag}{mg:Str->Option Value}{base:Heap}
theorem qja {a:Ad} (T:Txt K mg a):qy P w K mg base CX0 1 a.f_8 a.fd_8 ["_law_low","_law_high"] qfu:=by
 refine T.d_8.F.ok sc_Lkept (fun vs H Q E h=>?_) (fun cdv A outer s H vs Q E hr h=>?_)
 · obtain⟨lo,hi,rfl,lo0,wd,lo1,hi1,hi0,kk⟩:=h;rfl
 · obtain⟨lo,hi,rfl,lo0,wd,lo1,hi1,hi0,kk⟩:=h;have hU:=hr.units
   refine⟨_,(qc (qH (i:=2) sc_Lkept.nd rfl (Or.inl rfl) (qM qb))
     (qc (zw PassesOwn.never rfl (qd2 rfl T.n_range (qa (pv 0) (qa (qB Qh (pv 1) qe) qb))) (qt (i:=3) (sc_Lkept.nd) rfl (Or.inl rfl))
       (qf (qU (qz (uNe hU) (qB zN (pv 3) qe) qe (qJ _))
         (qf (qU (PW.pt (J1 (qz (uNe hU) (pv 2) (qM qb) (qJ _)) (ZI (qz (uEq hU) (qr (r:=rIx K) qi (qr (r:=rIx K) qi (pv 2) (jB Qm qe) (fun _ _=>rfl)) qe (fun _ _=>rfl)) (qB zG (pv 3) qe) (qJ _)))))
           (qf (qce (qZ (qa (qr (r:=rIx K) qi (qr (r:=rIx K) qi (pv 2) (jB Qm qe) (fun _ _=>rfl)) qe (fun _ _=>rfl)) (qa (pv 3) qb))) (qhw (pv 2) (jB Qm qe) qcC)))
           (qf (qA (Zi PySem.F.plainAttrs_list PySem.F.slot_list_append PySem.F.type_list_append zg (pv 2) (qa (qZ (qa (pv 3) (qa (pv 3) qb))) qb))))))
         qx)))
     (qf (qu (pv 2))))),?_⟩
   try dsimp only [ze,Cx.nox]
   refine⟨qj (Nat.le_of_ble_eq_true rfl),fun d fd=>?_⟩;generalize hG:upd H d _=H1;obtain⟨S1,e1⟩:=qk hG fd;clear hG;(try unfold qP);(try dsimp only);refine qO (t:=qbG _ _ _) (fun σ' H'=>∃ (s3:Option V) (r:List (Int×Int)),σ'=[some (.int lo),some (.int hi),some (.ref d),s3]∧Same H H'∧Rs H' d r∧zd r∧r.length≤60∧∀ n,Mem r n↔(lo≤n∧n≤hi)∧n % 3≠1) (fun N hN=>?_) ?_
   · refine⟨_,rfl,_,rfl,.inl ⟨_,_,rfl,rfl,_,_,rfl,⟨by omega,by omega,by omega,by omega⟩,Qa (lo:=lo) (D:={ nx:=N,rt:=Q }) (fun j σ H'=>∃ (s3:Option V) (r:List (Int×Int)),σ=[some (.int lo),some (.int hi),some (.ref d),s3]∧Same H H'∧Rs H' d r∧BW r (lo+(j:Int))∧r.length≤j∧∀ n,Mem r n↔(lo≤n∧n < lo+(j:Int))∧n % 3≠1) ⟨_,[],rfl,S1,⟨[],e1,.nil⟩,⟨⟨(fun _ m=>nomatch m),List.Pairwise.nil⟩,(fun _ m=>nomatch m)⟩,Nat.le_refl _,fun n=>⟨(fun⟨_,m,_⟩=>nomatch m),fun z=>by omega⟩⟩ ?_ ?_⟩⟩
     · rintro j σ H2 hj ⟨s3,r,rfl,S2,⟨zs,hd,tz⟩,bw,lr,mr⟩;have lz:zs.length=r.length:=tz.1;refine⟨_,rfl,_,_,rfl,rfl,(by show (0:Int) < _;decide),.inl ⟨rfl,_,rfl,?_⟩⟩
       have ec:(!decide (V.int ((lo+(j:Int)) % 3)=V.int 1))=decide ((lo+(j:Int)) % 3≠1):=by
         by_cases h:(lo+(j:Int)) % 3=1
         · rw[h];rfl
         · rw[decide_eq_true h,decide_eq_false (fun z=>h (by injection z))];rfl
       rw[ec];refine jE (fun g=>?_) (fun g=>?_)
       case refine_2 =>
         refine⟨_,r,rfl,S2,⟨zs,hd,tz⟩,bw.up (by omega),by omega,fun n=>?_⟩;rw[mr];constructor
         · rintro⟨h1,h2⟩;exact⟨by omega,h2⟩
         · rintro⟨h1,h2⟩
           have:n≠lo+(j:Int):=fun z=>g (by rw[← z];exact h2)
           exact⟨by omega,h2⟩
       obtain⟨bw',mem',len'⟩:=bw.step (w:=(lo+(j:Int),lo+(j:Int))) (Int.le_refl _) (Int.le_refl _)
       have fin:∀ n,Mem (mrg r (lo+(j:Int),lo+(j:Int))) n↔(lo≤n∧n < lo+((j+1:Nat):Int))∧n % 3≠1:=fun n=>by
         rw[mem',mr];constructor
         · rintro (⟨h1,h2⟩|⟨h1,h2⟩)
           · exact⟨by omega,h2⟩
           · have h1':lo+(j:Int)≤n:=h1;have h2':n≤lo+(j:Int):=h2;have e:n=lo+(j:Int):=by omega
             exact⟨by omega,by rw[e];exact g⟩
         · rintro⟨h1,h2⟩;by_cases c:n < lo+(j:Int)
           · exact .inl ⟨by omega,h2⟩
           · exact .inr ⟨by show lo+(j:Int)≤n;omega,by show n≤lo+(j:Int);omega⟩
       refine⟨_,rfl,qj (Nat.le_of_ble_eq_true rfl),fun l0 fl0=>?_⟩;generalize hG:upd H2 l0 _=H3;obtain⟨S3,e3⟩:=qk hG fl0;clear hG;have hd3:=S3 _ _ hd;have tz3:TupL pr H3 zs r:=tz.same S3;have SS:=S2.trans S3;refine qhP hd3 tz3 e3 ⟨_,rfl,?_⟩;rcases List.eq_nil_or_concat r with er|⟨r0,x,er⟩
       · subst er;refine qG rfl ?_;cases List.length_eq_zero_iff.mp lz;refine qG rfl ?_;refine⟨_,rfl,.inl ⟨rfl,_,SqL.of hd3⟩,_,rfl,_,rfl,qj (Nat.le_of_ble_eq_true rfl),fun u fu=>?_⟩;generalize hG:upd H3 u _=H4;obtain⟨S4,e4⟩:=qk hG fu;clear hG;refine⟨d,_,_,rfl,rfl,S4 _ _ hd3,qj (Nat.le_of_ble_eq_true rfl),?_⟩;exact⟨_,mrg [] (lo+(j:Int),lo+(j:Int)),rfl,(SS.trans S4).put fd _,⟨_,qd,((tz3.same S4).snoc (p:=(lo+(j:Int),lo+(j:Int))) e4).put (S4 _ _ hd3)⟩,bw'.up (by show lo+(j:Int)+1≤_;omega),by omega,fin⟩
       · rw[List.concat_eq_append]at er;have glr:r.getLast?=some x:=by rw[er,List.getLast?_append];rfl
         have lr0:r.length=r0.length+1:=by rw[er,List.length_append];rfl
         have hxr:r[r.length - 1]?=some x:=by rw[← List.getLast?_eq_getElem?];exact glr
         have nem:(!r.isEmpty)=true:=by cases hr:r with
           | nil=>rw[hr]at lr0;cases lr0
           | cons _ _=>rfl
         rw[nem];refine QG rfl ?_;obtain⟨v,hzv,hv⟩:=tz3.at_ hxr;have glz:zs.getLast?=some (.ref v):=by rw[List.getLast?_eq_getElem?,lz];exact hzv
         refine⟨_,rfl,_,rfl,.inl ⟨d,_,_,_,rfl,rfl,SqL.of hd3,Q5 glz,.inr (.inl ⟨v,_,_,_,rfl,rfl,SqT.of hv,rfl,_,rfl,_,_,rfl,rfl,.inl ⟨rfl,_,rfl,jE (fun g9=>?_) (fun g9=>?_)⟩⟩)⟩⟩
         · have g9':x.2=(lo+(j:Int)) - 1:=by injection g9
           refine⟨_,rfl,_,rfl,.inl ⟨d,_,_,_,rfl,rfl,SqL.of hd3,Q5 glz,.inr (.inl ⟨v,_,_,_,rfl,rfl,SqT.of hv,rfl,_,rfl,qj (Nat.le_of_ble_eq_true rfl),fun u fu=>?_⟩)⟩⟩;generalize hG:upd H3 u _=H4;obtain⟨S4,e4⟩:=qk hG fu;clear hG;refine⟨_,rfl,_,rfl,d,_,_,zs.length - 1,rfl,rfl,S4 _ _ hd3,qdc (by omega),?_⟩;have em:=qhQ (w:=(lo+(j:Int),lo+(j:Int))) glr g9';exact⟨_,_,rfl,(SS.trans S4).put fd _,⟨_,qd,by rw[em,lz];exact TupL.put (TupL.setG (tz3.same S4) (i:=r.length - 1) (p:=(x.1,lo+(j:Int))) e4) (S4 _ _ hd3)⟩,bw'.up (by show lo+(j:Int)+1≤_;omega),by omega,fin⟩
         · have g9':¬ x.2=(lo+(j:Int)) - 1:=fun z=>g9 (by rw[z]);refine⟨_,rfl,.inl ⟨rfl,_,SqL.of hd3⟩,_,rfl,_,rfl,qj (Nat.le_of_ble_eq_true rfl),fun u fu=>?_⟩;generalize hG:upd H3 u _=H4;obtain⟨S4,e4⟩:=qk hG fu;clear hG;refine⟨d,_,_,rfl,rfl,S4 _ _ hd3,qw (by omega),?_⟩;have em:=qj5 (w:=(lo+(j:Int),lo+(j:Int))) glr g9';exact⟨_,_,rfl,(SS.trans S4).put fd _,⟨_,qd,by rw[em];exact((tz3.same S4).snoc (p:=(lo+(j:Int),lo+(j:Int))) e4).put (S4 _ _ hd3)⟩,bw'.up (by show lo+(j:Int)+1≤_;omega),by omega,fin⟩
     · rintro σ H2 ⟨s3,r,rfl,S2,R2,bw,lr,mr⟩;refine hN _ _ ⟨_,r,rfl,S2,R2,bw.can,by omega,fun n=>?_⟩;rw[mr];constructor
       · rintro⟨h1,h2⟩;exact⟨by omega,h2⟩
       · rintro⟨h1,h2⟩;exact⟨by omega,h2⟩
   rintro _ H2 ⟨s3,r,rfl,S2,R2,c2,l2,m2⟩;exact⟨_,rfl,kk d r H2 fd S2 R2 c2 l2 m2⟩
end
theorem TupL.dr {β:Type}{f:β->List V}{H:Hp}{zs:List V}{ps:List β} (h:TupL f H zs ps) (n:Nat):TupL f H (zs.drop n) (ps.drop n):=⟨by rw[List.length_drop,List.length_drop,h.1],fun j z y e1 e2=>by
 rw[List.getElem?_drop]at e1 e2
 exact h.2 _ z y e1 e2⟩
theorem qeu:∀ {rows:List (Int×Int)}{j:Nat}{e:Int}{x:Int×Int},(ends rows)[j]?=some e->rows[j+1]?=some x->e=x.1 - 1
 | [],j,e,x,_,h=>by simp at h
 | [r],j,e,x,_,h=>by simp at h
 | r::r'::rs,j,e,x,h1,h2=>by
   rw[qbz]at h1
   cases j with
   | zero=>cases h1;cases h2;rfl
   | succ j=>exact qeu (rows:=r'::rs) h1 h2
section
variable {P:Program}{w:World}{K:Frag}{mg:Str->Option Value}{base:Heap}
theorem qe1 {a:Ad} (T:Txt K mg a):qy P w K mg base CX0 1 a.f_t a.fd_t ["_law_rows","_law_low","_law_high"] qaN:=by
 refine T.d_t.F.ok sc_Lbetween (fun vs H Q E h=>?_) (fun cdv A outer s H vs Q E hr h=>?_)
 · obtain⟨q,rows,lo,hi,rfl,⟨zs0,hq,tq⟩,good,kk⟩:=h;rfl
 · obtain⟨q,rows,lo,hi,rfl,⟨zs0,hq,tq⟩,good,kk⟩:=h;have hu:=qI hr;have hU:=hr.units
   refine⟨_,(qc (qH (i:=3) sc_Lbetween.nd rfl (Or.inl rfl) (qB Qh (zH rfl (CompOk.def ["_law_row_here"] [none]) (qX (z3 uSl (pv 0) (zK qe) ZJ)) (fun _ _ _ _ _=>(qt (i:=0) (show List.Nodup (["_law_row_here"]:List Str) by decide +kernel) rfl (Or.inl rfl))) (fun _ _ _ _ _=>zQ) (fun _ _ _ _ _=>(qB zG (qr (r:=rIx K) qi (pv 0) qe (fun _ _=>rfl)) qe))) (qM (qa qe qb))))
     (qc (qH (i:=4) sc_Lbetween.nd rfl (Or.inl rfl) (qM qb))
     (qc (zw PassesOwn.never rfl (zR rfl T.n_range (qa (qq qY (by rfl) T.n_len qL (qa (pv 0) qb)) qb)) (qt (i:=5) (sc_Lbetween.nd) rfl (Or.inl rfl))
       (qc (qH (i:=6) sc_Lbetween.nd rfl (Or.inl rfl) (qq (ZQ rfl) (by rfl) T.n_max ZT (qa (qr (r:=rIx K) qi (qr (r:=rIx K) qi (pv 0) (pv 5) (fun _ _=>rfl)) qe (fun _ _=>rfl)) (qa (qB zG (pv 1) (qr (r:=rIx K) qi (qr (r:=rIx K) qi (pv 0) (pv 5) (fun _ _=>rfl)) qe (fun _ _=>rfl))) qb))))
       (qc (qH (i:=7) sc_Lbetween.nd rfl (Or.inl rfl) (qq (ZP rfl) (by rfl) T.n_min ZS (qa (qr (r:=rIx K) qi (pv 3) (pv 5) (fun _ _=>rfl)) (qa (qB zG (pv 2) (qr (r:=rIx K) qi (qr (r:=rIx K) qi (pv 0) (pv 5) (fun _ _=>rfl)) qe (fun _ _=>rfl))) qb))))
       (qf (qU (qz qcT (pv 6) (pv 7) (qJ _))
         (qf (qU (PW.pt (J1 (qz (uNe hU) (pv 4) (qM qb) (qJ _)) (ZI (qz (uEq hU) (qr (r:=rIx K) qi (qr (r:=rIx K) qi (pv 4) (jB Qm qe) (fun _ _=>rfl)) qe (fun _ _=>rfl)) (qB zG (pv 6) qe) (qJ _)))))
           (qf (qce (qZ (qa (qr (r:=rIx K) qi (qr (r:=rIx K) qi (pv 4) (jB Qm qe) (fun _ _=>rfl)) qe (fun _ _=>rfl)) (qa (pv 7) qb))) (qhw (pv 4) (jB Qm qe) qcC)))
           (qf (qA (Zi PySem.F.plainAttrs_list PySem.F.slot_list_append PySem.F.type_list_append zg (pv 4) (qa (qZ (qa (pv 6) (qa (pv 7) qb))) qb))))))
         qx)))))
     (qf (qu (pv 4)))))),?_⟩
   try dsimp only [ze,Cx.nox]
   have lq:zs0.length=rows.length:=tq.1;have fw:=good.few;refine⟨_,rfl,_,rfl,.inl ⟨q,_,rfl,SqL.of hq,fun l fl=>?_⟩⟩;rw[qdj _ 1 1 rfl];generalize hG:upd H l _=H1;obtain⟨S1,e1⟩:=qk hG fl;clear hG;refine⟨l,rfl,⟨_,SqL.of e1⟩,fun D fD=>?_⟩;have tq1:TupL pr H1 (zs0.drop 1) (rows.drop 1):=TupL.dr (tq.same S1) 1;refine zh (K:=K) (a:=l) (xs:=zs0.drop 1) (D:=D) (fun i σ H2=>∃ c0:Option V,σ=[c0]∧Same H1 H2∧H2 D=some (.lst (((rows.drop 1).take i).map fun r=>V.int (r.1 - 1)))) ⟨none,rfl,Same.new _ fD,qd⟩ (fun i σ H2 _ ⟨_,_,S,_⟩=>SqL.of (S _ _ e1)) ?_ ?_
   · rintro i z σ H2 hz ⟨c0,rfl,S2,hD⟩;obtain⟨w,u,hw,rfl,hu⟩:=tq1.of hz;refine⟨_,rfl,.inr (.inl ⟨u,_,_,_,rfl,rfl,SqT.of (S2 _ _ hu),rfl,_,_,rfl,rfl,_,hD,qw ?_,_,rfl,S2.put fD _,?_⟩)⟩
     · rw[List.length_map,List.length_take,List.length_drop];omega
     · rw[qd,List.take_add_one,hw,List.map_append];rfl
   rintro σ H2 ⟨c0,rfl,S2,hD⟩;rw[tq1.1,List.take_length]at hD;refine⟨qj (Nat.le_of_ble_eq_true rfl),fun l2 f2=>?_⟩;generalize hG:upd H2 l2 _=H3;obtain⟨S3,e3⟩:=qk hG f2;clear hG;refine .inr (.inl ⟨D,l2,_,_,rfl,rfl,S3 _ _ hD,e3,qj (by rw[List.length_map,List.length_drop];simp only[List.length_cons,List.length_nil];omega),fun le fle=>?_⟩);generalize hG:upd H3 le _=H4;obtain⟨S4,e4⟩:=qk hG fle;clear hG
   have e4':H4 le=some (.lst ((ends rows).map V.int)):=by
     rw[e4];unfold ends;rw[List.map_append,List.map_map];rfl
   have T4:=((S1.trans S2).trans S3).trans S4;clear e4;(try unfold qP);(try dsimp only);refine⟨qj (Nat.le_of_ble_eq_true rfl),fun d fd0=>?_⟩;generalize hG:upd H4 d _=H5;obtain⟨S5,e5⟩:=qk hG fd0;clear hG;have T5:=T4.trans S5;have hle:=S5 _ _ e4';have fd:=T4.none fd0;clear S1 S2 S3 S4 hD e1 e3 T4 tq1;(try unfold qP);(try dsimp only)
   have ledge:∀ {H':Hp},(∀ b o,H5 b=some o->b≠d->H' b=some o)->H' le=some (.lst ((ends rows).map V.int)):=fun k=>k _ _ hle (fun z=>by rw[z,e5]at hle;cases rows with
     | nil=>cases hle
     | cons r rs=>cases rs with
       | nil=>cases hle
       | cons _ _=>cases hle)
   refine qO (t:=qbG _ _ _) (fun σ' H'=>∃ (s5 s6 s7:Option V) (r:List (Int×Int)),σ'=[some (.ref q),some (.int lo),some (.int hi),some (.ref le),some (.ref d),s5,s6,s7]∧Same H H'∧Rs H' d r∧zd r∧r.length≤21∧∀ n,Mem r n↔Mem (shw rows lo hi) n) (fun N hN=>?_) ?_
   · refine⟨_,rfl,_,_,rfl,.inl ⟨_,SqL.of (T5 _ _ hq),rfl⟩,_,rfl,by omega,by omega,Qa (lo:=0) (D:={ nx:=N,rt:=Q }) (fun j σ H'=>∃ (s5 s6 s7:Option V) (r:List (Int×Int)),σ=[some (.ref q),some (.int lo),some (.int hi),some (.ref le),some (.ref d),s5,s6,s7]∧Same H H'∧Rs H' d r∧(∀ b o,H5 b=some o->b≠d->H' b=some o)∧zd r∧(∀ x,rows[j]?=some x->BW r x.1)∧r.length≤j∧∀ n,Mem r n↔Mem ((shw rows lo hi).take j) n) ⟨_,_,_,[],rfl,T5,⟨[],e5,.nil⟩,(fun b o e _=>e),⟨(fun _ m=>nomatch m),List.Pairwise.nil⟩,(fun x _=>⟨⟨(fun _ m=>nomatch m),List.Pairwise.nil⟩,(fun _ m=>nomatch m)⟩),Nat.le_refl _,fun n=>Iff.rfl⟩ ?_ ?_⟩
     · rintro j σ H2 hj ⟨s5,s6,s7,r,rfl,S2,⟨zs,hd,tz⟩,k5,can,bnd,lr,mr⟩;have hj':j < rows.length:=by omega
       obtain⟨x,hx⟩:∃ x,rows[j]?=some x:=⟨_,List.getElem?_eq_getElem hj'⟩
       obtain⟨u,hzu,hu0⟩:=tq.at_ hx;have bw:=bnd x hx;have lz:zs.length=r.length:=tz.1;obtain⟨e,he⟩:∃ e,(ends rows)[j]?=some e:=⟨_,List.getElem?_eq_getElem (by rw[qga (Jf good)];exact hj')⟩
       have hate:atI ((ends rows).map V.int) (j:Int)=some (.int e):=qT (by rw[List.getElem?_map,he];rfl);have hp:=qhz rows j x e hx he;have hsw:(shw rows lo hi)[j]?=some (mp lo hi (x.1,e,x.2)):=by unfold shw;rw[List.getElem?_map,hp];rfl
       have hle2:=ledge k5;obtain⟨w,hw⟩:∃ w,w=mp lo hi (x.1,e,x.2):=⟨_,rfl⟩
       have w1:x.1≤w.1:=by rw[hw];show x.1≤(if lo - x.2 > x.1 then lo - x.2 else x.1);split<;>omega
       have w2:w.2≤e:=by rw[hw];show (if hi - x.2 < e then hi - x.2 else e)≤e;split<;>omega
       have hnext:∀ x',rows[j+1]?=some x'->w.2+1≤x'.1:=fun x' h=>by have:=qeu he h;omega
       have asc:∀ x',rows[j+1]?=some x'->x.1≤x'.1:=fun x' h=>by
         obtain⟨h1,e1⟩:=List.getElem?_eq_some_iff.mp hx;obtain⟨h2,e2⟩:=List.getElem?_eq_some_iff.mp h
         have:=List.pairwise_iff_getElem.mp good.asc j (j+1) h1 h2 (by omega)
         rw[e1,e2]at this;omega
       have nxt':∀ {p:Prop},p->p:=fun h=>h;refine⟨_,rfl,_,rfl,.inl ⟨q,_,_,_,rfl,rfl,SqL.of (S2 _ _ hq),(by rw[Int.zero_add];exact qT hzu),.inr (.inl ⟨u,_,_,_,rfl,rfl,SqT.of (S2 _ _ hu0),rfl,_,rfl,_,rfl,_,rfl,.inl ⟨q,_,_,_,rfl,rfl,SqL.of (S2 _ _ hq),(by rw[Int.zero_add];exact qT hzu),.inr (.inl ⟨u,_,_,_,rfl,rfl,SqT.of (S2 _ _ hu0),rfl,_,_,rfl,rfl,_,_,rfl,?_⟩)⟩⟩)⟩⟩;(try unfold qP);(try dsimp only);refine⟨_,rfl,_,rfl,.inl ⟨le,_,_,_,rfl,rfl,SqL.of hle2,(by rw[Int.zero_add];exact hate),_,rfl,_,rfl,_,rfl,.inl ⟨q,_,_,_,rfl,rfl,SqL.of (S2 _ _ hq),(by rw[Int.zero_add];exact qT hzu),.inr (.inl ⟨u,_,_,_,rfl,rfl,SqT.of (S2 _ _ hu0),rfl,_,_,rfl,rfl,_,_,rfl,?_⟩)⟩⟩⟩;(try unfold qP);(try dsimp only);have ew1:(if lo - x.2 > x.1 then lo - x.2 else x.1)=w.1:=by rw[hw];rfl
       have ew2:(if hi - x.2 < e then hi - x.2 else e)=w.2:=by rw[hw];rfl
       rw[ew1,ew2];refine⟨_,rfl,_,rfl,_,_,rfl,rfl,_,rfl,jE (fun g=>?_) (fun g=>?_)⟩
       case refine_2 =>
         refine⟨_,_,_,r,rfl,S2,⟨zs,hd,tz⟩,k5,can,fun x' h=>bw.up (asc x' h),by omega,fun n=>?_⟩;rw[List.take_add_one,hsw];show Mem r n↔Mem ((shw rows lo hi).take j++[mp lo hi (x.1,e,x.2)]) n;rw[mem_snoc2,← hw,← mr]
         exact⟨.inl,fun z=>by
           rcases z with z|z
           · exact z
           · omega⟩
       obtain⟨bw',mem',len'⟩:=bw.step w1 g
       have fin:∀ n,Mem (mrg r w) n↔Mem ((shw rows lo hi).take (j+1)) n:=fun n=>by
         rw[mem',mr,List.take_add_one,hsw];show _↔Mem ((shw rows lo hi).take j++[mp lo hi (x.1,e,x.2)]) n;rw[mem_snoc2,← hw]
       refine⟨_,rfl,qj (Nat.le_of_ble_eq_true rfl),fun l0 fl0=>?_⟩;generalize hG:upd H2 l0 _=H3;obtain⟨S3,e3⟩:=qk hG fl0;clear hG;have hd3:=S3 _ _ hd;have tz3:TupL pr H3 zs r:=tz.same S3;have SS:=S2.trans S3;refine qhP hd3 tz3 e3 ⟨_,rfl,?_⟩;rcases List.eq_nil_or_concat r with er|⟨r0,x,er⟩
       · subst er;refine qG rfl ?_;cases List.length_eq_zero_iff.mp lz;refine qG rfl ?_;refine⟨_,rfl,.inl ⟨rfl,_,SqL.of hd3⟩,_,rfl,_,rfl,qj (Nat.le_of_ble_eq_true rfl),fun u fu=>?_⟩;generalize hG:upd H3 u _=H4;obtain⟨S4,e4⟩:=qk hG fu;clear hG;refine⟨d,_,_,rfl,rfl,S4 _ _ hd3,qj (Nat.le_of_ble_eq_true rfl),?_⟩;exact⟨_,_,_,mrg [] w,rfl,(SS.trans S4).put fd _,⟨_,qd,((tz3.same S4).snoc (p:=(w.1,w.2)) e4).put (S4 _ _ hd3)⟩,(fun b o e nb=>by rw[qh nb];exact S4 b o (S3 b o (k5 b o e nb))),bw'.can,(fun x' h=>bw'.up (hnext x' h)),by omega,fin⟩
       · rw[List.concat_eq_append]at er;have glr:r.getLast?=some x:=by rw[er,List.getLast?_append];rfl
         have lr0:r.length=r0.length+1:=by rw[er,List.length_append];rfl
         have hxr:r[r.length - 1]?=some x:=by rw[← List.getLast?_eq_getElem?];exact glr
         have nem:(!r.isEmpty)=true:=by cases hr:r with
           | nil=>rw[hr]at lr0;cases lr0
           | cons _ _=>rfl
         rw[nem];refine QG rfl ?_;obtain⟨v,hzv,hv⟩:=tz3.at_ hxr;have glz:zs.getLast?=some (.ref v):=by rw[List.getLast?_eq_getElem?,lz];exact hzv
         refine⟨_,rfl,_,rfl,.inl ⟨d,_,_,_,rfl,rfl,SqL.of hd3,Q5 glz,.inr (.inl ⟨v,_,_,_,rfl,rfl,SqT.of hv,rfl,_,rfl,_,_,rfl,rfl,.inl ⟨rfl,_,rfl,jE (fun g9=>?_) (fun g9=>?_)⟩⟩)⟩⟩
         · have g9':x.2=(w.1) - 1:=by injection g9
           refine⟨_,rfl,_,rfl,.inl ⟨d,_,_,_,rfl,rfl,SqL.of hd3,Q5 glz,.inr (.inl ⟨v,_,_,_,rfl,rfl,SqT.of hv,rfl,_,rfl,qj (Nat.le_of_ble_eq_true rfl),fun u fu=>?_⟩)⟩⟩;generalize hG:upd H3 u _=H4;obtain⟨S4,e4⟩:=qk hG fu;clear hG;refine⟨_,rfl,_,rfl,d,_,_,zs.length - 1,rfl,rfl,S4 _ _ hd3,qdc (by omega),?_⟩;have em:=qhQ (w:=(w.1,w.2)) glr g9';exact⟨_,_,_,mrg r w,rfl,(SS.trans S4).put fd _,⟨_,qd,by rw[em,lz];exact TupL.put (TupL.setG (tz3.same S4) (i:=r.length - 1) (p:=(x.1,w.2)) e4) (S4 _ _ hd3)⟩,(fun b o e nb=>by rw[qh nb];exact S4 b o (S3 b o (k5 b o e nb))),bw'.can,(fun x' h=>bw'.up (hnext x' h)),by omega,fin⟩
         · have g9':¬ x.2=(w.1) - 1:=fun z=>g9 (by rw[z]);refine⟨_,rfl,.inl ⟨rfl,_,SqL.of hd3⟩,_,rfl,_,rfl,qj (Nat.le_of_ble_eq_true rfl),fun u fu=>?_⟩;generalize hG:upd H3 u _=H4;obtain⟨S4,e4⟩:=qk hG fu;clear hG;refine⟨d,_,_,rfl,rfl,S4 _ _ hd3,qw (by omega),?_⟩;have em:=qj5 (w:=(w.1,w.2)) glr g9';exact⟨_,_,_,mrg r w,rfl,(SS.trans S4).put fd _,⟨_,qd,by rw[em];exact((tz3.same S4).snoc (p:=(w.1,w.2)) e4).put (S4 _ _ hd3)⟩,(fun b o e nb=>by rw[qh nb];exact S4 b o (S3 b o (k5 b o e nb))),bw'.can,(fun x' h=>bw'.up (hnext x' h)),by omega,fin⟩
     · rintro σ H2 ⟨s5,s6,s7,r,rfl,S2,R2,k5,can,bnd,lr,mr⟩;refine hN _ _ ⟨_,_,_,r,rfl,S2,R2,can,by omega,fun n=>?_⟩;rw[mr,List.take_of_length_le (by unfold shw;rw[List.length_map,Ju];omega)]
   rintro _ H2 ⟨s5,s6,s7,r,rfl,S2,R2,c2,l2,m2⟩;exact⟨_,rfl,kk d r H2 fd S2 R2 c2 l2 m2⟩
end
abbrev B5:List Int:=[7,200,12,122,12]
structure D5 (H:Hp) (p:Addr) (gs:List Int):Prop where
 hp:H p=some (.lst (gs.map V.int))
 ln:gs.length=5
 bd:∀ (k:Nat) (f s:Int),gs[k]?=some f->B5[k]?=some s->0≤f∧f < s
theorem D5.ix {H:Hp}{q:Addr}{fs:List Int} (h:D5 H q fs) (k:Nat) {s:Int} (hs:B5[k]?=some s):∃ f,fs[k]?=some f∧atI (fs.map V.int) (k:Int)=some (.int f)∧0≤f∧f < s:=by
 have hk:k < fs.length:=by
   have:=(List.getElem?_eq_some_iff.mp hs).1
   rw[h.ln];exact this
 refine⟨fs[k],List.getElem?_eq_getElem hk,qT (by rw[List.getElem?_map,List.getElem?_eq_getElem hk];rfl),h.bd k _ s (List.getElem?_eq_getElem hk) hs⟩
theorem qgy {ts:Pls}{e:Ent} (h:e.wd="any"∨e.wd="within"∨e.wd="at") {n:Int}:ME ts e n↔e.lo≤n∧n≤e.hi:=by
 constructor
 · rintro⟨W,due,m⟩
   cases due with
   | pl z _ _=>exact absurd z (by rcases h with z'|z'|z'<;>rw[z']<;>decide)
   | no _ =>
     obtain⟨w,mw,hw⟩:=m;rw[List.mem_singleton.mp mw]at hw;exact hw
 · intro hn;exact⟨_,.no h,⟨_,List.mem_singleton.mpr rfl,hn⟩⟩
theorem qk1 {ts:Pls} (nd:(ts.map (·.1)).Nodup) {e:Ent} (h:e.wd="between"∨e.wd="read") {x:Str×Addr×List (Int×Int)} (mx:x∈ts) (ex:x.1=e.pl) {n:Int}:ME ts e n↔Mem (shw x.2.2 e.lo e.hi) n:=by
 constructor
 · rintro⟨W,due,m⟩;rw[qdh nd (.pl h mx ex) due];exact m
 · intro hn;exact⟨_,.pl h mx ex,hn⟩
theorem qhu {pl:Str}{s:Str} (h:s∈pls pl):s=pl:=by
 unfold pls at h;split at h
 · cases h
 · exact List.mem_singleton.mp h
structure Ey (a:Ad) (H:Hp) (ts:Pls) (nm:Str) (g:Gk) (d:Addr) (r:List (Int×Int)):Prop where
 en:EnG a H g
 sp:SpG g
 nm:g.nm=nm
 pl:∀ s,PlG g s->s∈ts.map (·.1)
 rs:Rs H d r
 can:zd r
 few:r.length≤60
 mem:∀ n,Mem r n↔MG ts g n
theorem Ey.sm {a:Ad}{H H':Hp}{ts:Pls}{nm:Str}{g:Gk}{d:Addr}{r:List (Int×Int)} (h:Ey a H ts nm g d r) (s:Same H H'):Ey a H' ts nm g d r:=⟨h.en.sm s,h.sp,h.nm,h.pl,h.rs.same s,h.can,h.few,h.mem⟩
def qln:Gk->List Addr
 | .b _=>[]
 | .jn _ _ l _=>[l]
theorem Ey.up {a:Ad}{H:Hp}{ts:Pls}{nm:Str}{g:Gk}{d q:Addr}{r:List (Int×Int)}{zs:List V} (h:Ey a H ts nm g d r) (hq:H q=some (.lst zs)) (n1:d≠q) (n2:∀ l∈qln g,l≠q) (ws:List V):Ey a (upd H q (.lst ws)) ts nm g d r:=by
 have tp:∀ {zs:List V}{ps:List (Int×Int)},TupL pr H zs ps->TupL pr (upd H q (.lst ws)) zs ps:=fun tz=>TupL.put tz hq;have ki:∀ x C d fs,H x=some (.ins C d fs)->fs≠[]->fs.lookup ("bound":Str)=none->(upd H q (.lst ws)) x=some (.ins C d fs):=fun x C d fs e _ _=>by rw[qh (zI e hq (by intro z;cases z))];exact e
 obtain⟨zr,hd,tr⟩:=h.rs;refine⟨?_,h.sp,h.nm,h.pl,⟨zr,by rw[qh n1];exact hd,tp tr⟩,h.can,h.few,h.mem⟩
 cases h.en with
 | b en=>exact .b (en.mp ki)
 | @jn nm' x dx l ps e1 e2 en=>exact .jn (ki _ _ _ _ e1 (by simp) rfl) (by rw[qh (n2 l (List.mem_singleton.mpr rfl))];exact e2) fun k m=>(en k m).mp ki
inductive qaI (a:Ad) (vs:List V) (H:Hp) (Q:VK):Prop
 | mk (nm:Str) (p:Addr) (gs:List Int) (b:Int) (tb:Addr) (ts:Pls) (h1:vs=[.str nm,.ref p,.int b,.ref tb]) (h2:D5 H p gs) (h3:zC (.str nm)=true) (h4:0≤b) (h5:b≤999999300) (h6:Lt H tb ts) (h7:ts.length=2) (h8:(∀ t∈ts,zC (.str t.1)=true)) (h9:(ts.map (·.1)).Nodup) (h10:∀ (t:Addr) (g:Gk) (d:Addr) (r:List (Int×Int)) (H':Hp),Same H H'->H' t=some (.tup [.ref g.x,.ref d])->Ey a H' ts nm g d r->H d=none->(∀ l∈qln g,H l=none)->Q (.ref t) H'):qaI a vs H Q
def qdx (a:Ad):Sp:=fun vs H Q _=>qaI a vs H Q
theorem qli {r:List (Int×Int)}{lo hi:Int} (c:zd r):zd ((r.map fun w=>(mx2 w.1 lo,mn2 w.2 hi)).filter fun w=>decide (w.1≤w.2))∧∀ n,Mem ((r.map fun w=>(mx2 w.1 lo,mn2 w.2 hi)).filter fun w=>decide (w.1≤w.2)) n↔Mem r n∧lo≤n∧n≤hi:=by
 have m1:∀ x y:Int,x≤mx2 x y∧y≤mx2 x y∧(mx2 x y=x∨mx2 x y=y):=fun x y=>by unfold mx2;split<;>omega
 have m2:∀ x y:Int,mn2 x y≤x∧mn2 x y≤y∧(mn2 x y=x∨mn2 x y=y):=fun x y=>by unfold mn2;split<;>omega
 refine⟨⟨fun w m=>by simpa using (List.mem_filter.mp m).2,?_⟩,fun n=>?_⟩
 · refine List.Pairwise.filter _ (List.Pairwise.map _ (fun u v h=>?_) c.2);show mn2 u.2 hi+1 < mx2 v.1 lo
   have:=m2 u.2 hi
   have:=m1 v.1 lo
   omega
 · constructor
   · rintro⟨w,m,h1,h2⟩;obtain⟨u,mu,rfl⟩:=List.mem_map.mp (List.mem_filter.mp m).1;have h1':mx2 u.1 lo≤n:=h1;have h2':n≤mn2 u.2 hi:=h2
     have:=m2 u.2 hi
     have:=m1 u.1 lo
     exact⟨⟨u,mu,by omega,by omega⟩,by omega,by omega⟩
   · rintro⟨⟨u,mu,h1,h2⟩,h3,h4⟩
     have:=m2 u.2 hi
     have:=m1 u.1 lo
     refine⟨(mx2 u.1 lo,mn2 u.2 hi),List.mem_filter.mpr ⟨List.mem_map.mpr ⟨u,mu,rfl⟩,?_⟩,?_,?_⟩
     · show decide (mx2 u.1 lo≤mn2 u.2 hi)=true;exact decide_eq_true (by omega)
     · show mx2 u.1 lo≤n;omega
     · show n≤mn2 u.2 hi;omega
theorem qip {w:Int×Int} (h:w.1≤w.2):zd [w]:=⟨fun u m=>by rw[List.mem_singleton.mp m];exact h,List.pairwise_singleton _ _⟩
theorem mem1 {w:Int×Int}{n:Int}:Mem [w] n↔w.1≤n∧n≤w.2:=⟨fun⟨u,m,h⟩=>by rw[List.mem_singleton.mp m]at h;exact h,fun h=>⟨w,List.mem_singleton.mpr rfl,h⟩⟩
theorem ZU {a b c:Prop} (h:a↔b):a∧c↔b∧c:=⟨fun z=>⟨h.mp z.1,z.2⟩,fun z=>⟨h.mpr z.1,z.2⟩⟩
section
variable {P:Program}{w:World}{K:Frag}{mg:Str->Option Value}{base:Heap}
theorem qhJ {a:Ad} (T:Txt K mg a):qy P w K mg base CX0 9 a.f_9 a.fd_9 ["_law_name","_law_xs","_law_base_here","_law_tables_here"] (qdx a):=by
 have G_al:=qbP (P:=P) (w:=w) (base:=base) T;have G_8:=qja (P:=P) (w:=w) (base:=base) T;have G_k:=jt (P:=P) (w:=w) (base:=base) T;have G_G:=qcl (P:=P) (w:=w) (base:=base) T;have G_ah:=qd8 (P:=P) (w:=w) (base:=base) T;have G_t:=qe1 (P:=P) (w:=w) (base:=base) T;have G_v:=ZM (P:=P) (w:=w) (base:=base) T;have G_ai:=qc3 (P:=P) (w:=w) (base:=base) T;have G_f:=zU (P:=P) (w:=w) (base:=base) T;refine T.d_9.F.ok sc_Lentry (fun vs H Q E h=>?_) (fun cdv A outer s H vs Q E hr h=>?_)
 · obtain⟨nm,p,gs,b,tb,ts,rfl,d5,ok,b0,b1,lt,l2,tok,ndt,kk⟩:=h;rfl
 · obtain⟨nm,p,gs,b,tb,ts,rfl,d5,ok,b0,b1,lt,l2,tok,ndt,kk⟩:=h;have hu:=qI hr;have hU:=hr.units;have h_al:Room (7+1) _:=hr.mono (by decide);have h_8:Room (1) _:=hr.mono (by decide);have h_k:Room (5+1) _:=hr.mono (by decide);have h_G:Room (7+1) _:=hr.mono (by decide);have h_ah:Room (7+1) _:=hr.mono (by decide);have h_t:Room (1) _:=hr.mono (by decide);have h_v:Room (5+1) _:=hr.mono (by decide);have h_ai:Room (5+1) _:=hr.mono (by decide);have h_f:Room (3+1) _:=hr.mono (by decide)
   refine⟨_,(qc (qH (i:=4) sc_Lentry.nd rfl (Or.inr rfl) (qB Qh (pv 2) (qr (r:=rIx K) qi (pv 1) qe (fun _ _=>rfl))))
     (qc (qH (i:=5) sc_Lentry.nd rfl (Or.inl rfl) (qB Qh (pv 4) (qr (r:=rIx K) qi (pv 1) qe (fun _ _=>rfl))))
     (qc (qce (qr (r:=rIx K) qi (pv 3) (qB zN (qr (r:=rIx K) qi (pv 1) qe (fun _ _=>rfl)) qe) (fun _ _=>rfl)) (zS rfl (qC (qt (i:=6) (sc_Lentry.nd) rfl (Or.inl rfl)) (qC (qt (i:=7) (sc_Lentry.nd) rfl (Or.inl rfl)) zx))))
     (qc (qH (i:=8) sc_Lentry.nd rfl (Or.inl rfl) (qB zG (qB Qh (pv 4) (qB qhC (qr (r:=rIx K) qi (pv 1) qe (fun _ _=>rfl)) qe)) qe))
     (qc (qU (PW.pt (J1 (qz (uEq hU) (qr (r:=rIx K) qi (pv 1) qe (fun _ _=>rfl)) qe (qJ _)) (ZI (qz (uEq hU) (qr (r:=rIx K) qi (pv 1) qe (fun _ _=>rfl)) qe (qJ _)))))
       (qf (qu (qZ (qa (zL T.M_Within G_k h_k rfl T.g_Within T.d_k.b .nil qo (qa (pv 0) (qa (pv 5) (qa (pv 4) qb)))) (qa (qM qb) qb)))))
       qx)
     (qc (qU (qz (uEq hU) (qr (r:=rIx K) qi (pv 1) qe (fun _ _=>rfl)) qe (qJ _))
       (qf (qu (qZ (qa (zL T.M_Within G_k h_k rfl T.g_Within T.d_k.b .nil qo (qa (pv 0) (qa (pv 4) (qa (pv 5) qb)))) (qa (qM (qa (qZ (qa (pv 4) (qa (pv 5) qb))) qb)) qb)))))
       qx)
     (qc (qU (qz (uEq hU) (qr (r:=rIx K) qi (pv 1) qe (fun _ _=>rfl)) qe (qJ _))
       (qf (qu (qZ (qa (zL T.M_At G_G h_G rfl T.g_At T.d_G.b .nil qo (qa (pv 0) (qa (pv 4) qb))) (qa (qM (qa (qZ (qa (pv 4) (qa (pv 4) qb))) qb)) qb)))))
       qx)
     (qc (qU (qz (uEq hU) (qr (r:=rIx K) qi (pv 1) qe (fun _ _=>rfl)) qe (qJ _))
       (qf (qu (qZ (qa (zL T.M_Read G_ah h_ah rfl T.g_Read T.d_ah.b .nil qo (qa (pv 0) (qa (pv 6) (qa (pv 8) qb)))) (qa (qp G_t h_t rfl T.d_t.m T.d_t.k T.d_t.b .nil qo (qa (pv 7) (qa (pv 8) (qa (pv 8) qb)))) qb)))))
       qx)
     (qc (qU (qz (uEq hU) (qr (r:=rIx K) qi (pv 1) qe (fun _ _=>rfl)) qe (qJ _))
       (qf (qu (qZ (qa (zL T.M_Between G_v h_v rfl T.g_Between T.d_v.b .nil qo (qa (pv 0) (qa (pv 6) (qa (pv 8) (qa (qB Qh (pv 8) (qr (r:=rIx K) qi (pv 1) qe (fun _ _=>rfl))) qb))))) (qa (qp G_t h_t rfl T.d_t.m T.d_t.k T.d_t.b .nil qo (qa (pv 7) (qa (pv 8) (qa (qB Qh (pv 8) (qr (r:=rIx K) qi (pv 1) qe (fun _ _=>rfl))) qb)))) qb)))))
       qx)
     (qc (qU (qz (uEq hU) (qr (r:=rIx K) qi (pv 1) qe (fun _ _=>rfl)) qe (qJ _))
       (qc (qH (i:=9) sc_Lentry.nd rfl (Or.inl rfl) (qM (qa (zL T.M_Within G_k h_k rfl T.g_Within T.d_k.b .nil qo (qa q9 (qa (pv 4) (qa (qB Qh (pv 4) qe) qb)))) (qa (zL T.M_Between G_v h_v rfl T.g_Between T.d_v.b .nil qo (qa (pv 0) (qa (pv 6) (qa (pv 8) (qa (qB Qh (pv 8) qe) qb))))) qb))))
       (qc (qcR (i:=10) sc_Lentry.nd rfl (Or.inl rfl) rfl (CompOk.def ["_law_a","_law_b","_law_low"] [none,none,some 4]) (qX (qp G_t h_t rfl T.d_t.m T.d_t.k T.d_t.b .nil qo (qa (pv 7) (qa (pv 8) (qa (qB Qh (pv 8) qe) qb))))) (fun _ _ _ _ _=>(show PG _ _ (qjs K 2 _) from (zS rfl (qC (qt (i:=0) (show List.Nodup (["_law_a","_law_b","_law_low"]:List Str) by decide +kernel) rfl (Or.inl rfl)) (qC (qt (i:=1) (show List.Nodup (["_law_a","_law_b","_law_low"]:List Str) by decide +kernel) rfl (Or.inl rfl)) zx))))) (fun _ _ _ _ _=>zQ) (fun _ _ _ _ _=>(qZ (qa (qq (ZQ rfl) (by rfl) T.n_max ZT (qa (pv 0) (qa (pv 2) qb))) (qa (qq (ZP rfl) (by rfl) T.n_min ZS (qa (pv 1) (qa (qB Qh (pv 2) qe) qb))) qb)))))
       (qf (qu (qZ (qa (zL T.M_Joint G_ai h_ai rfl T.g_Joint T.d_ai.b .nil qo (qa (pv 0) (qa (pv 9) qb))) (qa (zH rfl (CompOk.def ["_law_a","_law_b"] [none,none]) (qX (pv 10)) (fun _ _ _ _ _=>(show PG _ _ (qjs K 2 _) from (zS rfl (qC (qt (i:=0) (show List.Nodup (["_law_a","_law_b"]:List Str) by decide +kernel) rfl (Or.inl rfl)) (qC (qt (i:=1) (show List.Nodup (["_law_a","_law_b"]:List Str) by decide +kernel) rfl (Or.inl rfl)) zx))))) (fun _ _ _ _ _=>(Js (qz qcT (pv 0) (pv 1) (qJ _)))) (fun _ _ _ _ _=>(qZ (qa (pv 0) (qa (pv 1) qb))))) qb)))))))
       qx)
     (qc (qU (qz (uEq hU) (qr (r:=rIx K) qi (pv 1) qe (fun _ _=>rfl)) qe (qJ _))
       (qf (qu (qZ (qa (zL T.M_Entry G_f h_f rfl T.g_Entry T.d_f.b .nil qo (qa (pv 0) qb)) (qa (qM (qa (qZ (qa qe (qa qe qb))) qb)) qb)))))
       qx)
     (qf (qu (qZ (qa (zL T.M_Sifted G_al h_al rfl T.g_Sifted T.d_al.b .nil qo (qa (pv 0) (qa (zL T.M_Within G_k h_k rfl T.g_Within T.d_k.b .nil qo (qa (pv 0) (qa (pv 4) (qa (pv 5) qb)))) (qa (za (v:=.ref a.f_D) rfl T.d_D.m rfl) qb)))) (qa (qp G_8 h_8 rfl T.d_8.m T.d_8.k T.d_8.b .nil qo (qa (pv 4) (qa (pv 5) qb))) qb)))))))))))))))),?_⟩
   try dsimp only [ze,Cx.nox]
   obtain⟨x0,_,a0,x00,x01⟩:=d5.ix 0 (s:=7) rfl;obtain⟨x1,_,a1,x10,x11⟩:=d5.ix 1 (s:=200) rfl;obtain⟨x2,_,a2,x20,x21⟩:=d5.ix 2 (s:=12) rfl;obtain⟨x3,_,a3,x30,x31⟩:=d5.ix 3 (s:=122) rfl;have fin:∀ (g:Gk) (d:Addr) (r:List (Int×Int)) (G:Hp),Same H G->H d=none->(∀ l∈qln g,H l=none)->Ey a G ts nm g d r->∀ t,G t=none->Q (.ref t) (upd G t (.tup [.ref g.x,.ref d])):=fun g d r G S fd fg ey t ft=>kk t g d r _ (S.trans (Same.new _ ft)) qd (ey.sm (Same.new _ ft)) fd fg;refine⟨_,rfl,_,rfl,.inl ⟨p,_,_,_,rfl,rfl,SqL.of d5.hp,a1,.inl ⟨_,_,rfl,rfl,?_⟩⟩⟩;(try unfold qP);(try dsimp only);refine⟨_,rfl,_,rfl,.inl ⟨p,_,_,_,rfl,rfl,SqL.of d5.hp,a2,.inl ⟨_,_,rfl,rfl,?_⟩⟩⟩;(try unfold qP);(try dsimp only);obtain⟨zt,htb,ttb⟩:=lt.hd;have lzt:zt.length=2:=ttb.1.trans l2;have m20:=Int.emod_nonneg x3 (show (2:Int)≠0 by decide);have m21:=Int.emod_lt_of_pos x3 (show (0:Int) < 2 by decide);obtain⟨j,hj⟩:=Int.eq_ofNat_of_zero_le m20;have hj2:j < ts.length:=by omega
   obtain⟨tx,htx⟩:∃ tx,ts[j]?=some tx:=⟨_,List.getElem?_eq_getElem hj2⟩
   obtain⟨ut,hut,hut'⟩:=ttb.at_ htx;have mtx:=List.mem_of_getElem? htx;have mpl:tx.1∈ts.map (·.1):=List.mem_map_of_mem mtx;refine⟨_,rfl,_,rfl,.inl ⟨p,_,_,_,rfl,rfl,SqL.of d5.hp,a3,_,_,rfl,rfl,(by show (0:Int) < _;decide),.inl ⟨tb,_,_,_,rfl,rfl,SqL.of htb,(by rw[hj];exact qT hut),?_⟩⟩⟩;refine⟨ut,_,rfl,SqT.of hut',rfl,_,_,rfl,_,_,rfl,rfl,?_⟩;(try unfold qP);(try dsimp only);refine⟨_,rfl,_,rfl,.inl ⟨p,_,_,_,rfl,rfl,SqL.of d5.hp,a3,_,_,rfl,rfl,⟨by decide,by decide⟩,.inl ⟨_,_,rfl,rfl,_,_,rfl,rfl,?_⟩⟩⟩;(try unfold qP);(try dsimp only);have R0:=lt.rs tx mtx;have good:=lt.gd tx mtx;have okp:=tok tx mtx;obtain⟨pl,rq,rows⟩:=tx;dsimp only at R0 good okp mpl ⊢;clear hut hut' ttb htb htx hj hj2 m20 m21;obtain rfl|rfl|rfl|rfl|rfl|rfl|rfl:x0=0∨x0=1∨x0=2∨x0=3∨x0=4∨x0=5∨x0=6:=by omega
   · refine⟨_,rfl,.inl ⟨p,_,_,_,rfl,rfl,SqL.of d5.hp,a0,.inl ⟨rfl,_,rfl,QG rfl ?_⟩⟩⟩;refine⟨_,rfl,.inl ⟨p,_,_,_,rfl,rfl,SqL.of d5.hp,a2,.inl ⟨rfl,_,rfl,jE (fun g2=>?_) (fun g2=>?_)⟩⟩⟩
     · have g2':x2=11:=by injection g2
       refine⟨_,rfl,_,rfl,_,rfl,fun x dx f1 f2 ne=>⟨x,_,dx,nm,_,_,rfl,qd,ok,⟨by omega,by omega⟩,⟨by omega,by omega⟩,T.cl_Within,T.n_Within_name,T.n_Within_low,T.n_Within_high,fun H1 B1 h1=>⟨rfl,?_⟩⟩⟩;have S1:=qR f1 f2 B1;refine⟨qj (Nat.le_of_ble_eq_true rfl),fun d fd=>?_⟩;generalize hG:upd H1 d _=Hd;obtain⟨Sd,ed⟩:=qk hG fd;clear hG;refine⟨qj (Nat.le_of_ble_eq_true rfl),fun t ft=>?_⟩;refine fin (.b (.one ⟨nm,"within","",b+x1+x2,b+x1,x⟩)) d [] Hd (S1.trans Sd) (S1.none fd) (fun l m=>nomatch m) ⟨.b (.one (.within (Sd _ _ h1))),.b (.one (.within ok ⟨by show 0≤b+x1+x2;omega,by show b+x1+x2≤_;omega⟩ ⟨by show 0≤b+x1;omega,by show b+x1≤_;omega⟩)),rfl,(fun s m=>nomatch m),⟨[],ed,.nil⟩,⟨(fun _ m=>nomatch m),List.Pairwise.nil⟩,Nat.zero_le _,fun n=>?_⟩ t ft;refine Iff.trans ?_ (qgy (.inr (.inl rfl))).symm;exact⟨(fun⟨_,m,_⟩=>nomatch m),fun z=>by have z1:b+x1+x2≤n:=z.1;have z2:n≤b+x1:=z.2;omega⟩
     refine⟨_,rfl,.inl ⟨p,_,_,_,rfl,rfl,SqL.of d5.hp,a0,.inl ⟨rfl,_,rfl,QG rfl ?_⟩⟩⟩;refine⟨_,rfl,_,rfl,_,rfl,fun x dx f1 f2 ne=>⟨x,_,dx,nm,_,_,rfl,qd,ok,⟨by omega,by omega⟩,⟨by omega,by omega⟩,T.cl_Within,T.n_Within_name,T.n_Within_low,T.n_Within_high,fun H1 B1 h1=>⟨rfl,?_⟩⟩⟩;have S1:=qR f1 f2 B1;refine⟨_,rfl,_,rfl,qj (Nat.le_of_ble_eq_true rfl),fun u fu=>?_⟩;generalize hG:upd H1 u _=Hu;obtain⟨Su,eu⟩:=qk hG fu;clear hG;refine⟨qj (Nat.le_of_ble_eq_true rfl),fun d fd=>?_⟩;generalize hG:upd Hu d _=Hd;obtain⟨Sd,ed⟩:=qk hG fd;clear hG;have SD:=(S1.trans Su).trans Sd;have RD:Rs Hd d [(b+x1,b+x1+x2)]:=qbc (w:=(b+x1,b+x1+x2)) (Sd _ _ eu) ed;refine⟨qj (Nat.le_of_ble_eq_true rfl),fun t ft=>?_⟩;refine fin (.b (.one ⟨nm,"within","",b+x1,b+x1+x2,x⟩)) d [(b+x1,b+x1+x2)] Hd SD ((S1.trans Su).none fd) (fun l m=>nomatch m) ⟨.b (.one (.within (Sd _ _ (Su _ _ h1)))),.b (.one (.within ok ⟨by show 0≤b+x1;omega,by show b+x1≤_;omega⟩ ⟨by show 0≤b+x1+x2;omega,by show b+x1+x2≤_;omega⟩)),rfl,(fun s m=>nomatch m),RD,qip (by show b+x1≤b+x1+x2;omega),Nat.le_of_ble_eq_true rfl,fun n=>mem1.trans (qgy (ts:=ts) (e:=⟨nm,"within","",b+x1,b+x1+x2,x⟩) (.inr (.inl rfl))).symm⟩ t ft
   · refine⟨_,rfl,.inl ⟨p,_,_,_,rfl,rfl,SqL.of d5.hp,a0,.inl ⟨rfl,_,rfl,qG rfl (qG rfl ?_)⟩⟩⟩;refine⟨_,rfl,.inl ⟨p,_,_,_,rfl,rfl,SqL.of d5.hp,a0,.inl ⟨rfl,_,rfl,qG rfl ?_⟩⟩⟩;refine⟨_,rfl,.inl ⟨p,_,_,_,rfl,rfl,SqL.of d5.hp,a0,.inl ⟨rfl,_,rfl,QG rfl ?_⟩⟩⟩;refine⟨_,rfl,_,rfl,fun x dx f1 f2 ne=>⟨x,dx,nm,_,rfl,qd,ok,⟨by omega,by omega⟩,fun H1 B1 h1=>⟨rfl,?_⟩⟩⟩;have S1:=qR f1 f2 B1;refine⟨_,rfl,_,rfl,qj (Nat.le_of_ble_eq_true rfl),fun u fu=>?_⟩;generalize hG:upd H1 u _=Hu;obtain⟨Su,eu⟩:=qk hG fu;clear hG;refine⟨qj (Nat.le_of_ble_eq_true rfl),fun d fd=>?_⟩;generalize hG:upd Hu d _=Hd;obtain⟨Sd,ed⟩:=qk hG fd;clear hG;have SD:=(S1.trans Su).trans Sd;have RD:Rs Hd d [(b+x1,b+x1)]:=qbc (w:=(b+x1,b+x1)) (Sd _ _ eu) ed;refine⟨qj (Nat.le_of_ble_eq_true rfl),fun t ft=>?_⟩;refine fin (.b (.one ⟨nm,"at","",b+x1,b+x1,x⟩)) d [(b+x1,b+x1)] Hd SD ((S1.trans Su).none fd) (fun l m=>nomatch m) ⟨.b (.one (.at_ (Sd _ _ (Su _ _ h1)))),.b (.one (.at_ ok ⟨by show 0≤b+x1;omega,by show b+x1≤_;omega⟩)),rfl,(fun s m=>nomatch m),RD,qip (Int.le_refl _),Nat.le_of_ble_eq_true rfl,fun n=>mem1.trans (qgy (ts:=ts) (e:=⟨nm,"at","",b+x1,b+x1,x⟩) (.inr (.inr rfl))).symm⟩ t ft
   · refine⟨_,rfl,.inl ⟨p,_,_,_,rfl,rfl,SqL.of d5.hp,a0,.inl ⟨rfl,_,rfl,qG rfl (qG rfl ?_)⟩⟩⟩;refine⟨_,rfl,.inl ⟨p,_,_,_,rfl,rfl,SqL.of d5.hp,a0,.inl ⟨rfl,_,rfl,qG rfl ?_⟩⟩⟩;refine⟨_,rfl,.inl ⟨p,_,_,_,rfl,rfl,SqL.of d5.hp,a0,.inl ⟨rfl,_,rfl,qG rfl ?_⟩⟩⟩;refine⟨_,rfl,.inl ⟨p,_,_,_,rfl,rfl,SqL.of d5.hp,a0,.inl ⟨rfl,_,rfl,QG rfl ?_⟩⟩⟩;refine⟨_,rfl,_,rfl,_,rfl,fun x dx f1 f2 ne=>⟨x,dx,nm,pl,_,rfl,qd,ok,okp,⟨by omega,by omega⟩,fun H1 B1 h1=>⟨rfl,?_⟩⟩⟩;have S1:=qR f1 f2 B1;refine⟨_,rfl,_,rfl,_,rfl,rq,rows,_,_,rfl,R0.same S1,good,fun d r H2 fd S2 R2 c2 l2 m2=>⟨qj (Nat.le_of_ble_eq_true rfl),fun t ft=>?_⟩⟩;refine fin (.b (.one ⟨nm,"read",pl,b+x1+x3 / 2 - 30,b+x1+x3 / 2 - 30,x⟩)) d r H2 (S1.trans S2) (S1.none fd) (fun l m=>nomatch m) ⟨.b (.one (.read (S2 _ _ h1))),.b (.one (.read ok okp ⟨by show -10000000000≤b+x1+x3 / 2 - 30;omega,by show b+x1+x3 / 2 - 30≤_;omega⟩)),rfl,(fun s m=>by rw[qhu m];exact mpl),R2,c2,by omega,fun n=>(m2 n).trans (qk1 ndt (e:=⟨nm,"read",pl,b+x1+x3 / 2 - 30,b+x1+x3 / 2 - 30,x⟩) (.inr rfl) mtx rfl).symm⟩ t ft
   · refine⟨_,rfl,.inl ⟨p,_,_,_,rfl,rfl,SqL.of d5.hp,a0,.inl ⟨rfl,_,rfl,qG rfl (qG rfl ?_)⟩⟩⟩;refine⟨_,rfl,.inl ⟨p,_,_,_,rfl,rfl,SqL.of d5.hp,a0,.inl ⟨rfl,_,rfl,qG rfl ?_⟩⟩⟩;refine⟨_,rfl,.inl ⟨p,_,_,_,rfl,rfl,SqL.of d5.hp,a0,.inl ⟨rfl,_,rfl,qG rfl ?_⟩⟩⟩;refine⟨_,rfl,.inl ⟨p,_,_,_,rfl,rfl,SqL.of d5.hp,a0,.inl ⟨rfl,_,rfl,qG rfl ?_⟩⟩⟩;refine⟨_,rfl,.inl ⟨p,_,_,_,rfl,rfl,SqL.of d5.hp,a0,.inl ⟨rfl,_,rfl,QG rfl ?_⟩⟩⟩;refine⟨_,rfl,_,rfl,_,rfl,_,rfl,_,rfl,.inl ⟨p,_,_,_,rfl,rfl,SqL.of d5.hp,a2,.inl ⟨_,_,rfl,rfl,fun x dx f1 f2 ne=>⟨x,_,dx,nm,pl,_,_,rfl,qd,ok,okp,⟨by omega,by omega⟩,⟨by omega,by omega⟩,T.cl_Between,T.n_Between_name,T.n_Between_place,T.n_Between_low,T.n_Between_high,fun H1 B1 h1=>⟨rfl,?_⟩⟩⟩⟩⟩;have S1:=qR f1 f2 B1;refine⟨_,rfl,_,rfl,_,rfl,_,rfl,.inl ⟨p,_,_,_,rfl,rfl,SqL.of (S1 _ _ d5.hp),a2,.inl ⟨_,_,rfl,rfl,rq,rows,_,_,rfl,R0.same S1,good,fun d r H2 fd S2 R2 c2 l2 m2=>⟨qj (Nat.le_of_ble_eq_true rfl),fun t ft=>?_⟩⟩⟩⟩;refine fin (.b (.one ⟨nm,"between",pl,b+x1+x3 / 2 - 30,b+x1+x3 / 2 - 30+x2,x⟩)) d r H2 (S1.trans S2) (S1.none fd) (fun l m=>nomatch m) ⟨.b (.one (.between (S2 _ _ h1))),.b (.one (.between ok okp ⟨by show -10000000000≤b+x1+x3 / 2 - 30;omega,by show b+x1+x3 / 2 - 30≤_;omega⟩ ⟨by show -10000000000≤b+x1+x3 / 2 - 30+x2;omega,by show b+x1+x3 / 2 - 30+x2≤_;omega⟩)),rfl,(fun s m=>by rw[qhu m];exact mpl),R2,c2,by omega,fun n=>(m2 n).trans (qk1 ndt (e:=⟨nm,"between",pl,b+x1+x3 / 2 - 30,b+x1+x3 / 2 - 30+x2,x⟩) (.inl rfl) mtx rfl).symm⟩ t ft
   · refine⟨_,rfl,.inl ⟨p,_,_,_,rfl,rfl,SqL.of d5.hp,a0,.inl ⟨rfl,_,rfl,qG rfl (qG rfl ?_)⟩⟩⟩;refine⟨_,rfl,.inl ⟨p,_,_,_,rfl,rfl,SqL.of d5.hp,a0,.inl ⟨rfl,_,rfl,qG rfl ?_⟩⟩⟩;refine⟨_,rfl,.inl ⟨p,_,_,_,rfl,rfl,SqL.of d5.hp,a0,.inl ⟨rfl,_,rfl,qG rfl ?_⟩⟩⟩;refine⟨_,rfl,.inl ⟨p,_,_,_,rfl,rfl,SqL.of d5.hp,a0,.inl ⟨rfl,_,rfl,qG rfl ?_⟩⟩⟩;refine⟨_,rfl,.inl ⟨p,_,_,_,rfl,rfl,SqL.of d5.hp,a0,.inl ⟨rfl,_,rfl,qG rfl ?_⟩⟩⟩;refine⟨_,rfl,.inl ⟨p,_,_,_,rfl,rfl,SqL.of d5.hp,a0,.inl ⟨rfl,_,rfl,QG rfl ?_⟩⟩⟩;refine⟨_,rfl,_,rfl,.inl ⟨_,_,rfl,rfl,fun y1 dy1 f1 f2 ne=>⟨y1,_,dy1,"part",_,_,rfl,qd,(by decide +kernel),⟨by omega,by omega⟩,⟨by omega,by omega⟩,T.cl_Within,T.n_Within_name,T.n_Within_low,T.n_Within_high,fun H1 B1 h1=>⟨rfl,?_⟩⟩⟩⟩;have S1:=qR f1 f2 B1;refine⟨_,rfl,_,rfl,_,rfl,_,rfl,.inl ⟨_,_,rfl,rfl,fun y2 dy2 f1' f2' ne'=>⟨y2,_,dy2,nm,pl,_,_,rfl,qd,ok,okp,⟨by omega,by omega⟩,⟨by omega,by omega⟩,T.cl_Between,T.n_Between_name,T.n_Between_place,T.n_Between_low,T.n_Between_high,fun H2 B2 h2=>⟨rfl,qj (Nat.le_of_ble_eq_true rfl),fun lp flp=>?_⟩⟩⟩⟩;have S2:=qR f1' f2' B2;generalize hG:upd H2 lp _=H3;obtain⟨S3,e3⟩:=qk hG flp;clear hG;have T3:=(S1.trans S2).trans S3;(try unfold qP);(try dsimp only);refine⟨_,rfl,_,rfl,_,rfl,.inl ⟨_,_,rfl,rfl,rq,rows,_,_,rfl,R0.same T3,good,fun d0 r0 H4 fd0 S4 R4 c4 l4 m4=>?_⟩⟩;obtain⟨z4,h4,t4⟩:=R4;refine⟨d0,rfl,⟨_,SqL.of h4⟩,fun D fD=>?_⟩;refine zh (K:=K) (a:=d0) (xs:=z4) (D:=D) (fun i σ H5=>∃ (s0 s1:Option V) (ys:List V),σ=[s0,s1,some (.int (b+x1))]∧Same H4 H5∧H5 D=some (.lst ys)∧TupL pr H5 ys ((r0.take i).map (fun w:Int×Int=>(mx2 w.1 (b+x1),mn2 w.2 (b+x1+40))))) ⟨none,none,[],rfl,Same.new _ fD,qd,.nil⟩ (fun i σ H5 _ ⟨_,_,_,_,S5,_⟩=>SqL.of (S5 _ _ h4)) ?_ ?_
     · rintro i z σ H5 hz ⟨s0,s1,ys,rfl,S5,hD,ty⟩;obtain⟨w,u,hw,rfl,hu⟩:=t4.of hz;have ly:=ty.1;rw[List.length_map,List.length_take]at ly;refine⟨u,_,rfl,SqT.of (S5 _ _ hu),rfl,_,_,rfl,_,_,rfl,rfl,?_⟩;refine⟨_,rfl,_,rfl,_,_,rfl,_,rfl,_,rfl,.inl ⟨_,_,rfl,rfl,_,_,rfl,qj (Nat.le_of_ble_eq_true rfl),fun v fv=>?_⟩⟩;generalize hG:upd H5 v _=H6;obtain⟨S6,e6⟩:=qk hG fv;clear hG;refine⟨ys,S6 _ _ hD,qw (by omega),_,_,_,rfl,(S5.trans S6).put fD _,qd,?_⟩;rw[List.take_add_one,hw,List.map_append];exact((ty.same S6).snoc (p:=(mx2 w.1 (b+x1),mn2 w.2 (b+x1+40))) e6).put (S6 _ _ hD)
     rintro σ H5 ⟨s0,s1,ys,rfl,S5,hD,ty⟩;rw[t4.1,List.take_length]at ty;have T5:=(T3.trans S4).trans S5;have lys:=ty.1;rw[List.length_map]at lys;(try unfold qP);(try dsimp only);have en1:EnE a H5 ⟨"part","within","",b+x1,b+x1+40,y1⟩:=.within (S5 _ _ (S4 _ _ (S3 _ _ (S2 _ _ h1))));have en2:EnE a H5 ⟨nm,"between",pl,b+x1+x3 / 2 - 30,b+x1+x3 / 2 - 30+9,y2⟩:=.between (S5 _ _ (S4 _ _ (S3 _ _ h2)));have hlp:=S5 _ _ (S4 _ _ e3)
     have enk:∀ k∈[Bk.one ⟨"part","within","",b+x1,b+x1+40,y1⟩,Bk.one ⟨nm,"between",pl,b+x1+x3 / 2 - 30,b+x1+x3 / 2 - 30+9,y2⟩],EnK a H5 k:=fun k m=>by
       simp only[List.mem_cons,List.not_mem_nil,or_false]at m;rcases m with rfl|rfl
       · exact .one en1
       · exact .one en2
     refine⟨_,rfl,_,rfl,fun x dx f3 f4 ne3=>⟨x,dx,lp,nm,[.one ⟨"part","within","",b+x1,b+x1+40,y1⟩,.one ⟨nm,"between",pl,b+x1+x3 / 2 - 30,b+x1+x3 / 2 - 30+9,y2⟩],rfl,qd,ok,(qR (C:=a.c_Joint) f3 f4 (But.refl _ _)) _ _ hlp,Nat.le_of_ble_eq_true rfl,Nat.le_of_ble_eq_true rfl,fun k m=>(enk k m).sm (qR (C:=a.c_Joint) f3 f4 (But.refl _ _)),fun l H6 fl B6 hx6 hl6=>⟨rfl,?_⟩⟩⟩;have S6:=qR f3 f4 B6;have hD6:=S6 _ _ hD;have ty6:TupL pr H6 ys (r0.map (fun w:Int×Int=>(mx2 w.1 (b+x1),mn2 w.2 (b+x1+40)))):=ty.same S6;refine⟨_,rfl,D,rfl,⟨_,SqL.of hD6⟩,fun D2 fD2=>?_⟩;refine zh (K:=K) (a:=D) (xs:=ys) (D:=D2) (fun i σ H7=>∃ (s0 s1:Option V) (ws:List V),σ=[s0,s1]∧Same H6 H7∧H7 D2=some (.lst ws)∧TupL pr H7 ws (((r0.map (fun w:Int×Int=>(mx2 w.1 (b+x1),mn2 w.2 (b+x1+40)))).take i).filter fun w=>decide (w.1≤w.2))) ⟨none,none,[],rfl,Same.new _ fD2,qd,.nil⟩ (fun i σ H7 _ ⟨_,_,_,_,S7,_⟩=>SqL.of (S7 _ _ hD6)) ?_ ?_
     · rintro i z σ H7 hz ⟨s0,s1,ws,rfl,S7,hD7,tw⟩;obtain⟨w,u,hw,rfl,hu⟩:=ty6.of hz;have lw:=tw.1;have lf:=List.length_filter_le (fun w:Int×Int=>decide (w.1≤w.2)) ((r0.map (fun w:Int×Int=>(mx2 w.1 (b+x1),mn2 w.2 (b+x1+40)))).take i);rw[List.length_take,List.length_map]at lf;have tf:=jx (p:=fun w:Int×Int=>decide (w.1≤w.2)) hw;refine⟨u,_,rfl,SqT.of (S7 _ _ hu),rfl,_,_,rfl,_,_,rfl,rfl,?_⟩;refine⟨_,rfl,_,rfl,_,_,rfl,rfl,_,rfl,jE (fun g=>?_) (fun g=>?_)⟩
       · refine⟨_,rfl,_,rfl,qj (Nat.le_of_ble_eq_true rfl),fun v fv=>?_⟩;generalize hG:upd H7 v _=H8;obtain⟨S8,e8⟩:=qk hG fv;clear hG;refine⟨ws,S8 _ _ hD7,qw (by omega),_,_,_,rfl,(S7.trans S8).put fD2 _,qd,?_⟩;rw[tf,if_pos (decide_eq_true g)];exact((tw.same S8).snoc (p:=w) e8).put (S8 _ _ hD7)
       · refine⟨_,_,ws,rfl,S7,hD7,?_⟩;rw[tf,if_neg (by simpa using g),List.append_nil];exact tw
     rintro σ H7 ⟨s0,s1,ws,rfl,S7,hD7,tw⟩;rw[ty6.1,List.take_length]at tw;obtain⟨cc,cm⟩:=qli (lo:=b+x1) (hi:=b+x1+40) c4;refine⟨qj (Nat.le_of_ble_eq_true rfl),fun t ft=>?_⟩;refine fin (.jn nm x l [.one ⟨"part","within","",b+x1,b+x1+40,y1⟩,.one ⟨nm,"between",pl,b+x1+x3 / 2 - 30,b+x1+x3 / 2 - 30+9,y2⟩]) D2 _ H7 ((T5.trans S6).trans S7) ((T5.trans S6).none fD2) (fun q m=>by rw[List.mem_singleton.mp m];exact T5.none (Je (Je fl))) ⟨.jn (S7 _ _ hx6) (S7 _ _ hl6) (fun k m=>(enk k m).sm (S6.trans S7)),.jn ok (Nat.le_of_ble_eq_true rfl) (Nat.le_of_ble_eq_true rfl) (fun k m=>?_) (fun k m=>?_),rfl,(fun s ⟨k,mk,ms⟩=>?_),⟨ws,hD7,tw⟩,cc,?_,fun n=>?_⟩ t ft
     · simp only[List.mem_cons,List.not_mem_nil,or_false]at m;rcases m with rfl|rfl
       · exact⟨_,rfl⟩
       · exact⟨_,rfl⟩
     · simp only[List.mem_cons,List.not_mem_nil,or_false]at m;rcases m with rfl|rfl
       · exact .one (.within (show zC (.str "part")=true by decide +kernel) ⟨by show 0≤b+x1;omega,by show b+x1≤_;omega⟩ ⟨by show 0≤b+x1+40;omega,by show b+x1+40≤_;omega⟩)
       · exact .one (.between ok okp ⟨by show -10000000000≤b+x1+x3 / 2 - 30;omega,by show b+x1+x3 / 2 - 30≤_;omega⟩ ⟨by show -10000000000≤b+x1+x3 / 2 - 30+9;omega,by show b+x1+x3 / 2 - 30+9≤_;omega⟩)
     · simp only[List.mem_cons,List.not_mem_nil,or_false]at mk;rcases mk with rfl|rfl
       · exact nomatch ms
       · rw[qhu ms];exact mpl
     · have lf:=List.length_filter_le (fun w:Int×Int=>decide (w.1≤w.2)) (r0.map (fun w:Int×Int=>(mx2 w.1 (b+x1),mn2 w.2 (b+x1+40))));rw[List.length_map]at lf;omega
     · rw[cm,m4];have q1:=qgy (ts:=ts) (e:=⟨"part","within","",b+x1,b+x1+40,y1⟩) (.inr (.inl rfl)) (n:=n);have q2:=qk1 ndt (e:=⟨nm,"between",pl,b+x1+x3 / 2 - 30,b+x1+x3 / 2 - 30+9,y2⟩) (.inl rfl) mtx rfl (n:=n);constructor
       · rintro⟨h1,h2⟩;refine⟨⟨by omega,by omega⟩,fun k m=>?_⟩;simp only[List.mem_cons,List.not_mem_nil,or_false]at m;rcases m with rfl|rfl
         · exact q1.mpr h2
         · exact q2.mpr h1
       · rintro⟨_,h⟩;exact⟨q2.mp (h _ (List.mem_cons_of_mem _ List.mem_cons_self)),q1.mp (h _ List.mem_cons_self)⟩
   · refine⟨_,rfl,.inl ⟨p,_,_,_,rfl,rfl,SqL.of d5.hp,a0,.inl ⟨rfl,_,rfl,qG rfl (qG rfl ?_)⟩⟩⟩;refine⟨_,rfl,.inl ⟨p,_,_,_,rfl,rfl,SqL.of d5.hp,a0,.inl ⟨rfl,_,rfl,qG rfl ?_⟩⟩⟩;refine⟨_,rfl,.inl ⟨p,_,_,_,rfl,rfl,SqL.of d5.hp,a0,.inl ⟨rfl,_,rfl,qG rfl ?_⟩⟩⟩;refine⟨_,rfl,.inl ⟨p,_,_,_,rfl,rfl,SqL.of d5.hp,a0,.inl ⟨rfl,_,rfl,qG rfl ?_⟩⟩⟩;refine⟨_,rfl,.inl ⟨p,_,_,_,rfl,rfl,SqL.of d5.hp,a0,.inl ⟨rfl,_,rfl,qG rfl ?_⟩⟩⟩;refine⟨_,rfl,.inl ⟨p,_,_,_,rfl,rfl,SqL.of d5.hp,a0,.inl ⟨rfl,_,rfl,qG rfl ?_⟩⟩⟩;refine⟨_,rfl,.inl ⟨p,_,_,_,rfl,rfl,SqL.of d5.hp,a0,.inl ⟨rfl,_,rfl,QG rfl ?_⟩⟩⟩;refine⟨_,rfl,fun x dx f1 f2 ne=>⟨x,_,dx,nm,rfl,qd,ok,T.cl_Entry,T.n_Entry_name,fun H1 B1 h1=>⟨rfl,?_⟩⟩⟩;have S1:=qR f1 f2 B1;refine⟨qj (Nat.le_of_ble_eq_true rfl),fun u fu=>?_⟩;generalize hG:upd H1 u _=Hu;obtain⟨Su,eu⟩:=qk hG fu;clear hG;refine⟨qj (Nat.le_of_ble_eq_true rfl),fun d fd=>?_⟩;generalize hG:upd Hu d _=Hd;obtain⟨Sd,ed⟩:=qk hG fd;clear hG;have SD:=(S1.trans Su).trans Sd;have RD:Rs Hd d [(0,1000000000)]:=qbc (w:=(0,1000000000)) (Sd _ _ eu) ed;refine⟨qj (Nat.le_of_ble_eq_true rfl),fun t ft=>?_⟩;refine fin (.b (.one ⟨nm,"any","",0,1000000000,x⟩)) d [(0,1000000000)] Hd SD ((S1.trans Su).none fd) (fun l m=>nomatch m) ⟨.b (.one (.any (Sd _ _ (Su _ _ h1)))),.b (.one (.any ok)),rfl,(fun s m=>nomatch m),RD,qip (by decide),Nat.le_of_ble_eq_true rfl,fun n=>mem1.trans (qgy (ts:=ts) (e:=⟨nm,"any","",0,1000000000,x⟩) (.inl rfl)).symm⟩ t ft
   · refine⟨_,rfl,.inl ⟨p,_,_,_,rfl,rfl,SqL.of d5.hp,a0,.inl ⟨rfl,_,rfl,qG rfl (qG rfl ?_)⟩⟩⟩;refine⟨_,rfl,.inl ⟨p,_,_,_,rfl,rfl,SqL.of d5.hp,a0,.inl ⟨rfl,_,rfl,qG rfl ?_⟩⟩⟩;refine⟨_,rfl,.inl ⟨p,_,_,_,rfl,rfl,SqL.of d5.hp,a0,.inl ⟨rfl,_,rfl,qG rfl ?_⟩⟩⟩;refine⟨_,rfl,.inl ⟨p,_,_,_,rfl,rfl,SqL.of d5.hp,a0,.inl ⟨rfl,_,rfl,qG rfl ?_⟩⟩⟩;refine⟨_,rfl,.inl ⟨p,_,_,_,rfl,rfl,SqL.of d5.hp,a0,.inl ⟨rfl,_,rfl,qG rfl ?_⟩⟩⟩;refine⟨_,rfl,.inl ⟨p,_,_,_,rfl,rfl,SqL.of d5.hp,a0,.inl ⟨rfl,_,rfl,qG rfl ?_⟩⟩⟩;refine⟨_,rfl,.inl ⟨p,_,_,_,rfl,rfl,SqL.of d5.hp,a0,.inl ⟨rfl,_,rfl,qG rfl ?_⟩⟩⟩;refine⟨_,rfl,_,rfl,_,rfl,_,rfl,fun x dx f1 f2 ne=>⟨x,_,dx,nm,_,_,rfl,qd,ok,⟨by omega,by omega⟩,⟨by omega,by omega⟩,T.cl_Within,T.n_Within_name,T.n_Within_low,T.n_Within_high,fun H1 B1 h1=>⟨rfl,?_⟩⟩⟩;have S1:=qR f1 f2 B1;refine fun x' dx' f1' f2' ne'=>⟨x',dx',nm,⟨nm,"within","",b+x1,b+x1+x2,x⟩,rfl,qd,ok,(.within ((qR (C:=a.c_Sifted) f1' f2' (But.refl _ _)) _ _ h1)),.inr ⟨.inl rfl,by show b+x1+x2 - (b+x1) < 1000;omega⟩,fun H2 B2 h2=>⟨rfl,?_⟩⟩
     have S2:=qR f1' f2' B2;refine⟨_,rfl,_,rfl,_,_,rfl,by omega,by omega,by omega,by omega,by omega,fun d r H3 fd S3 R3 c3 l3 m3=>⟨qj (Nat.le_of_ble_eq_true rfl),fun t ft=>?_⟩⟩;refine fin (.b (.sift nm x' ⟨nm,"within","",b+x1,b+x1+x2,x⟩)) d r H3 ((S1.trans S2).trans S3) ((S1.trans S2).none fd) (fun l m=>nomatch m) ⟨.b (.sift (S3 _ _ h2) (.within (S3 _ _ (S2 _ _ h1)))),.b (.sift ok (.within ok ⟨by show 0≤b+x1;omega,by show b+x1≤_;omega⟩ ⟨by show 0≤b+x1+x2;omega,by show b+x1+x2≤_;omega⟩) (.inr ⟨.inl rfl,by show b+x1+x2 - (b+x1) < 60;omega⟩)),rfl,(fun s m=>nomatch m),R3,c3,l3,fun n=>(m3 n).trans (ZU (qgy (ts:=ts) (e:=⟨nm,"within","",b+x1,b+x1+x2,x⟩) (.inr (.inl rfl))).symm)⟩ t ft
end
def POOL:List Str:=["b","abc","bond","any","at","zz","entryabc","aa","joint","z","read","noon"]
theorem qeW:∀ n∈POOL,zC (.str n)=true:=by decide +kernel
theorem qkJ:POOL.Nodup:=by decide +kernel
def nmf (x s:Int) (k:Nat):Str:=POOL.getD ((x+(k:Int) * s) % 12).toNat ""
theorem qj2 {x s:Int} (k:Nat):atI (POOL.map V.str) ((x+(k:Int) * s) % 12)=some (.str (nmf x s k))∧nmf x s k∈POOL:=by
 have h1:=Int.emod_nonneg (x+(k:Int) * s) (show (12:Int)≠0 by decide);have h2:=Int.emod_lt_of_pos (x+(k:Int) * s) (show (0:Int) < 12 by decide);unfold nmf;obtain⟨j,hj⟩:=Int.eq_ofNat_of_zero_le h1;have hl:j < POOL.length:=by show j < 12;omega
 rw[hj,Int.toNat_natCast,List.getD_eq_getElem?_getD,List.getElem?_eq_getElem hl];exact⟨qT (by rw[List.getElem?_map,List.getElem?_eq_getElem hl];rfl),List.getElem_mem hl⟩
theorem qkT {x s:Int} (hs:s=1∨s=5∨s=7∨s=11) {i j:Nat} (hi:i < 7) (hj:j < 7) (h:nmf x s i=nmf x s j):i=j:=by
 unfold nmf at h;have h1:=Int.emod_nonneg (x+(i:Int) * s) (show (12:Int)≠0 by decide);have h2:=Int.emod_lt_of_pos (x+(i:Int) * s) (show (0:Int) < 12 by decide);have h3:=Int.emod_nonneg (x+(j:Int) * s) (show (12:Int)≠0 by decide);have h4:=Int.emod_lt_of_pos (x+(j:Int) * s) (show (0:Int) < 12 by decide);have l1:((x+(i:Int) * s) % 12).toNat < POOL.length:=by show _ < 12;omega
 have l2:((x+(j:Int) * s) % 12).toNat < POOL.length:=by show _ < 12;omega
 rw[List.getD_eq_getElem?_getD,List.getD_eq_getElem?_getD,List.getElem?_eq_getElem l1,List.getElem?_eq_getElem l2]at h;have e:=(List.getElem_inj qkJ).mp (show POOL[_]=POOL[_] from h);have e':(x+(i:Int) * s) % 12=(x+(j:Int) * s) % 12:=by omega
 rcases hs with rfl|rfl|rfl|rfl<;>omega
theorem qma {x s:Int} (hs:s=1∨s=5∨s=7∨s=11) {m:Nat} (hm:m≤6):((List.range m).map (nmf x s)).Nodup:=by
 refine List.pairwise_map.mpr (List.Pairwise.imp_of_mem ?_ (List.nodup_range (n:=m)));intro i j mi mj ne e;exact ne (qkT hs (by have:=List.mem_range.mp mi;omega) (by have:=List.mem_range.mp mj;omega) e)
inductive qaD (vs:List V) (H:Hp) (Q:VK):Prop
 | mk (q:Addr) (fs:List Int) (h1:vs=[.ref q]) (h2:Dr H q fs) (h3:∀ (l:Addr) (ns:List Str) (H':Hp),H l=none->Same H H'->H' l=some (.lst (ns.map V.str))->ns.length≤6->ns.Nodup->(∀ n∈ns,n∈POOL)->Q (.ref l) H'):qaD vs H Q
def qdv:Sp:=fun vs H Q _=>qaD vs H Q
section
variable {P:Program}{w:World}{K:Frag}{mg:Str->Option Value}{base:Heap}
theorem qhH {a:Ad} (T:Txt K mg a):qy P w K mg base CX0 1 a.f_ac a.fd_ac ["_law_xs"] qdv:=by
 refine T.d_ac.F.ok sc_Lnames (fun vs H Q E h=>?_) (fun cdv A outer s H vs Q E hr h=>?_)
 · obtain⟨q,fs,rfl,dr,kk⟩:=h;rfl
 · obtain⟨q,fs,rfl,dr,kk⟩:=h;have hU:=hr.units
   refine⟨_,(@qc _ _ _ _ _ (by exact(@qH _ _ 1 _ _ _ _ (by exact sc_Lnames.nd) (by rfl) (by exact Or.inr rfl) (by exact(@qM _ _ _ _ (by exact(@qa _ _ _ _ _ (by exact q9) (by exact(@qa _ _ _ _ _ (by exact q9) (by exact(@qa _ _ _ _ _ (by exact q9) (by exact(@qa _ _ _ _ _ (by exact q9) (by exact(@qa _ _ _ _ _ (by exact q9) (by exact(@qa _ _ _ _ _ (by exact q9) (by exact(@qa _ _ _ _ _ (by exact q9) (by exact(@qa _ _ _ _ _ (by exact q9) (by exact(@qa _ _ _ _ _ (by exact q9) (by exact(@qa _ _ _ _ _ (by exact q9) (by exact(@qa _ _ _ _ _ (by exact q9) (by exact(@qa _ _ _ _ _ (by exact q9) (by exact(@qb _)) (by rfl))) (by rfl))) (by rfl))) (by rfl))) (by rfl))) (by rfl))) (by rfl))) (by rfl))) (by rfl))) (by rfl))) (by rfl))) (by rfl))))) (by rfl) (by exact .inl rfl)))
     (by exact(qf (qu (zH rfl (CompOk.def ["_law_k","_law_pool","_law_xs"] [none,some 1,some 0]) (zR rfl T.n_range (qa (qr (r:=rIx K) qi (pv 0) qe (fun _ _=>rfl)) qb)) (fun _ _ _ _ _=>(qt (i:=0) (show List.Nodup (["_law_k","_law_pool","_law_xs"]:List Str) by decide +kernel) rfl (Or.inl rfl))) (fun _ _ _ _ _=>zQ) (fun _ _ _ _ _=>(qr (r:=rIx K) qi (pv 1) (qB zN (qB Qh (qr (r:=rIx K) qi (pv 2) qe (fun _ _=>rfl)) (qB QV (pv 0) (qr (r:=rIx K) qi (qM (qa qe (qa qe (qa qe (qa qe qb))))) (qr (r:=rIx K) qi (pv 2) qe (fun _ _=>rfl)) (fun _ _=>rfl)))) qe) (fun _ _=>rfl)))))))),?_⟩
   try dsimp only [ze,Cx.nox]
   obtain⟨x2,_,a2,x20,x21⟩:=dr.ix 2 (s:=4) rfl;obtain⟨x3,_,a3,x30,x31⟩:=dr.ix 3 (s:=12) rfl;obtain⟨x20',_,a20,m0,m1⟩:=dr.ix 20 (s:=7) rfl
   obtain⟨s,hs,hs'⟩:∃ s:Int,atI [V.int 1,V.int 5,V.int 7,V.int 11] x2=some (.int s)∧(s=1∨s=5∨s=7∨s=11):=by
     obtain rfl|rfl|rfl|rfl:x2=0∨x2=1∨x2=2∨x2=3:=by omega
     · exact⟨1,rfl,.inl rfl⟩
     · exact⟨5,rfl,.inr (.inl rfl)⟩
     · exact⟨7,rfl,.inr (.inr (.inl rfl))⟩
     · exact⟨11,rfl,.inr (.inr (.inr rfl))⟩
   refine⟨qj (Nat.le_of_ble_eq_true rfl),fun pl fpl=>?_⟩;generalize hG:upd H pl _=H1;obtain⟨S1,e1⟩:=qk hG fpl;clear hG;have hp:H1 pl=some (.lst (POOL.map V.str)):=e1;clear e1;(try unfold qP);(try dsimp only);refine⟨_,rfl,.inl ⟨q,_,_,_,rfl,rfl,SqL.of (S1 _ _ dr.hq),a20,_,rfl,by omega,by omega,fun D fD=>?_⟩⟩;refine Jx (lo:=0) (n:=x20'.toNat) (D:=D) (fun i σ H2=>∃ c0:Option V,σ=[c0,some (.ref pl),some (.ref q)]∧Same H1 H2∧H2 D=some (.lst (((List.range i).map (nmf x3 s)).map V.str))) ⟨none,rfl,Same.new _ fD,qd⟩ ?_ ?_
   · rintro i σ H2 hi ⟨c0,rfl,S2,hD⟩;refine⟨_,rfl,_,rfl,.inl ⟨q,_,_,_,rfl,rfl,SqL.of (S2 _ _ (S1 _ _ dr.hq)),a3,_,rfl,qj (Nat.le_of_ble_eq_true rfl),fun l1 f1=>?_⟩⟩;generalize hG:upd H2 l1 _=H3;obtain⟨S3,e3⟩:=qk hG f1;clear hG;refine⟨_,rfl,.inl ⟨q,_,_,_,rfl,rfl,SqL.of (S3 _ _ (S2 _ _ (S1 _ _ dr.hq))),a2,.inl ⟨l1,_,_,_,rfl,rfl,SqL.of e3,hs,?_⟩⟩⟩;obtain⟨hat,hin⟩:=qj2 (x:=x3) (s:=s) i;have s0:0≤s∧s≤11:=by omega
     refine⟨_,_,rfl,rfl,.inl ⟨by omega,by omega⟩,.inl ⟨_,_,rfl,rfl,_,_,rfl,rfl,(by show (0:Int) < _;decide),.inl ⟨pl,_,_,_,rfl,rfl,SqL.of (S3 _ _ (S2 _ _ hp)),(by rw[Int.zero_add];exact hat),_,S3 _ _ hD,qw ?_,_,rfl,(S2.trans S3).put fD _,?_⟩⟩⟩
     · rw[List.length_map,List.length_map,List.length_range];omega
     · rw[qd,List.range_succ,List.map_append,List.map_append];rfl
   rintro σ H2 ⟨c0,rfl,S2,hD⟩;refine kk D _ H2 (S1.none fD) (S1.trans S2) hD (by rw[List.length_map,List.length_range];omega) (qma hs' (by omega)) fun n m=>?_;obtain⟨k,_,rfl⟩:=List.mem_map.mp m;exact(qj2 k).2
end
theorem sz5:∀ k < 6,∀ m < 5,SZ[23+5 * k+m]?=B5[m]?:=by decide
theorem sz4:∀ k < 7,SZ[53+4 * k]?=some 6∧SZ[54+4 * k]?=some 6∧SZ[55+4 * k]?=some 8∧SZ[56+4 * k]?=some 4920:=by decide
theorem Dr.cut5 {H H':Hp}{q p:Addr}{fs:List Int} (d:Dr H q fs) {k:Nat} (hk:k < 6) (hp:H' p=some (.lst (((fs.drop (23+5 * k)).take 5).map V.int))):D5 H' p ((fs.drop (23+5 * k)).take 5):=by
 refine⟨hp,by rw[List.length_take,List.length_drop,d.ln];omega,fun m f s e1 e2=>?_⟩;have hm:m < 5:=(List.getElem?_eq_some_iff.mp e2).1;rw[List.getElem?_take_of_lt hm,List.getElem?_drop]at e1;exact d.bd _ f s e1 ((sz5 k hk m hm).trans e2)
theorem qmd {ts:Pls} (tg:∀ t∈ts,Good t.2.2) {g:Gk} (sp:SpG g) {n:Int} (h:MG ts g n):0≤n∧n≤1000000000:=by
 have me':∀ {wd nm pl:Str}{lo hi:Int}{W:List (Int×Int)},Spc wd nm pl lo hi->Due ts wd pl lo hi W->Mem W n->0≤n∧n≤1000000000:=fun sp due m=>by
   cases due with
   | @pl x0 hw mx ex =>
     obtain⟨w,mw,h1,h2⟩:=m;obtain⟨p,mp',rfl⟩:=List.mem_map.mp mw
     have:=qhy (tg x0 mx).ok p mp'
     unfold mp at h1 h2;dsimp only at h1 h2;split at h1<;>split at h2<;>omega
   | no hw =>
     obtain⟨w,mw,h1,h2⟩:=m;rw[List.mem_singleton.mp mw]at h1 h2;dsimp only at h1 h2
     cases sp with
     | any _=>exact⟨h1,h2⟩
     | within _ a1 a2=>omega
     | at_ _ a1=>omega
     | between _ _ _ _=>exact absurd hw (by decide)
     | read _ _ _=>exact absurd hw (by decide)
 have me:∀ {e:Ent},SpE e->ME ts e n->0≤n∧n≤1000000000:=fun sp ⟨W,due,m⟩=>me' sp due m
 cases g with
 | b k =>
   cases sp with
   | b sp =>
   cases k with
   | one e =>
     cases sp with
     | one sp=>exact me sp h
   | sift nm x e =>
     cases sp with
     | sift _ sp _=>exact me sp h.1
 | jn nm x l ps=>exact h.1
theorem Ey.bd {a:Ad}{H:Hp}{ts:Pls}{nm:Str}{g:Gk}{d:Addr}{r:List (Int×Int)} (h:Ey a H ts nm g d r) (tg:∀ t∈ts,Good t.2.2):∀ w∈r,0≤w.1∧w.1≤w.2∧w.2≤1000000000:=fun w m=>by
 have w0:=h.can.1 w m;have h1:=qmd tg h.sp ((h.mem w.1).mp ⟨w,m,Int.le_refl _,w0⟩);have h2:=qmd tg h.sp ((h.mem w.2).mp ⟨w,m,w0,Int.le_refl _⟩);omega
def Ea (a:Ad) (H:Hp) (ts:Pls) (ns:List Str) (es:List Gk) (ss:List (Addr×List (Int×Int))) (L:List Addr):Prop:=∀ (i:Nat) (nm:Str) (g:Gk) (s:Addr×List (Int×Int)),ns[i]?=some nm->es[i]?=some g->ss[i]?=some s->Ey a H ts nm g s.1 s.2∧∀ q∈L,s.1≠q∧∀ l∈qln g,l≠q
theorem Ea.sm {a:Ad}{H H':Hp}{ts:Pls}{ns:List Str}{es:List Gk}{ss:List (Addr×List (Int×Int))}{L:List Addr} (h:Ea a H ts ns es ss L) (s:Same H H'):Ea a H' ts ns es ss L:=fun i nm g x e1 e2 e3=>⟨(h i nm g x e1 e2 e3).1.sm s,(h i nm g x e1 e2 e3).2⟩
theorem Ea.up {a:Ad}{H:Hp}{ts:Pls}{ns:List Str}{es:List Gk}{ss:List (Addr×List (Int×Int))}{L:List Addr}{q:Addr}{zs:List V} (h:Ea a H ts ns es ss L) (m:q∈L) (hq:H q=some (.lst zs)) (ws:List V):Ea a (upd H q (.lst ws)) ts ns es ss L:=fun i nm g x e1 e2 e3 =>
 have h':=h i nm g x e1 e2 e3
 ⟨h'.1.up hq (h'.2 q m).1 (h'.2 q m).2 ws,h'.2⟩
theorem Ea.snoc {a:Ad}{H:Hp}{ts:Pls}{ns:List Str}{es:List Gk}{ss:List (Addr×List (Int×Int))}{L:List Addr}{nm:Str}{g:Gk}{s:Addr×List (Int×Int)} (h:Ea a H ts ns es ss L) (l1:es.length=ss.length) (hn:ns[es.length]?=some nm) (ey:Ey a H ts nm g s.1 s.2) (fr:∀ q∈L,s.1≠q∧∀ l∈qln g,l≠q):Ea a H ts ns (es++[g]) (ss++[s]) L:=fun i nm' g' s' e1 e2 e3=>by
 by_cases c:i < es.length
 · rw[List.getElem?_append_left c]at e2;rw[List.getElem?_append_left (by omega)]at e3;exact h i nm' g' s' e1 e2 e3
 · have hi:i=es.length:=by
     have:=(List.getElem?_eq_some_iff.mp e2).1
     rw[List.length_append]at this;simp only[List.length_cons,List.length_nil]at this;omega
   subst hi;rw[hn]at e1;rw[List.getElem?_append_right (Nat.le_refl _),Nat.sub_self]at e2;rw[List.getElem?_append_right (by omega),show es.length - ss.length=0 by omega]at e3;cases e1;cases e2;cases e3;exact⟨ey,fr⟩
theorem qkV {H:Hp}{a b:Addr}{ns:List Str}{Q:VK} (ok:∀ n∈ns,PyData.strOk n=true) (h1:H a=some (.lst (ns.map V.str))) (h2:H b=some (.lst [])) (q:Q (.bl (!ns.isEmpty)) H):qlS (.ref a) (.ref b) H Q:=by
 obtain⟨l1,l2⟩:=qap ns ok;have cl:PyData.canLay0 (.list (ns.map .str))=true:=by simp only[PyData.canLay0,l1]
 refine .inr ⟨_,_,.lst (.inl h1) (dv_strs _),.lst (.inl h2) .nil,shp cl (by simp only[PyData.depth];omega),rfl,?_⟩
 cases ns with
 | nil=>exact q
 | cons w ws=>exact q
structure Dw where
 ns:List Str
 ts:Pls
 es:List Gk
 ss:List (Addr×List (Int×Int))
 bs:List (Nat×Nat×Int)
abbrev prI (b:Nat×Nat×Int):List V:=[.int (b.1:Int),.int (b.2.1:Int),.int b.2.2]
structure Dn (a:Ad) (H:Hp) (t:Addr) (D:Dw):Prop where
 ht:∃ l1 l2 l3 l4 l5 zb,H t=some (.tup [.ref l1,.ref l2,.ref l3,.ref l4,.ref l5])∧H l1=some (.lst (D.ns.map V.str))∧Lt H l2 D.ts∧H l3=some (.lst (D.es.map fun g=>V.ref g.x))∧H l4=some (.lst (D.ss.map fun s=>V.ref s.1))∧H l5=some (.lst zb)∧TupL prI H zb D.bs
 el:D.es.length=D.ns.length
 sl:D.ss.length=D.ns.length
 ey:∀ (i:Nat) (nm:Str) (g:Gk) (s:Addr×List (Int×Int)),D.ns[i]?=some nm->D.es[i]?=some g->D.ss[i]?=some s->Ey a H D.ts nm g s.1 s.2
 nd:D.ns.Nodup
 nk:∀ n∈D.ns,n∈POOL
 few:D.ns.length≤6
 tl:D.ts.length≤2
 tn:∀ t∈D.ts,zC (.str t.1)=true
 td:(D.ts.map (·.1)).Nodup
 bd:∀ b∈D.bs,b.1 < D.ns.length∧b.2.1 < D.ns.length∧-2000000000≤b.2.2∧b.2.2≤2000000001
 bf:D.bs.length≤7
theorem Dn.sm {a:Ad}{H H':Hp}{t:Addr}{D:Dw} (h:Dn a H t D) (s:Same H H'):Dn a H' t D:=by
 obtain⟨l1,l2,l3,l4,l5,zb,h1,h2,h3,h4,h5,h6,h7⟩:=h.ht;exact⟨⟨l1,l2,l3,l4,l5,zb,s _ _ h1,s _ _ h2,h3.sm s,s _ _ h4,s _ _ h5,s _ _ h6,h7.same s⟩,h.el,h.sl,fun i nm g x e1 e2 e3=>(h.ey i nm g x e1 e2 e3).sm s,h.nd,h.nk,h.few,h.tl,h.tn,h.td,h.bd,h.bf⟩
inductive qaK (a:Ad) (vs:List V) (H:Hp) (Q:VK):Prop
 | mk (q tb:Addr) (fs:List Int) (b:Int) (ts:Pls) (h1:vs=[.ref q,.int b,.ref tb]) (h2:Dr H q fs) (h3:0≤b) (h4:b≤999999300) (h5:Lt H tb ts) (h6:ts.length=2) (h7:(∀ t∈ts,zC (.str t.1)=true)) (h8:(ts.map (·.1)).Nodup) (h9:∀ (t:Addr) (D:Dw) (H':Hp),Same H H'->D.ts=ts->Dn a H' t D->Q (.ref t) H'):qaK a vs H Q
def qdA (a:Ad):Sp:=fun vs H Q _=>qaK a vs H Q
section
variable {P:Program}{w:World}{K:Frag}{mg:Str->Option Value}{base:Heap}
theorem qhL {a:Ad} (T:Txt K mg a):qy P w K mg base CX0 10 a.f_ad a.fd_ad ["_law_xs","_law_base_here","_law_tables_here"] (qdA a):=by
 have G_ac:=qhH (P:=P) (w:=w) (base:=base) T;have G_9:=qhJ (P:=P) (w:=w) (base:=base) T;have G_aa:=qgv (P:=P) (w:=w) (base:=base) T;have G_ab:=qe0 (P:=P) (w:=w) (base:=base) T;refine T.d_ad.F.ok sc_Ldrawn (fun vs H Q E h=>?_) (fun cdv A outer s H vs Q E hr h=>?_)
 · obtain⟨q,tb,fs,b,ts,rfl,dr,b0,b1,lt,tl,tn,td,kk⟩:=h;rfl
 · obtain⟨q,tb,fs,b,ts,rfl,dr,b0,b1,lt,tl,tn,td,kk⟩:=h;have hU:=hr.units;have h_ac:Room (1) _:=hr.mono (by decide);have h_9:Room (9) _:=hr.mono (by decide);have h_aa:Room (1) _:=hr.mono (by decide);have h_ab:Room (1) _:=hr.mono (by decide)
   refine⟨_,(qc (qH (i:=3) sc_Ldrawn.nd rfl (Or.inl rfl) (qp G_ac h_ac rfl T.d_ac.m T.d_ac.k T.d_ac.b .nil qo (qa (pv 0) qb)))
     (qc (qH (i:=4) sc_Ldrawn.nd rfl (Or.inl rfl) (qM qb))
     (qc (qH (i:=5) sc_Ldrawn.nd rfl (Or.inl rfl) (qM qb))
     (qc (qH (i:=6) sc_Ldrawn.nd rfl (Or.inl rfl) (qM qb))
     (qc (zw PassesOwn.never rfl (zR rfl T.n_range (qa (qq qY (by rfl) T.n_len qL (qa (pv 3) qb)) qb)) (qt (i:=7) (sc_Ldrawn.nd) rfl (Or.inl rfl))
       (qc (qce (qp G_9 h_9 rfl T.d_9.m T.d_9.k T.d_9.b .nil qo (qa (qr (r:=rIx K) qi (pv 3) (pv 7) (fun _ _=>rfl)) (qa (z3 uSl (pv 0) (zK (qB Qh qe (qB QV qe (pv 7)))) (zK (qB Qh qe (qB QV qe (pv 7))))) (qa (pv 1) (qa (pv 2) qb))))) (zS rfl (qC (qt (i:=8) (sc_Ldrawn.nd) rfl (Or.inl rfl)) (qC (qt (i:=9) (sc_Ldrawn.nd) rfl (Or.inl rfl)) zx))))
       (qc (qA (Zi PySem.F.plainAttrs_list PySem.F.slot_list_append PySem.F.type_list_append zg (pv 4) (qa (pv 8) qb)))
       (qc (qA (Zi PySem.F.plainAttrs_list PySem.F.slot_list_append PySem.F.type_list_append zg (pv 5) (qa (pv 9) qb)))
       (qf (qA (Zi PySem.F.plainAttrs_list PySem.F.slot_list_append PySem.F.type_list_append zg (pv 6) (qa (qp G_aa h_aa rfl T.d_aa.m T.d_aa.k T.d_aa.b .nil qo (qa (pv 9) (qa (qr (r:=rIx K) qi (pv 0) (qB Qh qe (qB QV qe (pv 7))) (fun _ _=>rfl)) (qa (pv 1) qb)))) qb))))))))
     (qc (qH (i:=10) sc_Ldrawn.nd rfl (Or.inl rfl) (qM qb))
     (qc (zw PassesOwn.never rfl (zR rfl T.n_range (qa (qB QV (qr (r:=rIx K) qi (pv 0) qe (fun _ _=>rfl)) (zo qis (by rfl) T.n_int qeA (qa (Q1 (uNe hU) (pv 3) (qM qb) (qJ _)) qb))) qb)) (qt (i:=7) (sc_Ldrawn.nd) rfl (Or.inl rfl))
       (qc (qH (i:=11) sc_Ldrawn.nd rfl (Or.inl rfl) (qB zN (qr (r:=rIx K) qi (pv 0) (qB Qh qe (qB QV qe (pv 7))) (fun _ _=>rfl)) (qq qY (by rfl) T.n_len qL (qa (pv 3) qb))))
       (qc (qH (i:=12) sc_Ldrawn.nd rfl (Or.inl rfl) (qB zN (qr (r:=rIx K) qi (pv 0) (qB Qh qe (qB QV qe (pv 7))) (fun _ _=>rfl)) (qq qY (by rfl) T.n_len qL (qa (pv 3) qb))))
       (qc (qH (i:=13) sc_Ldrawn.nd rfl (Or.inl rfl) (qr (r:=rIx K) qi (pv 0) (qB Qh qe (qB QV qe (pv 7))) (fun _ _=>rfl)))
       (qc (qU (qz (uEq hU) (qr (r:=rIx K) qi (pv 0) qe (fun _ _=>rfl)) qe (qJ _))
         (qf (qH (i:=13) sc_Ldrawn.nd rfl (Or.inl rfl) (qB zN (pv 13) qe)))
         qx)
       (qf (qA (Zi PySem.F.plainAttrs_list PySem.F.slot_list_append PySem.F.type_list_append zg (pv 10) (qa (qZ (qa (pv 11) (qa (pv 12) (qa (qp G_ab h_ab rfl T.d_ab.m T.d_ab.k T.d_ab.b .nil qo (qa (pv 13) (qa (qr (r:=rIx K) qi (pv 0) (qB Qh qe (qB QV qe (pv 7))) (fun _ _=>rfl)) (qa (qB zG (qr (r:=rIx K) qi (pv 6) (pv 11) (fun _ _=>rfl)) (qr (r:=rIx K) qi (pv 6) (pv 12) (fun _ _=>rfl))) qb)))) qb)))) qb)))))))))
     (qf (qu (qZ (qa (pv 3) (qa (pv 2) (qa (pv 4) (qa (pv 5) (qa (pv 10) qb))))))))))))))),?_⟩
   try dsimp only [ze,Cx.nox]
   refine⟨_,rfl,q,fs,rfl,dr,fun l1 ns G f1 SG hl1 few nd nk=>?_⟩;(try unfold qP);(try dsimp only);refine⟨qj (Nat.le_of_ble_eq_true rfl),fun l3 f3=>?_⟩;generalize hG:upd G l3 _=H1;obtain⟨S1,e1⟩:=qk hG f3;clear hG;(try unfold qP);(try dsimp only);refine⟨qj (Nat.le_of_ble_eq_true rfl),fun l4 f4=>?_⟩;generalize hG:upd H1 l4 _=H2;obtain⟨S2,e2⟩:=qk hG f4;clear hG;(try unfold qP);(try dsimp only);refine⟨qj (Nat.le_of_ble_eq_true rfl),fun lm fm=>?_⟩;generalize hG:upd H2 lm _=H3;obtain⟨S3,e3⟩:=qk hG fm;clear hG;have T3:=(S1.trans S2).trans S3;have f4G:=S1.none f4;have fmG:=(S1.trans S2).none fm;have n34:l3≠l4:=qm e1 f4;have n3m:l3≠lm:=qm (S2 _ _ e1) fm;have n4m:l4≠lm:=qm e2 fm;have e13:=S3 _ _ (S2 _ _ e1);have e23:=S3 _ _ e2;clear S1 S2 S3;have ll1:(ns.map V.str).length=ns.length:=List.length_map _;(try unfold qP);(try dsimp only);refine qO (t:=qbG _ _ _) (fun σ' H'=>∃ (s7 s8 s9:Option V) (es:List Gk) (ss:List (Addr×List (Int×Int))) (ms:List Int),σ'=[some (.ref q),some (.int b),some (.ref tb),some (.ref l1),some (.ref l3),some (.ref l4),some (.ref lm),s7,s8,s9,none,none,none,none]∧es.length=ns.length∧ss.length=ns.length∧ms.length=ns.length∧Same G H'∧H' l3=some (.lst (es.map fun g=>V.ref g.x))∧H' l4=some (.lst (ss.map fun s=>V.ref s.1))∧H' lm=some (.lst (ms.map V.int))∧(∀ m∈ms,0≤m∧m≤1000000000)∧Ea a H' ts ns es ss [l3,l4,lm]) (fun N hN=>?_) ?_
   · refine⟨_,rfl,_,_,rfl,.inl ⟨_,SqL.of (T3 _ _ hl1),rfl⟩,_,rfl,by omega,by omega,Qa (lo:=0) (D:={ nx:=N,rt:=Q }) (fun j σ H'=>∃ (s7 s8 s9:Option V) (es:List Gk) (ss:List (Addr×List (Int×Int))) (ms:List Int),σ=[some (.ref q),some (.int b),some (.ref tb),some (.ref l1),some (.ref l3),some (.ref l4),some (.ref lm),s7,s8,s9,none,none,none,none]∧es.length=j∧ss.length=j∧ms.length=j∧Same G H'∧H' l3=some (.lst (es.map fun g=>V.ref g.x))∧H' l4=some (.lst (ss.map fun s=>V.ref s.1))∧H' lm=some (.lst (ms.map V.int))∧(∀ m∈ms,0≤m∧m≤1000000000)∧Ea a H' ts ns es ss [l3,l4,lm]) ⟨_,_,_,[],[],[],rfl,rfl,rfl,rfl,T3,e13,e23,e3,(fun _ m=>nomatch m),fun i nm g s h1 h2=>nomatch h2⟩ ?_ ?_⟩
     · rintro j σ H4 hj ⟨s7,s8,s9,es,ss,ms,rfl,le,ls,lm',S4,h3,h4,hm,bm,ea⟩;have hj':j < ns.length:=by omega
       have hn:ns[j]?=some ns[j]:=List.getElem?_eq_getElem hj';generalize ns[j]=nm at hn;have mn:=List.mem_of_getElem? hn;have okn:=qeW nm (nk nm mn);have hnat:atI (ns.map V.str) (j:Int)=some (.str nm):=qT (by rw[List.getElem?_map,hn];rfl);have dr4:=dr.sm (SG.trans S4);have ej:(5:Int) * (0+(j:Int))=((5 * j:Nat):Int):=by omega
       refine⟨_,rfl,_,rfl,.inl ⟨l1,_,_,_,rfl,rfl,SqL.of (S4 _ _ hl1),(by rw[Int.zero_add];exact hnat),_,rfl,_,rfl,_,_,rfl,rfl,.inl ⟨by omega,by omega⟩,.inl ⟨_,_,rfl,rfl,_,rfl,_,rfl,_,_,rfl,rfl,.inl ⟨by omega,by omega⟩,.inl ⟨_,_,rfl,rfl,_,rfl,.inl ⟨q,_,rfl,SqL.of dr4.hq,fun lx flx=>?_⟩⟩⟩⟩⟩
       have cu:qew (fs.map V.int) (some (23+5 * (0+(j:Int)))) (some (28+5 * (0+(j:Int))))=((fs.drop (23+5 * j)).take 5).map V.int:=by
         rw[show (23:Int)+5 * (0+(j:Int))=((23+5 * j:Nat):Int) by omega,show (28:Int)+5 * (0+(j:Int))=((28+5 * j:Nat):Int) by omega,qfg _ _ _ (by rw[List.length_map,dr.ln];omega) (by omega),show 28+5 * j - (23+5 * j)=5 by omega,← List.map_drop,← List.map_take]
       rw[cu];generalize hG:upd H4 lx _=H5;obtain⟨S5,e5⟩:=qk hG flx;clear hG;have S45:=S4.trans S5;refine⟨_,rfl,_,rfl,nm,lx,_,b,tb,ts,rfl,dr4.cut5 (by omega) e5,okn,b0,b1,(lt.sm SG).sm S45,tl,tn,td,fun t g d r H6 S6 ht ey fd fg=>?_⟩;have T6:=S45.trans S6;have h36:=S6 _ _ (S5 _ _ h3);have h46:=S6 _ _ (S5 _ _ h4);have hm6:=S6 _ _ (S5 _ _ hm)
       have fr:∀ q'∈[l3,l4,lm],d≠q'∧∀ l∈qln g,l≠q':=fun q' mq=>by
         have al:∃ o,H5 q'=some o:=by
           simp only[List.mem_cons,List.not_mem_nil,or_false]at mq;rcases mq with rfl|rfl|rfl
           · exact⟨_,S5 _ _ h3⟩
           · exact⟨_,S5 _ _ h4⟩
           · exact⟨_,S5 _ _ hm⟩
         obtain⟨o,al⟩:=al;exact⟨(qm al fd).symm,fun l ml=>(qm al (fg l ml)).symm⟩
       have E6:=(ea.sm (S5.trans S6)).snoc (s:=(d,r)) (by omega) (by rw[le];exact hn) ey fr;refine⟨t,_,rfl,SqT.of ht,rfl,_,_,rfl,_,_,rfl,rfl,?_⟩;(try unfold qP);(try dsimp only);refine⟨_,rfl,.inl ⟨rfl,_,SqL.of h36⟩,_,rfl,l3,_,_,rfl,rfl,h36,qw (by rw[List.length_map];omega),?_⟩;have E7:=E6.up (by simp) h36 ((es.map fun g=>V.ref g.x)++[.ref g.x]);have T7:=T6.put f3 (.lst ((es.map fun g=>V.ref g.x)++[.ref g.x]));have k7:∀ b o,H6 b=some o->b≠l3->(upd H6 l3 (.lst ((es.map fun g=>V.ref g.x)++[.ref g.x]))) b=some o:=fun b o e nb=>by rw[qh nb];exact e
       have h37:(upd H6 l3 (.lst ((es.map fun g=>V.ref g.x)++[.ref g.x]))) l3=some (.lst ((es++[g]).map fun g=>V.ref g.x)):=by rw[qd,List.map_append];rfl
       generalize upd H6 l3 (.lst ((es.map fun g=>V.ref g.x)++[.ref g.x]))=H7 at E7 T7 k7 h37 ⊢;have h47:=k7 _ _ h46 n34.symm;have hm7:=k7 _ _ hm6 n3m.symm;(try unfold qP);(try dsimp only);refine⟨_,rfl,.inl ⟨rfl,_,SqL.of h47⟩,_,rfl,l4,_,_,rfl,rfl,h47,qw (by rw[List.length_map];omega),?_⟩;have E8:=E7.up (by simp) h47 ((ss.map fun s=>V.ref s.1)++[.ref d]);have T8:=T7.put f4G (.lst ((ss.map fun s=>V.ref s.1)++[.ref d]));have k8:∀ b o,H7 b=some o->b≠l4->(upd H7 l4 (.lst ((ss.map fun s=>V.ref s.1)++[.ref d]))) b=some o:=fun b o e nb=>by rw[qh nb];exact e
       have h48:(upd H7 l4 (.lst ((ss.map fun s=>V.ref s.1)++[.ref d]))) l4=some (.lst ((ss++[(d,r)]).map fun s=>V.ref s.1)):=by rw[qd,List.map_append];rfl
       generalize upd H7 l4 (.lst ((ss.map fun s=>V.ref s.1)++[.ref d]))=H8 at E8 T8 k8 h48 ⊢;have h38:=k8 _ _ h37 n34;have hm8:=k8 _ _ hm7 n4m.symm;have dr8:=dr.sm (SG.trans T8);obtain⟨x27,_,a27,y0,y1⟩:=dr8.ix (23+5 * j+4) (s:=12) (sz5 j (by omega) 4 (by decide));have ey8:=(E8 j nm g (d,r) hn (by rw[List.getElem?_append_right (by omega),le,Nat.sub_self];rfl) (by rw[List.getElem?_append_right (by omega),ls,Nat.sub_self];rfl)).1;(try unfold qP);(try dsimp only);refine⟨_,rfl,.inl ⟨rfl,_,SqL.of hm8⟩,_,rfl,_,rfl,_,rfl,_,_,rfl,rfl,.inl ⟨by omega,by omega⟩,.inl ⟨_,_,rfl,rfl,.inl ⟨q,_,_,_,rfl,rfl,SqL.of dr8.hq,(by rw[show (27:Int)+5 * (0+(j:Int))=((23+5 * j+4:Nat):Int) by omega];exact a27),_,rfl,d,r,x27,b,rfl,ey8.rs,ey8.bd lt.gd,y0,by omega,b0,b1,fun m H9 S9 m0 m1=>?_⟩⟩⟩;have hm9:=S9 _ _ hm8;refine⟨lm,_,_,rfl,rfl,hm9,qw (by rw[List.length_map];omega),?_⟩;have E9:=(E8.sm S9).up (by simp) hm9 (ms.map V.int++[.int m]);refine⟨_,_,_,es++[g],ss++[(d,r)],ms++[m],rfl,by rw[List.length_append,le];rfl,by rw[List.length_append,ls];rfl,by rw[List.length_append,lm'];rfl,(T8.trans S9).put fmG _,by rw[qh n3m];exact S9 _ _ h38,by rw[qh n4m];exact S9 _ _ h48,by rw[qd,List.map_append];rfl,fun k mk=>?_,E9⟩;rcases List.mem_append.mp mk with mk|mk
       · exact bm k mk
       · rw[List.mem_singleton.mp mk];exact⟨m0,m1⟩
     · rintro σ H4 ⟨s7,s8,s9,es,ss,ms,rfl,le,ls,lm',rest⟩;exact hN _ _ ⟨_,_,_,es,ss,ms,rfl,by omega,by omega,by omega,rest⟩
   clear e13 e23 e3 e1 e2 T3;rintro _ H4 ⟨s7,s8,s9,es,ss,ms,rfl,le,ls,lm',S4,h3,h4,hm,bm,ea⟩;(try unfold qP);(try dsimp only);refine⟨qj (Nat.le_of_ble_eq_true rfl),fun l5 f5=>?_⟩;generalize hG:upd H4 l5 _=H5;obtain⟨S5,e5⟩:=qk hG f5;clear hG;(try unfold qP);(try dsimp only);have dr5:=(dr.sm SG).sm (S4.trans S5);have hl5:=S5 _ _ (S4 _ _ hl1);obtain⟨x22,_,a22,c0,c1⟩:=dr5.ix 22 (s:=8) rfl;have nok:∀ n∈ns,PyData.strOk n=true:=fun n m=>qe2 (qeW n (nk n m));refine qO (t:=qbG _ _ _) (fun σ' H'=>∃ (s7 s11 s12 s13:Option V) (zb:List V) (bs:List (Nat×Nat×Int)),σ'=[some (.ref q),some (.int b),some (.ref tb),some (.ref l1),some (.ref l3),some (.ref l4),some (.ref lm),s7,s8,s9,some (.ref l5),s11,s12,s13]∧Same H4 H'∧H' l5=some (.lst zb)∧TupL prI H' zb bs∧bs.length≤7∧∀ b∈bs,b.1 < ns.length∧b.2.1 < ns.length∧-2000000000≤b.2.2∧b.2.2≤2000000001) (fun N hN=>?_) ?_
   · refine⟨_,rfl,.inl ⟨q,_,_,_,rfl,rfl,SqL.of dr5.hq,a22,_,rfl,qj (Nat.le_of_ble_eq_true rfl),fun l0 fl0=>?_⟩⟩;generalize hG:upd H5 l0 _=H6;obtain⟨S6,e6⟩:=qk hG fl0;clear hG;refine qkV nok (S6 _ _ hl5) e6 (.inr ⟨_,rfl,_,_,rfl,rfl,.inl ⟨by omega,by omega⟩,_,rfl,?_,?_,Qa (lo:=0) (D:={ nx:=N,rt:=Q }) (fun j σ H'=>∃ (s7 s11 s12 s13:Option V) (zb:List V) (bs:List (Nat×Nat×Int)),σ=[some (.ref q),some (.int b),some (.ref tb),some (.ref l1),some (.ref l3),some (.ref l4),some (.ref lm),s7,s8,s9,some (.ref l5),s11,s12,s13]∧Same H4 H'∧H' l5=some (.lst zb)∧TupL prI H' zb bs∧bs.length=j∧∀ b∈bs,b.1 < ns.length∧b.2.1 < ns.length∧-2000000000≤b.2.2∧b.2.2≤2000000001) ⟨_,_,_,_,[],[],rfl,S5.trans S6,S6 _ _ e5,.nil,rfl,(fun _ m=>nomatch m)⟩ ?_ ?_⟩)
     · split<;>omega
     · split<;>omega
     · rintro j σ H7 hj ⟨s7,s11,s12,s13,zb,bs,rfl,S7,h5,tb5,lb,bb⟩
       have hj7:j < 7∧0 < ns.length:=by
         cases hn:ns with
         | nil=>rw[hn]at hj;simp at hj
         | cons _ _ =>
           rw[hn]at hj;simp at hj;exact⟨by omega,by simp⟩
       obtain⟨q1,q2,q3,q4⟩:=sz4 j hj7.1;have dr7:=(dr.sm SG).sm (S4.trans S7);obtain⟨y1,_,b1',y10,y11⟩:=dr7.ix _ q1;obtain⟨y2,_,b2',y20,y21⟩:=dr7.ix _ q2;obtain⟨y3,_,b3',y30,y31⟩:=dr7.ix _ q3;obtain⟨y4,_,b4',y40,y41⟩:=dr7.ix _ q4;obtain⟨x21,_,a21,_,_⟩:=dr7.ix 21 (s:=2) rfl;have hl7:=S7 _ _ (S4 _ _ hl1);have hm7:=S7 _ _ hm;have pos:(0:Int) < ((ns.map V.str).length:Int):=by rw[ll1];omega
       obtain⟨i1,hi1⟩:=Int.eq_ofNat_of_zero_le (Int.emod_nonneg y1 (show ((ns.map V.str).length:Int)≠0 by omega));have hi1l:i1 < ns.length:=by have:=Int.emod_lt_of_pos y1 pos;rw[ll1]at this hi1;omega
       obtain⟨i2,hi2⟩:=Int.eq_ofNat_of_zero_le (Int.emod_nonneg y2 (show ((ns.map V.str).length:Int)≠0 by omega));have hi2l:i2 < ns.length:=by have:=Int.emod_lt_of_pos y2 pos;rw[ll1]at this hi2;omega
       refine⟨_,rfl,_,rfl,_,_,rfl,rfl,.inl ⟨by omega,by omega⟩,.inl ⟨_,_,rfl,rfl,.inl ⟨q,_,_,_,rfl,rfl,SqL.of dr7.hq,(by rw[show (53:Int)+4 * (0+(j:Int))=((53+4 * j:Nat):Int) by omega];exact b1'),_,rfl,_,_,rfl,.inl ⟨_,SqL.of hl7,rfl⟩,_,_,rfl,rfl,pos,?_⟩⟩⟩;rw[hi1];(try unfold qP);(try dsimp only);refine⟨_,rfl,_,rfl,_,_,rfl,rfl,.inl ⟨by omega,by omega⟩,.inl ⟨_,_,rfl,rfl,.inl ⟨q,_,_,_,rfl,rfl,SqL.of dr7.hq,(by rw[show (54:Int)+4 * (0+(j:Int))=((54+4 * j:Nat):Int) by omega];exact b2'),_,rfl,_,_,rfl,.inl ⟨_,SqL.of hl7,rfl⟩,_,_,rfl,rfl,pos,?_⟩⟩⟩;rw[hi2];(try unfold qP);(try dsimp only);refine⟨_,rfl,_,rfl,_,_,rfl,rfl,.inl ⟨by omega,by omega⟩,.inl ⟨_,_,rfl,rfl,.inl ⟨q,_,_,_,rfl,rfl,SqL.of dr7.hq,(by rw[show (55:Int)+4 * (0+(j:Int))=((55+4 * j:Nat):Int) by omega];exact b3'),?_⟩⟩⟩;(try unfold qP);(try dsimp only);refine qO (t:=qmB _ _ _) (fun σ' H'=>∃ st:Int,σ'=[some (.ref q),some (.int b),some (.ref tb),some (.ref l1),some (.ref l3),some (.ref l4),some (.ref lm),some (.int (0+(j:Int))),s8,s9,some (.ref l5),some (.int (i1:Int)),some (.int (i2:Int)),some (.int st)]∧H'=H7) (fun N hN=>?_) ?_
       · refine⟨_,rfl,.inl ⟨q,_,_,_,rfl,rfl,SqL.of dr7.hq,a21,.inl ⟨rfl,_,rfl,jE (fun g=>?_) (fun g=>?_)⟩⟩⟩
         · exact⟨_,rfl,_,_,rfl,rfl,(by show (0:Int) < _;decide),hN _ _ ⟨_,rfl,rfl⟩⟩
         · exact hN _ _ ⟨_,rfl,rfl⟩
       rintro _ _ ⟨st,rfl,rfl⟩;obtain⟨m1,hm1⟩:∃ m1,ms[i1]?=some m1:=⟨_,List.getElem?_eq_getElem (by omega)⟩
       obtain⟨m2,hm2⟩:∃ m2,ms[i2]?=some m2:=⟨_,List.getElem?_eq_getElem (by omega)⟩
       have g1:=bm m1 (List.mem_of_getElem? hm1);have g2:=bm m2 (List.mem_of_getElem? hm2);refine⟨_,rfl,.inl ⟨rfl,_,SqL.of h5⟩,_,rfl,_,rfl,_,rfl,_,rfl,_,rfl,_,_,rfl,rfl,.inl ⟨by omega,by omega⟩,.inl ⟨_,_,rfl,rfl,.inl ⟨q,_,_,_,rfl,rfl,SqL.of dr7.hq,(by rw[show (56:Int)+4 * (0+(j:Int))=((56+4 * j:Nat):Int) by omega];exact b4'),_,rfl,_,rfl,.inl ⟨lm,_,_,_,rfl,rfl,SqL.of hm7,qT (by rw[List.getElem?_map,hm1];rfl),_,rfl,_,rfl,.inl ⟨lm,_,_,_,rfl,rfl,SqL.of hm7,qT (by rw[List.getElem?_map,hm2];rfl),_,_,rfl,rfl,st,y4,m1 - m2,rfl,y40,by omega,by omega,fun mi H8 S8 mi0 mi1=>⟨qj (Nat.le_of_ble_eq_true rfl),fun u fu=>?_⟩⟩⟩⟩⟩⟩;generalize hG:upd H8 u _=H9;obtain⟨S9,e9⟩:=qk hG fu;clear hG;have S79:=S8.trans S9;have lz:zb.length=bs.length:=tb5.1;refine⟨l5,_,_,rfl,rfl,S79 _ _ h5,qw (by omega),?_⟩;refine⟨_,_,_,_,_,bs++[(i1,i2,mi)],rfl,(S7.trans S79).put f5 _,qd,((tb5.same S79).snoc (p:=(i1,i2,mi)) e9).put (S79 _ _ h5),by rw[List.length_append,lb];rfl,fun b mb=>?_⟩;rcases List.mem_append.mp mb with mb|mb
       · exact bb b mb
       · rw[List.mem_singleton.mp mb];exact⟨hi1l,hi2l,mi0,mi1⟩
     · rintro σ H7 ⟨s7,s11,s12,s13,zb,bs,rfl,S7,h5,tb5,lb,bb⟩;exact hN _ _ ⟨_,_,_,_,zb,bs,rfl,S7,h5,tb5,by split at lb<;>omega,bb⟩
   rintro _ H5 ⟨s7,s11,s12,s13,zb,bs,rfl,S5,h5,tb5,lb,bb⟩;have T5:=S4.trans S5;refine⟨_,rfl,_,rfl,_,rfl,_,rfl,_,rfl,qj (Nat.le_of_ble_eq_true rfl),fun t ft=>?_⟩;have St:=Same.new (.tup [.ref l1,.ref tb,.ref l3,.ref l4,.ref l5]) ft;refine kk t ⟨ns,ts,es,ss,bs⟩ _ ((SG.trans T5).trans St) rfl ⟨⟨l1,tb,l3,l4,l5,zb,qd,St _ _ (T5 _ _ hl1),((lt.sm SG).sm T5).sm St,St _ _ (S5 _ _ h3),St _ _ (S5 _ _ h4),St _ _ h5,tb5.same St⟩,le,ls,fun i nm g s e1 e2 e3=>(ea i nm g s e1 e2 e3).1.sm (S5.trans St),nd,nk,few,Nat.le_of_eq tl,tn,td,bb,lb⟩
end
theorem qc7:∀ {l:List Str}{j:Nat}{x:Str},l.Nodup->l[j]?=some x->x∉l.take j
 | [],_,_,_,h=>by cases h
 | y::r,0,x,_,h=>by simp
 | y::r,j+1,x,nd,h=>by
   rw[List.nodup_cons]at nd;rw[List.take_succ_cons,List.mem_cons,not_or];have h':r[j]?=some x:=h;exact⟨fun e=>nd.1 (e▸List.mem_of_getElem? h'),qc7 nd.2 h'⟩
def nmB (D:Dw) (b:Nat×Nat×Int):Str×Str×Int:=(D.ns.getD b.1 "",D.ns.getD b.2.1 "",b.2.2)
theorem Dn.nms {a:Ad}{H:Hp}{t:Addr}{D:Dw} (h:Dn a H t D):D.es.map (·.nm)=D.ns:=by
 refine List.ext_getElem? fun i=>?_;rw[List.getElem?_map]
 cases hi:D.es[i]? with
 | none =>
   have:=List.getElem?_eq_none_iff.mp hi
   rw[List.getElem?_eq_none (by rw[← h.el];exact this)];rfl
 | some g =>
   have hl:=(List.getElem?_eq_some_iff.mp hi).1;have h1:D.ns[i]?=some (D.ns[i]'(by rw[← h.el];exact hl)):=List.getElem?_eq_getElem _;have h2:D.ss[i]?=some (D.ss[i]'(by rw[h.sl,← h.el];exact hl)):=List.getElem?_eq_getElem _;rw[h1];show some g.nm=_;rw[(h.ey i _ g _ h1 hi h2).nm]
theorem qfW {D:Dw}{b:Nat×Nat×Int} (h1:b.1 < D.ns.length) (h2:b.2.1 < D.ns.length):(nmB D b).1∈D.ns∧(nmB D b).2.1∈D.ns:=by
 unfold nmB;constructor
 · show D.ns.getD b.1 ""∈D.ns;rw[List.getD_eq_getElem?_getD,List.getElem?_eq_getElem h1];exact List.getElem_mem h1
 · show D.ns.getD b.2.1 ""∈D.ns;rw[List.getD_eq_getElem?_getD,List.getElem?_eq_getElem h2];exact List.getElem_mem h2
theorem qdl {ns:List Str}{i:Nat} (h:i < ns.length):atI (ns.map V.str) (i:Int)=some (.str (ns.getD i "")):=qT (by rw[List.getElem?_map,List.getElem?_eq_getElem h,List.getD_eq_getElem?_getD,List.getElem?_eq_getElem h];rfl)
inductive qaE (a:Ad) (vs:List V) (H:Hp) (Q:VK):Prop
 | mk (t:Addr) (D:Dw) (h1:vs=[.ref t]) (h2:Dn a H t D) (h3:∀ (d:Addr) (zs:List V) (H':Hp),H d=none->Same H H'->H' d=some (.lst zs)->TupL prB H' zs (D.bs.map (nmB D))->Q (.ref d) H'):qaE a vs H Q
def qaF (a:Ad):Sp:=fun vs H Q _=>qaE a vs H Q
inductive qaL (a:Ad) (vs:List V) (H:Hp) (Q:VK):Prop
 | mk (t:Addr) (D:Dw) (h1:vs=[.ref t]) (h2:Dn a H t D) (h3:∀ (x dx td ed bl:Addr) (ts:Pls) (H':Hp),(∀ b∈[x,td,ed,bl],H b=none)->Same H H'->ts.map tR=D.ts.map tR->Lg a H' x dx td ed bl ts D.es (D.bs.map (nmB D))->Q (.ref x) H'):qaL a vs H Q
def qaM (a:Ad):Sp:=fun vs H Q _=>qaL a vs H Q
inductive qdw (a:Ad) (vs:List V) (H:Hp) (Q:VK):Prop
 | mk (c:Int) (h1:vs=[.int c]) (h2:∀ (t:Addr) (D:Dw) (H':Hp),Same H H'->Dn a H' t D->D.ts.length=2->Q (.ref t) H'):qdw a vs H Q
def qhc (a:Ad):Sp:=fun vs H Q _=>qdw a vs H Q
section
variable {P:Program}{w:World}{K:Frag}{mg:Str->Option Value}{base:Heap}
theorem qee {a:Ad} (T:Txt K mg a):qy P w K mg base CX0 1 a.f_B a.fd_B ["_law_drawn_here"] (qaF a):=by
 refine T.d_B.F.ok qhi (fun vs H Q E h=>?_) (fun cdv A outer s H vs Q E hr h=>?_)
 · obtain⟨t,D,rfl,dn,kk⟩:=h;rfl
 · obtain⟨t,D,rfl,dn,kk⟩:=h;have hu:=qI hr;refine⟨_,(qf (qu (zH rfl (CompOk.def ["_law_later","_law_earlier","_law_minutes_here","_law_drawn_here"] [none,none,none,some 0]) (qX (qr (r:=rIx K) qi (pv 0) qe (fun _ _=>rfl))) (fun _ _ _ _ _=>(show PG _ _ (qjs K 3 _) from (zS rfl (qC (qt (i:=0) (show List.Nodup (["_law_later","_law_earlier","_law_minutes_here","_law_drawn_here"]:List Str) by decide +kernel) rfl (Or.inl rfl)) (qC (qt (i:=1) (show List.Nodup (["_law_later","_law_earlier","_law_minutes_here","_law_drawn_here"]:List Str) by decide +kernel) rfl (Or.inl rfl)) (qC (qt (i:=2) (show List.Nodup (["_law_later","_law_earlier","_law_minutes_here","_law_drawn_here"]:List Str) by decide +kernel) rfl (Or.inl rfl)) zx)))))) (fun _ _ _ _ _=>zQ) (fun _ _ _ _ _=>(qZ (qa (qr (r:=rIx K) qi (qr (r:=rIx K) qi (pv 3) qe (fun _ _=>rfl)) (pv 0) (fun _ _=>rfl)) (qa (qr (r:=rIx K) qi (qr (r:=rIx K) qi (pv 3) qe (fun _ _=>rfl)) (pv 1) (fun _ _=>rfl)) (qa (pv 2) qb)))))))),?_⟩;(try dsimp only [ze,Cx.nox]);obtain⟨l1,l2,l3,l4,l5,zb,h0,h1,h2,h3,h4,h5,h6⟩:=dn.ht;refine⟨_,rfl,.inr (.inl ⟨t,_,_,_,rfl,rfl,SqT.of h0,rfl,l5,rfl,⟨_,SqL.of h5⟩,fun E fE=>?_⟩)⟩;refine zh (K:=K) (a:=l5) (xs:=zb) (D:=E) (fun i σ H2=>∃ (s0 s1 s2:Option V) (ys:List V),σ=[s0,s1,s2,some (.ref t)]∧Same H H2∧H2 E=some (.lst ys)∧TupL prB H2 ys ((D.bs.take i).map (nmB D))) ⟨none,none,none,[],rfl,Same.new _ fE,qd,.nil⟩ (fun i σ H2 _ ⟨_,_,_,_,_,S,_⟩=>SqL.of (S _ _ h5)) ?_ ?_
   · rintro i z σ H2 hz ⟨s0,s1,s2,ys,rfl,S2,hE,ty⟩;obtain⟨b,u,hb,rfl,hu⟩:=h6.of hz;obtain⟨b1,b2,_,_⟩:=dn.bd b (List.mem_of_getElem? hb);have bf:=dn.bf;have ly:=ty.1;rw[List.length_map,List.length_take]at ly;refine⟨u,_,rfl,SqT.of (S2 _ _ hu),rfl,_,_,rfl,_,_,rfl,_,_,rfl,rfl,?_⟩;refine⟨_,rfl,.inr (.inl ⟨t,_,_,_,rfl,rfl,SqT.of (S2 _ _ h0),rfl,_,rfl,.inl ⟨l1,_,_,_,rfl,rfl,SqL.of (S2 _ _ h1),qdl b1,_,rfl,.inr (.inl ⟨t,_,_,_,rfl,rfl,SqT.of (S2 _ _ h0),rfl,_,rfl,.inl ⟨l1,_,_,_,rfl,rfl,SqL.of (S2 _ _ h1),qdl b2,_,rfl,qj (Nat.le_of_ble_eq_true rfl),fun v fv=>?_⟩⟩)⟩⟩)⟩;generalize hG:upd H2 v _=H3;obtain⟨S3,e3⟩:=qk hG fv;clear hG;refine⟨ys,S3 _ _ hE,qw (by omega),_,_,_,_,rfl,(S2.trans S3).put fE _,qd,?_⟩;rw[List.take_add_one,hb,List.map_append];exact((ty.same S3).snoc (p:=nmB D b) e3).put (S3 _ _ hE)
   rintro σ H2 ⟨s0,s1,s2,ys,rfl,S2,hE,ty⟩;rw[h6.1,List.take_length]at ty;exact kk E ys H2 fE S2 hE ty
theorem qef {a:Ad} (T:Txt K mg a):qy P w K mg base CX0 8 a.f_C a.fd_C ["_law_drawn_here"] (qaM a):=by
 have G_H:=qbh (P:=P) (w:=w) (base:=base) T;have G_B:=qee (P:=P) (w:=w) (base:=base) T;have G_l:=ZL (P:=P) (w:=w) (base:=base) T;have G_F:=qck (P:=P) (w:=w) (base:=base) T;have G_r:=qbj (P:=P) (w:=w) (base:=base) T;have G_q:=Q3 (P:=P) (w:=w) (base:=base) T;refine T.d_C.F.ok sc_Lbuilt (fun vs H Q E h=>?_) (fun cdv A outer s H vs Q E hr h=>?_)
 · obtain⟨t,D,rfl,dn,kk⟩:=h;rfl
 · obtain⟨t,D,rfl,dn,kk⟩:=h;have hu:=qI hr;have h_H:Room (1+1) _:=hr.mono (by decide);have h_B:Room (1) _:=hr.mono (by decide);have h_l:Room (2) _:=hr.mono (by decide);have h_F:Room (3) _:=hr.mono (by decide);have h_r:Room (6) _:=hr.mono (by decide);have h_q:Room (6+1) _:=hr.mono (by decide)
   refine⟨_,(qc (qH (i:=1) sc_Lbuilt.nd rfl (Or.inl rfl) (qfQ T.M_Log G_H h_H rfl T.g_Log T.d_H.b .nil qo))
     (qc (zw PassesOwn.never rfl (qX (qr (r:=rIx K) qi (pv 0) qe (fun _ _=>rfl))) (zS rfl (qC (qt (i:=2) (sc_Lbuilt.nd) rfl (Or.inl rfl)) (qC (qt (i:=3) (sc_Lbuilt.nd) rfl (Or.inl rfl)) zx)))
       (qf (qA (qF (pv 1) T.cl_Log T.d_l.mt G_l h_l T.d_l.b .nil qo (qa (pv 2) (qa (zL T.M_Table G_q h_q rfl T.g_Table T.d_q.b .nil qo (qa (zo (r:=qiU K) zm (by rfl) T.n_list zf (qa (pv 3) qb)) qb)) qb))))))
     (qc (zw PassesOwn.never rfl (qX (qr (r:=rIx K) qi (pv 0) qe (fun _ _=>rfl))) (qt (i:=4) (sc_Lbuilt.nd) rfl (Or.inl rfl))
       (qf (qA (qF (pv 1) T.cl_Log T.d_F.mt G_F h_F T.d_F.b .nil qo (qa (pv 4) qb)))))
     (qc (zw PassesOwn.never rfl (qX (qp G_B h_B rfl T.d_B.m T.d_B.k T.d_B.b .nil qo (qa (pv 0) qb))) (zS rfl (qC (qt (i:=5) (sc_Lbuilt.nd) rfl (Or.inl rfl)) (qC (qt (i:=6) (sc_Lbuilt.nd) rfl (Or.inl rfl)) (qC (qt (i:=7) (sc_Lbuilt.nd) rfl (Or.inl rfl)) zx))))
       (qf (qA (qF (pv 1) T.cl_Log T.d_r.mt G_r h_r T.d_r.b .nil qev (qa (pv 5) (qa (pv 6) (qa (pv 7) qb)))))))
     (qf (qu (pv 1))))))),?_⟩
   try dsimp only [ze,Cx.nox]
   obtain⟨l1,l2,l3,l4,l5,zb,h0,h1,h2,h3,h4,h5,h6⟩:=dn.ht;refine fun x dx f1 f2 ne1=>⟨x,dx,rfl,qd,fun td ed bl L1 BL1 g1 g2 g3 hL1=>⟨rfl,?_⟩⟩
   have SL1:Same H L1:=qR f1 f2 BL1;have ftd:=Je (Je g1);have fed:=Je (Je g2);have fbl:=Je (Je g3);have nms:=dn.nms;obtain⟨zt,ht2,tt2⟩:=h2.hd;(try unfold qP);(try dsimp only);refine qO (t:=qbG _ _ _) (fun σ' H'=>∃ (s2 s3:Option V) (ts:Pls),σ'=[some (.ref t),some (.ref x),s2,s3,none,none,none,none]∧Same H H'∧Lg a H' x dx td ed bl ts [] []∧ts.map tR=D.ts.map tR) (fun N hN=>?_) ?_
   · refine⟨_,rfl,.inr (.inl ⟨t,_,_,_,rfl,rfl,SqT.of (SL1 _ _ h0),rfl,l2,rfl,⟨_,SqL.of (SL1 _ _ ht2)⟩,zl (K:=K) (a:=l2) (xs:=zt) (D:={ nx:=N,rt:=Q }) (fun j σ H'=>∃ (s2 s3:Option V) (ts:Pls),σ=[some (.ref t),some (.ref x),s2,s3,none,none,none,none]∧Same H H'∧Lg a H' x dx td ed bl ts [] []∧ts.map tR=(D.ts.take j).map tR) ⟨_,_,[],rfl,SL1,hL1,rfl⟩ (fun j σ H' _ ⟨_,_,_,_,S,_⟩=>SqL.of (S _ _ ht2)) ?_ ?_⟩)⟩
     · rintro j z σ H2 hz ⟨s2,s3,ts,rfl,S2,hL2,et⟩;obtain⟨p0,u,hp0,rfl,hu⟩:=tt2.of hz;have m0:=List.mem_of_getElem? hp0;obtain⟨zr,hq,tz⟩:=(h2.rs p0 m0).same S2;have good:=h2.gd p0 m0;have hj:j < D.ts.length:=(List.getElem?_eq_some_iff.mp hp0).1;have tl:=dn.tl
       have lts:ts.length=j:=by
         have:=congrArg List.length et
         rw[List.length_map,List.length_map,List.length_take]at this;omega
       have no:p0.1∉ts.map (·.1):=by
         rw[qe7 et,List.map_take];exact qc7 dn.td (by rw[List.getElem?_map,hp0];rfl)
       refine⟨u,_,rfl,SqT.of (S2 _ _ hu),rfl,_,_,rfl,_,_,rfl,rfl,?_⟩;refine⟨_,rfl,x,dx,_,rfl,hL2.hx,rfl,_,rfl,_,rfl,p0.2.1,zr,rfl,.inl (SqL.of hq),fun lr fl t' dt f1' f2' ne'=>?_⟩;have Sl:=Same.new (.lst zr) fl;have Sm:=qR (C:=a.c_Table) f1' f2' (But.refl _ _);refine⟨t',dt,lr,p0.2.2,rfl,qd,Rs.same ⟨zr,qd,tz.same Sl⟩ Sm,good,fun G B tbl=>⟨rfl,?_⟩⟩;have SG:=Sl.trans (qR f1' f2' B);refine⟨x,dx,td,ed,bl,ts,[],[],p0.1,t',p0.2.2,rfl,hL2.sm SG,dn.tn p0 m0,(fun _=>by omega),by omega,tbl,good,fun H3 B3 hL3=>?_⟩;have ep:qgq ts p0.1 t' p0.2.2=ts++[(p0.1,t',p0.2.2)]:=if_neg no;rw[ep]at hL3;refine⟨_,_,_,rfl,fun b o e=>B3 b o (SG b o (S2 b o e)) (qm e ftd),hL3,?_⟩;rw[List.map_append,et,List.take_add_one,hp0,List.map_append];rfl
     · rintro σ H2 ⟨s2,s3,ts,rfl,S2,hL2,et⟩;rw[tt2.1,List.take_length]at et;exact hN _ _ ⟨_,_,ts,rfl,S2,hL2,et⟩
   rintro _ H2 ⟨s2,s3,ts,rfl,S2,hL2,et⟩;have kt:=qe7 et;refine qO (t:=qbG _ _ _) (fun σ' H'=>∃ (s4:Option V),σ'=[some (.ref t),some (.ref x),s2,s3,s4,none,none,none]∧Same H H'∧Lg a H' x dx td ed bl ts D.es []) (fun N hN=>?_) ?_
   · refine⟨_,rfl,.inr (.inl ⟨t,_,_,_,rfl,rfl,SqT.of (S2 _ _ h0),rfl,l3,rfl,⟨_,SqL.of (S2 _ _ h3)⟩,zl (K:=K) (a:=l3) (xs:=D.es.map fun g=>V.ref g.x) (D:={ nx:=N,rt:=Q }) (fun j σ H'=>∃ (s4:Option V),σ=[some (.ref t),some (.ref x),s2,s3,s4,none,none,none]∧Same H H'∧Lg a H' x dx td ed bl ts (D.es.take j) []) ⟨_,rfl,S2,hL2⟩ (fun j σ H' _ ⟨_,_,S,_⟩=>SqL.of (S _ _ h3)) ?_ ?_⟩)⟩
     · rintro j z σ H3 hz ⟨s4,rfl,S3,hL3⟩
       obtain⟨g,hg,rfl⟩:∃ g,D.es[j]?=some g∧V.ref g.x=z:=by
         rw[List.getElem?_map]at hz;exact Option.map_eq_some_iff.mp hz
       have hj:j < D.es.length:=(List.getElem?_eq_some_iff.mp hg).1;have el:=dn.el;have sl:=dn.sl;have few:=dn.few;have ey:=dn.ey j _ g _ (List.getElem?_eq_getElem (by omega)) hg (List.getElem?_eq_getElem (by omega));refine⟨_,rfl,x,dx,_,rfl,hL3.hx,rfl,_,rfl,x,dx,td,ed,bl,ts,D.es.take j,[],g,rfl,hL3,(ey.sm S3).en,ey.sp,?_,fun s hs=>by rw[kt];exact ey.pl s hs,by rw[List.length_take];omega,fun H4 B4 hL4=>?_⟩
       · rw[List.map_take];exact qc7 (by rw[nms];exact dn.nd) (by rw[List.getElem?_map,hg];rfl)
       · refine⟨_,rfl,fun b o e=>B4 b o (S3 b o e) (qm e fed),?_⟩;rw[List.take_add_one,hg];exact hL4
     · rintro σ H3 ⟨s4,rfl,S3,hL3⟩;rw[List.length_map,List.take_length]at hL3;exact hN _ _ ⟨_,rfl,S3,hL3⟩
   rintro _ H3 ⟨s4,rfl,S3,hL3⟩;refine qO (t:=qbG _ _ _) (fun σ' H'=>∃ (s5 s6 s7:Option V),σ'=[some (.ref t),some (.ref x),s2,s3,s4,s5,s6,s7]∧Same H H'∧Lg a H' x dx td ed bl ts D.es (D.bs.map (nmB D))) (fun N hN=>?_) ?_
   · refine⟨_,rfl,t,D,rfl,dn.sm S3,fun d zs H4 fd S4 hd tz=>?_⟩
     have hdbl:d≠bl:=by
       obtain⟨_,hb,_⟩:=hL3.hb;exact(qm hb fd).symm
     refine⟨d,rfl,⟨_,SqL.of hd⟩,zl (K:=K) (a:=d) (xs:=zs) (D:={ nx:=N,rt:=Q }) (fun j σ H'=>∃ (s5 s6 s7:Option V),σ=[some (.ref t),some (.ref x),s2,s3,s4,s5,s6,s7]∧Same H H'∧But bl H4 H'∧Lg a H' x dx td ed bl ts D.es ((D.bs.map (nmB D)).take j)) ⟨_,_,_,rfl,S3.trans S4,But.refl _ _,hL3.sm S4⟩ (fun j σ H' _ ⟨_,_,_,_,_,B,_⟩=>SqL.of (B _ _ hd hdbl)) ?_ ?_⟩
     · rintro j z σ H5 hz ⟨s5,s6,s7,rfl,S5,B5,hL5⟩;obtain⟨b,u,hb,rfl,hu0⟩:=tz.of hz
       obtain⟨b0,hb0,eb⟩:∃ b0,D.bs[j]?=some b0∧nmB D b0=b:=by
         rw[List.getElem?_map]at hb;exact Option.map_eq_some_iff.mp hb
       obtain⟨c1,c2,c3,c4⟩:=dn.bd b0 (List.mem_of_getElem? hb0);obtain⟨i1,i2⟩:=qfW c1 c2;have bf:=dn.bf;obtain⟨zb3,hb3,_⟩:=(hL3.sm S4).hb;have hu:=B5 _ _ hu0 (zI hu0 hb3 (by intro z;cases z));refine⟨u,_,rfl,SqT.of hu,rfl,_,_,rfl,_,_,rfl,_,_,rfl,rfl,?_⟩;refine⟨_,rfl,x,dx,_,rfl,hL5.hx,rfl,_,rfl,_,rfl,_,rfl,x,dx,td,ed,bl,ts,D.es,(D.bs.map (nmB D)).take j,b.1,b.2.1,b.2.2,rfl,hL5,.inl ⟨by rw[nms,← eb];exact i1,by rw[nms,← eb];exact i2,by rw[← eb];exact c3,by rw[← eb];exact c4,by rw[List.length_take,List.length_map];omega,fun H6 B6 hL6=>?_⟩⟩;refine⟨_,_,_,rfl,fun c o e=>B6 c o (S5 c o e) (qm e fbl),fun c o e n=>B6 c o (B5 c o e n) n,?_⟩;rw[List.take_add_one,hb];exact hL6
     · rintro σ H5 ⟨s5,s6,s7,rfl,S5,_,hL5⟩;rw[tz.1,List.take_length]at hL5;exact hN _ _ ⟨_,_,_,rfl,S5,hL5⟩
   rintro _ H4 ⟨s5,s6,s7,rfl,S4,hL4⟩;refine⟨_,rfl,kk x dx td ed bl ts H4 (fun b m=>?_) S4 et hL4⟩;simp only[List.mem_cons,List.not_mem_nil,or_false]at m;rcases m with h|h|h|h
   · rw[h];exact f1
   · rw[h];exact ftd
   · rw[h];exact fed
   · rw[h];exact fbl
theorem qkO {a:Ad} (T:Txt K mg a):qy P w K mg base CX0 11 a.f_ae a.fd_ae ["_law_cell_here"] (qhc a):=by
 have G_5:=qhK (P:=P) (w:=w) (base:=base) T;have G_6:=qjc (P:=P) (w:=w) (base:=base) T;have G_ad:=qhL (P:=P) (w:=w) (base:=base) T;have G_7:=qgu (P:=P) (w:=w) (base:=base) T;refine T.d_ae.F.ok sc_Llog (fun vs H Q E h=>?_) (fun cdv A outer s H vs Q E hr h=>?_)
 · obtain⟨c,rfl,kk⟩:=h;rfl
 · obtain⟨c,rfl,kk⟩:=h;have h_5:Room (2) _:=hr.mono (by decide);have h_6:Room (1) _:=hr.mono (by decide);have h_ad:Room (10) _:=hr.mono (by decide);have h_7:Room (2) _:=hr.mono (by decide)
   refine⟨_,(qc (qH (i:=1) sc_Llog.nd rfl (Or.inl rfl) (qp G_5 h_5 rfl T.d_5.m T.d_5.k T.d_5.b .nil qo (qa (pv 0) qb)))
     (qc (qH (i:=2) sc_Llog.nd rfl (Or.inl rfl) (qp G_6 h_6 rfl T.d_6.m T.d_6.k T.d_6.b .nil qo (qa (pv 1) qb)))
     (qf (qu (qp G_ad h_ad rfl T.d_ad.m T.d_ad.k T.d_ad.b .nil qo (qa (pv 1) (qa (pv 2) (qa (qp G_7 h_7 rfl T.d_7.m T.d_7.k T.d_7.b .nil qo (qa (pv 1) (qa (pv 2) qb))) qb)))))))),?_⟩
   try dsimp only [ze,Cx.nox]
   refine⟨_,rfl,c,rfl,fun q fs H1 S1 dr=>?_⟩;(try unfold qP);(try dsimp only);refine⟨_,rfl,q,fs,rfl,dr,fun b H2 S2 b0 b1=>?_⟩;(try unfold qP);(try dsimp only);refine⟨_,rfl,_,rfl,_,rfl,_,rfl,q,fs,b,rfl,dr.sm S2,b0,b1,fun d q1 q2 r1 r2 H3 S3 lt=>?_⟩;refine⟨q,d,fs,b,_,rfl,(dr.sm S2).sm S3,b0,b1,lt,rfl,(fun t m=>?_),(show (["bond","p"]:List Str).Nodup by decide +kernel),fun t D H4 S4 et dn=>kk t D H4 (((S1.trans S2).trans S3).trans S4) dn (by rw[et];rfl)⟩;simp only[List.mem_cons,List.not_mem_nil,or_false]at m;rcases m with rfl|rfl
   · exact(show zC (.str "bond")=true by decide +kernel)
   · exact(show zC (.str "p")=true by decide +kernel)
end
theorem qmf {ts ps:Pls} (h:ts.map tR=ps.map tR) {e:Ent}{n:Int}:ME ts e n↔ME ps e n:=⟨fun⟨W,d,m⟩=>⟨W,qkc h.symm d,m⟩,fun⟨W,d,m⟩=>⟨W,qkc h d,m⟩⟩
theorem qkZ {ts ps:Pls} (h:ts.map tR=ps.map tR) {k:Bk}{n:Int}:MK ts k n↔MK ps k n:=by
 cases k with
 | one e=>exact qmf h
 | sift nm x e=>exact ZU (qmf h)
theorem qm1 {ts ps:Pls} (h:ts.map tR=ps.map tR) {g:Gk}{n:Int}:MG ts g n↔MG ps g n:=by
 cases g with
 | b k=>exact qkZ h
 | jn nm x l qs=>exact⟨fun⟨h1,h2⟩=>⟨h1,fun k m=>(qkZ h).mp (h2 k m)⟩,fun⟨h1,h2⟩=>⟨h1,fun k m=>(qkZ h).mpr (h2 k m)⟩⟩
structure Tl (a:Ad) (H:Hp) (x dx td ed bl:Addr) (ts:Pls) (D:Dw):Prop where
 lg:Lg a H x dx td ed bl ts D.es (D.bs.map (nmB D))
 et:ts.map tR=D.ts.map tR
inductive qay (a:Ad) (vs:List V) (H:Hp) (Q:VK):Prop
 | mk (x dx td ed bl t:Addr) (ts:Pls) (D:Dw) (h1:vs=[.ref x,.ref t]) (h2:Tl a H x dx td ed bl ts D) (h3:Dn a H t D) (h4:∀ H',Same H H'->Q (.bl true) H'):qay a vs H Q
def qaz (a:Ad):Sp:=fun vs H Q _=>qay a vs H Q
section
variable {P:Program}{w:World}{K:Frag}{mg:Str->Option Value}{base:Heap}
theorem qd9 {a:Ad} (T:Txt K mg a):qy P w K mg base CX0 9 a.f_c a.fd_c ["_law_log_here","_law_drawn_here"] (qaz a):=by
 have G_e:=qaa (P:=P) (w:=w) (base:=base) T;have G_ar:=qed (P:=P) (w:=w) (base:=base) T;have G_B:=qee (P:=P) (w:=w) (base:=base) T;have G_m:=ZK (P:=P) (w:=w) (base:=base) T;have G_as:=qc0 (P:=P) (w:=w) (base:=base) T;have G_av:=qcY (P:=P) (w:=w) (base:=base) T;have G_O:=qc4 (P:=P) (w:=w) (base:=base) T;have G_P:=qbN (P:=P) (w:=w) (base:=base) T;have G_Q:=qgx (P:=P) (w:=w) (base:=base) T;have G_R:=qbl (P:=P) (w:=w) (base:=base) T;have G_S:=qd7 (P:=P) (w:=w) (base:=base) T;have G_T:=qc2 (P:=P) (w:=w) (base:=base) T;have G_U:=qbO (P:=P) (w:=w) (base:=base) T;have G_aq:=qec (P:=P) (w:=w) (base:=base) T;have G_at:=qeb (P:=P) (w:=w) (base:=base) T;refine T.d_c.F.ok sc_Ltells (fun vs H Q E h=>?_) (fun cdv A outer s H vs Q E hr h=>?_)
 · obtain⟨x,dx,td,ed,bl,t,ts,D,rfl,tl,dn,kk⟩:=h;rfl
 · obtain⟨x,dx,td,ed,bl,t,ts,D,rfl,tl,dn,kk⟩:=h;have hu:=qI hr;have hU:=hr.units;have h_e:Room (6) _:=hr.mono (by decide);have h_ar:Room (1) _:=hr.mono (by decide);have h_B:Room (1) _:=hr.mono (by decide);have h_m:Room (1) _:=hr.mono (by decide);have h_as:Room (1) _:=hr.mono (by decide);have h_av:Room (1) _:=hr.mono (by decide);have h_O:Room (1) _:=hr.mono (by decide);have h_P:Room (1) _:=hr.mono (by decide);have h_Q:Room (1) _:=hr.mono (by decide);have h_R:Room (1) _:=hr.mono (by decide);have h_S:Room (1) _:=hr.mono (by decide);have h_T:Room (1) _:=hr.mono (by decide);have h_U:Room (1) _:=hr.mono (by decide);have h_aq:Room (8) _:=hr.mono (by decide);have h_at:Room (2) _:=hr.mono (by decide)
   refine⟨_,(qc (qU (PW.pt (Zh (qz (uNe hU) (qE (pv 0) T.cl_Log T.d_m.mt G_m h_m T.d_m.b .nil qo) (qr (r:=rIx K) qi (pv 1) qe (fun _ _=>rfl)) (qJ _)) (Zf (qz (uNe hU) (qE (pv 0) T.cl_Log T.d_as.mt G_as h_as T.d_as.b .nil qo) (qq qgN (by rfl) T.n_sorted ZR (qa (zH rfl (CompOk.def ["_law_place","_law_rows"] [none,none]) (qX (qr (r:=rIx K) qi (pv 1) qe (fun _ _=>rfl))) (fun _ _ _ _ _=>(show PG _ _ (qjs K 2 _) from (zS rfl (qC (qt (i:=0) (show List.Nodup (["_law_place","_law_rows"]:List Str) by decide +kernel) rfl (Or.inl rfl)) (qC (qt (i:=1) (show List.Nodup (["_law_place","_law_rows"]:List Str) by decide +kernel) rfl (Or.inl rfl)) zx))))) (fun _ _ _ _ _=>zQ) (fun _ _ _ _ _=>(pv 0))) qb)) (qJ _)))))
       (qf (qu Z2))
       qx)
     (qc (zw PassesOwn.never rfl (qX (qr (r:=rIx K) qi (pv 1) qe (fun _ _=>rfl))) (zS rfl (qC (qt (i:=2) (sc_Ltells.nd) rfl (Or.inl rfl)) (qC (qt (i:=3) (sc_Ltells.nd) rfl (Or.inl rfl)) zx)))
       (qf (qU (qz (uNe hU) (qE (qF (pv 0) T.cl_Log T.d_at.mt G_at h_at T.d_at.b .nil qo (qa (pv 2) qb)) T.cl_Table T.d_av.mt G_av h_av T.d_av.b .nil qo) (pv 3) (qJ _))
         (qf (qu Z2))
         qx)))
     (qc (zw PassesOwn.never rfl (zR rfl T.n_range (qa (qq qY (by rfl) T.n_len qL (qa (qr (r:=rIx K) qi (pv 1) qe (fun _ _=>rfl)) qb)) qb)) (qt (i:=4) (sc_Ltells.nd) rfl (Or.inl rfl))
       (qc (qH (i:=5) sc_Ltells.nd rfl (Or.inl rfl) (qF (pv 0) T.cl_Log T.d_e.mt G_e h_e T.d_e.b .nil qev (qa (qr (r:=rIx K) qi (qr (r:=rIx K) qi (pv 1) qe (fun _ _=>rfl)) (pv 4) (fun _ _=>rfl)) qb)))
       (qf (qU (PW.pt (Zh (qz (uNe hU) (qK (pv 5) rfl) (qr (r:=rIx K) qi (qr (r:=rIx K) qi (pv 1) qe (fun _ _=>rfl)) (pv 4) (fun _ _=>rfl)) (qJ _)) (Zh (qz (uNe hU) (PE.or (qE (pv 5) T.cl_Entry T.d_O.mt G_O h_O T.d_O.b .nil qo) (PE.or (qE (pv 5) T.cl_Within T.d_P.mt G_P h_P T.d_P.b .nil qo) (PE.or (qE (pv 5) T.cl_At T.d_Q.mt G_Q h_Q T.d_Q.b .nil qo) (PE.or (qE (pv 5) T.cl_Between T.d_R.mt G_R h_R T.d_R.b .nil qo) (PE.or (qE (pv 5) T.cl_Read T.d_S.mt G_S h_S T.d_S.b .nil qo) (PE.or (qE (pv 5) T.cl_Joint T.d_T.mt G_T h_T T.d_T.b .nil qo) (qE (pv 5) T.cl_Sifted T.d_U.mt G_U h_U T.d_U.b .nil qo))))))) (PE.or (qE (qr (r:=rIx K) qi (qr (r:=rIx K) qi (pv 1) qe (fun _ _=>rfl)) (pv 4) (fun _ _=>rfl)) T.cl_Entry T.d_O.mt G_O h_O T.d_O.b .nil qo) (PE.or (qE (qr (r:=rIx K) qi (qr (r:=rIx K) qi (pv 1) qe (fun _ _=>rfl)) (pv 4) (fun _ _=>rfl)) T.cl_Within T.d_P.mt G_P h_P T.d_P.b .nil qo) (PE.or (qE (qr (r:=rIx K) qi (qr (r:=rIx K) qi (pv 1) qe (fun _ _=>rfl)) (pv 4) (fun _ _=>rfl)) T.cl_At T.d_Q.mt G_Q h_Q T.d_Q.b .nil qo) (PE.or (qE (qr (r:=rIx K) qi (qr (r:=rIx K) qi (pv 1) qe (fun _ _=>rfl)) (pv 4) (fun _ _=>rfl)) T.cl_Between T.d_R.mt G_R h_R T.d_R.b .nil qo) (PE.or (qE (qr (r:=rIx K) qi (qr (r:=rIx K) qi (pv 1) qe (fun _ _=>rfl)) (pv 4) (fun _ _=>rfl)) T.cl_Read T.d_S.mt G_S h_S T.d_S.b .nil qo) (PE.or (qE (qr (r:=rIx K) qi (qr (r:=rIx K) qi (pv 1) qe (fun _ _=>rfl)) (pv 4) (fun _ _=>rfl)) T.cl_Joint T.d_T.mt G_T h_T T.d_T.b .nil qo) (qE (qr (r:=rIx K) qi (qr (r:=rIx K) qi (pv 1) qe (fun _ _=>rfl)) (pv 4) (fun _ _=>rfl)) T.cl_Sifted T.d_U.mt G_U h_U T.d_U.b .nil qo))))))) (qJ _)) (Zf (qz (uNe hU) (qF (pv 0) T.cl_Log T.d_aq.mt G_aq h_aq T.d_aq.b .nil qev (qa (qr (r:=rIx K) qi (qr (r:=rIx K) qi (pv 1) qe (fun _ _=>rfl)) (pv 4) (fun _ _=>rfl)) qb)) (qr (r:=rIx K) qi (qr (r:=rIx K) qi (pv 1) qe (fun _ _=>rfl)) (pv 4) (fun _ _=>rfl)) (qJ _))))))
         (qf (qu Z2))
         qx))))
     (qf (qu (Q1 (uEq hU) (qE (pv 0) T.cl_Log T.d_ar.mt G_ar h_ar T.d_ar.b .nil qo) (qp G_B h_B rfl T.d_B.m T.d_B.k T.d_B.b .nil qo (qa (pv 1) qb)) (qJ _))))))),?_⟩
   try dsimp only [ze,Cx.nox]
   obtain⟨l1,l2,l3,l4,l5,zb,h0,h1,h2,h3,h4,h5,h6⟩:=dn.ht;have hL:=tl.lg;have et:=tl.et;have kt:=qe7 et;have nms:=dn.nms;have nok:∀ n∈D.ns,PyData.strOk n=true:=fun n m=>qe2 (qeW n (dn.nk n m));obtain⟨ln1,_⟩:=qap D.ns nok;have clN:PyData.canLay0 (.list (D.ns.map .str))=true:=by simp only[PyData.canLay0,ln1]
   have shN:=shp clN (by simp only[PyData.depth];omega);have tl2:=dn.tl
   have lts:ts.length=D.ts.length:=by
     have:=congrArg List.length et
     rw[List.length_map,List.length_map]at this;exact this
   obtain⟨zt,ht2,tt2⟩:=h2.hd;refine⟨_,rfl,x,dx,_,rfl,hL.hx,rfl,x,dx,td,ed,bl,ts,D.es,D.bs.map (nmB D),rfl,hL,fun lN fN=>?_⟩;generalize hG:upd H lN _=H1;obtain⟨S1,e1⟩:=qk hG fN;clear hG;rw[nms]at e1;refine⟨_,rfl,.inr (.inl ⟨t,_,_,_,rfl,rfl,SqT.of (S1 _ _ h0),rfl,qc6 (.lst (.inl e1) (dv_strs _)) (.lst (.inl (S1 _ _ h1)) (dv_strs _)) clN shN ⟨_,rfl,qG rfl ?_⟩⟩)⟩;have hL1:=hL.sm S1;refine⟨_,rfl,x,dx,_,rfl,hL1.hx,rfl,x,dx,td,ed,bl,ts,D.es,D.bs.map (nmB D),rfl,hL1,by omega,fun lP sa fP pm so=>?_⟩;generalize hG:upd H1 lP _=H2;obtain⟨S2,e2⟩:=qk hG fP;clear hG;have S02:=S1.trans S2;refine⟨_,rfl,.inr (.inl ⟨t,_,_,_,rfl,rfl,SqT.of (S02 _ _ h0),rfl,l2,rfl,⟨_,SqL.of (S02 _ _ ht2)⟩,fun E fE=>?_⟩)⟩;refine zh (K:=K) (a:=l2) (xs:=zt) (D:=E) (fun i σ H3=>∃ (c0 c1:Option V),σ=[c0,c1]∧Same H2 H3∧H3 E=some (.lst (((D.ts.take i).map (·.1)).map V.str))) ⟨none,none,rfl,Same.new _ fE,qd⟩ (fun i σ H3 _ ⟨_,_,_,S3,_⟩=>SqL.of (S3 _ _ (S02 _ _ ht2))) ?_ ?_
   · rintro i z σ H3 hz ⟨c0,c1,rfl,S3,hE⟩;obtain⟨p0,u,hp0,rfl,hu⟩:=tt2.of hz;refine⟨u,_,rfl,SqT.of (S3 _ _ (S02 _ _ hu)),rfl,_,_,rfl,_,_,rfl,rfl,?_⟩;refine⟨_,rfl,_,hE,qw (by rw[List.length_map,List.length_map,List.length_take];omega),_,_,rfl,S3.put fE _,?_⟩;rw[qd,List.take_add_one,hp0,List.map_append,List.map_append];rfl
   rintro σ H3 ⟨c0,c1,rfl,S3,hE⟩;rw[tt2.1,List.take_length]at hE;refine⟨E,_,rfl,SqL.of hE,(by rw[List.length_map];omega),fun lQ sb fQ pm4 so4=>?_⟩;generalize hG:upd H3 lQ _=H4;obtain⟨S4,e4⟩:=qk hG fQ;clear hG;have esab:sa=sb:=qeO ((pm.trans (by rw[kt])).trans pm4.symm) so so4;subst esab
   have oks:∀ n∈sa,PyData.strOk n=true:=fun n m=>by
     obtain⟨y,my,ey⟩:=List.mem_map.mp (pm4.mem_iff.mp m);exact ey▸qe2 (dn.tn y my)
   obtain⟨ls1,_⟩:=qap sa oks;have clP:PyData.canLay0 (.list (sa.map .str))=true:=by simp only[PyData.canLay0,ls1]
   have shP:=shp clP (by simp only[PyData.depth];omega);refine qc6 (.lst (.inl (S4 _ _ (S3 _ _ e2))) (dv_strs _)) (.lst (.inl e4) (dv_strs _)) clP shP ⟨_,rfl,qG rfl ?_⟩;have S04:=(S02.trans S3).trans S4;clear e1 e2 e4 S1 S2 S02 S3 S4 hE hL1;(try unfold qP);(try dsimp only);refine qO (t:=qbG _ _ _) (fun σ' H'=>∃ s2 s3:Option V,σ'=[some (.ref x),some (.ref t),s2,s3,none,none]∧Same H H') (fun N hN=>?_) ?_
   · refine⟨_,rfl,.inr (.inl ⟨t,_,_,_,rfl,rfl,SqT.of (S04 _ _ h0),rfl,l2,rfl,⟨_,SqL.of (S04 _ _ ht2)⟩,zl (K:=K) (a:=l2) (xs:=zt) (D:={ nx:=N,rt:=Q }) (fun j σ H'=>∃ s2 s3:Option V,σ=[some (.ref x),some (.ref t),s2,s3,none,none]∧Same H H') ⟨_,_,rfl,S04⟩ (fun j σ H' _ ⟨_,_,_,S⟩=>SqL.of (S _ _ ht2)) ?_ ?_⟩)⟩
     · rintro j z σ H5 hz ⟨s2,s3,rfl,S5⟩;obtain⟨p0,u,hp0,rfl,hu⟩:=tt2.of hz;have m0:=List.mem_of_getElem? hp0
       obtain⟨p1,hp1,ep1⟩:∃ p1,ts[j]?=some p1∧tR p1=tR p0:=by
         have:(ts.map tR)[j]?=some (tR p0):=by rw[et,List.getElem?_map,hp0];rfl
         rw[List.getElem?_map]at this;exact Option.map_eq_some_iff.mp this
       have m1:=List.mem_of_getElem? hp1;have ep:p1.1=p0.1∧p1.2.2=p0.2.2:=Prod.mk.inj ep1;have hL5:=hL.sm S5;have tb5:=hL5.tt p1 m1;obtain⟨k0,dt,zs0,htb,hk0,tp0⟩:=id tb5;refine⟨u,_,rfl,SqT.of (S5 _ _ hu),rfl,_,_,rfl,_,_,rfl,rfl,?_⟩;refine⟨_,rfl,x,dx,_,rfl,hL5.hx,rfl,_,rfl,x,dx,td,ed,bl,ts,D.es,D.bs.map (nmB D),p1,(by rw[ep.1];rfl),hL5,m1,p1.2.1,dt,_,rfl,htb,qdg _ (by decide),p1.2.1,p1.2.2,rfl,tb5,fun d2 H6 fd2 S6 R6=>?_⟩;obtain⟨z1,hz1,dz1,cz,sz,nz⟩:=qa8 R6;have R7:=(h2.rs p0 m0).same (S5.trans S6);rw[← ep.2]at R7;obtain⟨z2,hz2,dz2,_,_,_⟩:=qa8 R7;exact⟨_,rfl,qc6 (.lst (.inl hz1) dz1) (.lst (.inl hz2) dz2) cz sz ⟨_,rfl,qG rfl ⟨_,_,rfl,S5.trans S6⟩⟩⟩
     · rintro σ H5 ⟨s2,s3,rfl,S5⟩;exact hN _ _ ⟨_,_,rfl,S5⟩
   rintro _ H5 ⟨s2,s3,rfl,S5⟩;refine qO (t:=qbG _ _ _) (fun σ' H'=>∃ s4 s5:Option V,σ'=[some (.ref x),some (.ref t),s2,s3,s4,s5]∧Same H H') (fun N hN=>?_) ?_
   · have ll1:(D.ns.map V.str).length=D.ns.length:=List.length_map _;have few:=dn.few;refine⟨_,rfl,.inr (.inl ⟨t,_,_,_,rfl,rfl,SqT.of (S5 _ _ h0),rfl,_,_,rfl,.inl ⟨_,SqL.of (S5 _ _ h1),rfl⟩,_,rfl,by omega,by omega,Qa (lo:=0) (D:={ nx:=N,rt:=Q }) (fun j σ H'=>∃ s4 s5:Option V,σ=[some (.ref x),some (.ref t),s2,s3,s4,s5]∧Same H H') ⟨_,_,rfl,S5⟩ ?_ ?_⟩)⟩
     · rintro j σ H6 hj ⟨s4,s5,rfl,S6⟩;have hj':j < D.ns.length:=by omega
       have el:=dn.el;have sl:=dn.sl;obtain⟨nm,hn⟩:∃ nm,D.ns[j]?=some nm:=⟨_,List.getElem?_eq_getElem hj'⟩
       obtain⟨g,hg⟩:∃ g,D.es[j]?=some g:=⟨_,List.getElem?_eq_getElem (by omega)⟩
       obtain⟨s,hs⟩:∃ s,D.ss[j]?=some s:=⟨_,List.getElem?_eq_getElem (by omega)⟩
       have ey0:=dn.ey j nm g s hn hg hs;have ey:=ey0.sm S6;have mg:=List.mem_of_getElem? hg;have hL6:=hL.sm S6;have hnat:atI (D.ns.map V.str) (0+(j:Int))=some (.str nm):=by rw[Int.zero_add];exact qT (by rw[List.getElem?_map,hn];rfl)
       have hgat:atI (D.es.map fun g=>V.ref g.x) (0+(j:Int))=some (.ref g.x):=by rw[Int.zero_add];exact qT (by rw[List.getElem?_map,hg];rfl)
       have hsat:atI (D.ss.map fun s=>V.ref s.1) (0+(j:Int))=some (.ref s.1):=by rw[Int.zero_add];exact qT (by rw[List.getElem?_map,hs];rfl)
       refine⟨_,rfl,x,dx,_,rfl,hL6.hx,rfl,_,rfl,.inr (.inl ⟨t,_,_,_,rfl,rfl,SqT.of (S6 _ _ h0),rfl,_,rfl,.inl ⟨l1,_,_,_,rfl,rfl,SqL.of (S6 _ _ h1),hnat,x,dx,td,ed,bl,ts,D.es,D.bs.map (nmB D),nm,rfl,hL6,.inl ⟨g,mg,ey0.nm,?_⟩⟩⟩)⟩;(try unfold qP);(try dsimp only);obtain⟨Ce,de,fe,he,cle,nae,lke⟩:=qf9 T ey.en;rw[ey0.nm]at lke;refine⟨_,rfl,g.x,Ce,de,fe,_,rfl,he,cle,nae,lke,_,rfl,.inr (.inl ⟨t,_,_,_,rfl,rfl,SqT.of (S6 _ _ h0),rfl,_,rfl,.inl ⟨l1,_,_,_,rfl,rfl,SqL.of (S6 _ _ h1),hnat,.inl ⟨rfl,_,rfl,qjk (fun g=>absurd rfl g) (fun _=>?_)⟩⟩⟩)⟩;refine qfk T (fun R h=>⟨_,rfl,h⟩) ey.en ?_;refine qfk T (fun R h=>⟨_,rfl,.inr (.inl ⟨t,_,_,_,rfl,rfl,SqT.of (S6 _ _ h0),rfl,_,rfl,.inl ⟨l3,_,_,_,rfl,rfl,SqL.of (S6 _ _ h3),hgat,h⟩⟩)⟩) ey.en ?_;refine .inl ⟨rfl,_,rfl,qjk (fun g=>absurd rfl g) (fun _=>?_)⟩;refine⟨_,rfl,x,dx,_,rfl,hL6.hx,rfl,_,rfl,.inr (.inl ⟨t,_,_,_,rfl,rfl,SqT.of (S6 _ _ h0),rfl,_,rfl,.inl ⟨l1,_,_,_,rfl,rfl,SqL.of (S6 _ _ h1),hnat,x,dx,td,ed,bl,ts,D.es,D.bs.map (nmB D),nm,rfl,hL6,.inl ⟨g,mg,ey0.nm,fun f r H7 ff S7 R7 c7 l7 m7=>?_⟩⟩⟩)⟩;have S67:=S6.trans S7;have er:r=s.2:=qex c7 ey0.can fun n=>((m7 n).trans (qm1 et)).trans (ey0.mem n).symm;subst er;obtain⟨z1,hz1,dz1,cz,sz,nz⟩:=qa8 R7;obtain⟨z2,hz2,dz2,_,_,_⟩:=qa8 (ey.rs.same S7);exact⟨_,rfl,.inr (.inl ⟨t,_,_,_,rfl,rfl,SqT.of (S67 _ _ h0),rfl,_,rfl,.inl ⟨l4,_,_,_,rfl,rfl,SqL.of (S67 _ _ h4),hsat,qc6 (.lst (.inl hz1) dz1) (.lst (.inl hz2) dz2) cz sz ⟨_,rfl,qG rfl ⟨_,_,rfl,S67⟩⟩⟩⟩)⟩
     · rintro σ H6 ⟨s4,s5,rfl,S6⟩;exact hN _ _ ⟨_,_,rfl,S6⟩
   rintro _ H6 ⟨s4,s5,rfl,S6⟩;have hL6:=hL.sm S6;refine⟨_,rfl,x,dx,_,rfl,hL6.hx,rfl,x,dx,td,ed,bl,ts,D.es,D.bs.map (nmB D),rfl,hL6,fun lB zB fB tB=>?_⟩;generalize hG:upd H6 lB _=H7;obtain⟨S7,e7⟩:=qk hG fB;clear hG;refine⟨_,rfl,t,D,rfl,dn.sm (S6.trans S7),fun d zs H8 fd S8 hd tz=>?_⟩
   obtain⟨lb1,lb2⟩:=qnx (D.bs.map (nmB D)) fun b m=>by
     obtain⟨b0,mb,rfl⟩:=List.mem_map.mp m;obtain⟨c1,c2,_,_⟩:=dn.bd b0 mb;obtain⟨i1,i2⟩:=qfW c1 c2;exact⟨nok _ i1,nok _ i2⟩
   have clB:PyData.canLay0 (.list ((D.bs.map (nmB D)).map dB))=true:=by simp only[PyData.canLay0,lb1]
   exact qfa (.lst (.inl (S8 _ _ e7)) (qm9 ((tB.same S7).same S8))) (.lst (.inl hd) (qm9 tz)) clB (shp clB (by simp only[PyData.depth];omega)) (kk H8 ((S6.trans S7).trans S8))
end
def gk0:Gk:=.b (.one ⟨"","","",0,0,0⟩)
def kps (D:Dw) (ws:List Str) (n:Nat):List Nat:=(List.range n).filter fun k=>decide (D.ns.getD k ""∈ws)
theorem qf1 {D:Dw}{ws:List Str}{n:Nat}:kps D ws (n+1)=kps D ws n++(if D.ns.getD n ""∈ws then [n] else []):=by
 unfold kps;rw[List.range_succ,List.filter_append];congr 1;rw[List.filter_cons];by_cases c:D.ns.getD n ""∈ws
 · rw[if_pos (decide_eq_true c),if_pos c];rfl
 · rw[if_neg (by simpa using c),if_neg c];rfl
theorem kps_in {D:Dw}{ws:List Str}{n k:Nat}:k∈kps D ws n↔k < n∧D.ns.getD k ""∈ws:=by
 unfold kps;rw[List.mem_filter,List.mem_range];simp
theorem qhY {D:Dw}{ws:List Str}{n:Nat}:(kps D ws n).length≤n:=by
 have:=List.length_filter_le (fun k=>decide (D.ns.getD k ""∈ws)) (List.range n)
 rw[List.length_range]at this;exact this
theorem qbR {α:Type} (l:List α) (d:α):(List.range l.length).map (fun k=>l.getD k d)=l:=jr l d
theorem qhX {α:Type}{D:Dw}{ws:List Str} (l:List α) (d:α) (p:α->Bool) (hl:l.length=D.ns.length) (hp:∀ k,k < l.length->p (l.getD k d)=decide (D.ns.getD k ""∈ws)):(kps D ws D.ns.length).map (fun k=>l.getD k d)=l.filter p:=by
 conv=>rhs;rw[← qbR l d]
 unfold kps;rw[List.filter_map,hl];congr 1;refine List.filter_congr fun k m=>?_;show _=p (l.getD k d);rw[hp k (by rw[hl];exact List.mem_range.mp m)]
abbrev inW (ws:List Str) (b:Str×Str×Int):Bool:=decide (b.1∈ws) && decide (b.2.1∈ws)
abbrev inK (ks:List Nat) (b:Nat×Nat×Int):Bool:=decide (b.1∈ks) && decide (b.2.1∈ks)
abbrev ixK (ks:List Nat) (b:Nat×Nat×Int):Nat×Nat×Int:=(ks.idxOf b.1,ks.idxOf b.2.1,b.2.2)
def jF (D:Dw) (ws:List Str):Dw:=⟨(kps D ws D.ns.length).map fun k=>D.ns.getD k "",D.ts,(kps D ws D.ns.length).map fun k=>D.es.getD k gk0,(kps D ws D.ns.length).map fun k=>D.ss.getD k (0,[]),(D.bs.filter (inK (kps D ws D.ns.length))).map (ixK (kps D ws D.ns.length))⟩
theorem qf3 {n:Nat}{ns:List Nat}:inV (.int (n:Int)) (ns.map fun (k:Nat)=>V.int (k:Int))=decide (n∈ns):=by
 unfold inV;rw[List.any_map,Bool.eq_iff_iff,List.any_eq_true,decide_eq_true_iff];constructor
 · rintro⟨y,m,e⟩
   have:(y:Int)=(n:Int):=by simpa[eqV] using e
   have:y=n:=by omega
   exact this▸m
 · intro m;exact⟨n,m,by simp[eqV]⟩
theorem Jh (ns:List Nat):(ns.map fun (k:Nat)=>V.int (k:Int)).all qao=true:=by
 rw[List.all_map,List.all_eq_true];intro x _;rfl
theorem qml {ks:List Nat}{k:Nat} (h:k∈ks):(∃ w,(ks.map fun (k:Nat)=>V.int (k:Int))[ks.idxOf k]?=some w∧eqV w (.int (k:Int))=true)∧∀ (i:Nat) (w:V),i < ks.idxOf k->(ks.map fun (k:Nat)=>V.int (k:Int))[i]?=some w->eqV w (.int (k:Int))=false:=by
 have hl:ks.idxOf k < ks.length:=List.idxOf_lt_length_of_mem h;refine⟨⟨_,by rw[List.getElem?_map,List.getElem?_eq_getElem hl];rfl,?_⟩,fun i w hi e=>?_⟩
 · rw[List.getElem_idxOf hl];simp[eqV]
 · rw[List.getElem?_map]at e;obtain⟨y,hy,rfl⟩:=Option.map_eq_some_iff.mp e
   have ne:y≠k:=fun z=>by
     obtain⟨h1,h2⟩:=List.getElem?_eq_some_iff.mp hy
     have:=List.not_of_lt_findIdx (p:=(· == k)) (xs:=ks) hi
     rw[h2,z]at this;simp at this
   simp[eqV];omega
theorem qf5 {α:Type}{D:Dw}{ws:List Str}{n k:Nat}{f:Nat->α}{d:α} (h:k∈kps D ws n):((kps D ws n).map f).getD ((kps D ws n).idxOf k) d=f k:=by
 have hl:=List.idxOf_lt_length_of_mem h;rw[List.getD_eq_getElem?_getD,List.getElem?_map,List.getElem?_eq_getElem hl,List.getElem_idxOf hl];rfl
theorem qii {a:Ad}{H:Hp}{t:Addr}{D:Dw} (dn:Dn a H t D) (ws:List Str):(jF D ws).bs.map (nmB (jF D ws))=(D.bs.map (nmB D)).filter (inW ws):=by
 unfold jF;dsimp only;rw[List.map_map,List.filter_map];have hb:=dn.bd
 have e:D.bs.filter (inK (kps D ws D.ns.length))=D.bs.filter (inW ws ∘ nmB D):=List.filter_congr fun b m=>by
   obtain⟨h1,h2,_,_⟩:=hb b m;show (decide (b.1∈kps D ws D.ns.length) && decide (b.2.1∈kps D ws D.ns.length))=(decide (D.ns.getD b.1 ""∈ws) && decide (D.ns.getD b.2.1 ""∈ws));rw[Bool.eq_iff_iff];simp only[Bool.and_eq_true,decide_eq_true_iff,kps_in];exact⟨fun⟨x,y⟩=>⟨x.2,y.2⟩,fun⟨x,y⟩=>⟨⟨h1,x⟩,⟨h2,y⟩⟩⟩
 rw[← e];refine List.map_congr_left fun b m=>?_
 have:=(List.mem_filter.mp m).2
 rw[Bool.and_eq_true,decide_eq_true_iff,decide_eq_true_iff]at this;show nmB _ (ixK (kps D ws D.ns.length) b)=nmB D b;unfold nmB ixK;dsimp only;rw[qf5 this.1,qf5 this.2]
theorem qih {a:Ad}{H:Hp}{t:Addr}{D:Dw} (dn:Dn a H t D) (ws:List Str):(jF D ws).es=D.es.filter fun g=>decide (g.nm∈ws):=qhX D.es gk0 _ dn.el fun k hk=>by
 have h:=dn.nms
 have:(D.es.map (·.nm))[k]?=D.ns[k]?:=by rw[h]
 rw[List.getElem?_map,List.getElem?_eq_getElem hk]at this;rw[List.getD_eq_getElem?_getD,List.getD_eq_getElem?_getD,List.getElem?_eq_getElem hk,← this];rfl
theorem qig (D:Dw) (ws:List Str):(jF D ws).ns=D.ns.filter fun n=>decide (n∈ws):=qhX D.ns "" _ rfl fun k hk=>rfl
theorem QR {α:Type}{l:List α}{k:Nat} (d:α) (h:k < l.length):l[k]?=some (l.getD k d):=by
 rw[List.getD_eq_getElem?_getD,List.getElem?_eq_getElem h];rfl
theorem Dn.due {a:Ad}{H H':Hp}{t:Addr}{D:Dw}{ws:List Str} (h:Dn a H t D) (S:Same H H') {t' l1 l2 l3 l4 l5:Addr}{zb:List V} (e0:H' t'=some (.tup [.ref l1,.ref l2,.ref l3,.ref l4,.ref l5])) (e1:H' l1=some (.lst ((jF D ws).ns.map V.str))) (e2:Lt H' l2 D.ts) (e3:H' l3=some (.lst ((jF D ws).es.map fun g=>V.ref g.x))) (e4:H' l4=some (.lst ((jF D ws).ss.map fun s=>V.ref s.1))) (e5:H' l5=some (.lst zb)) (e6:TupL prI H' zb (jF D ws).bs):Dn a H' t' (jF D ws):=by
 have ln:(jF D ws).ns.length=(kps D ws D.ns.length).length:=List.length_map _;refine⟨⟨l1,l2,l3,l4,l5,zb,e0,e1,e2,e3,e4,e5,e6⟩,by rw[ln];exact List.length_map _,by rw[ln];exact List.length_map _,fun i nm g s x1 x2 x3=>?_,?_,fun n m=>?_,?_,h.tl,h.tn,h.td,fun b m=>?_,?_⟩
 · have y1:((kps D ws D.ns.length)[i]?).map (fun k=>D.ns.getD k "")=some nm:=by rw[← List.getElem?_map];exact x1
   have y2:((kps D ws D.ns.length)[i]?).map (fun k=>D.es.getD k gk0)=some g:=by rw[← List.getElem?_map];exact x2
   have y3:((kps D ws D.ns.length)[i]?).map (fun k=>D.ss.getD k (0,[]))=some s:=by rw[← List.getElem?_map];exact x3
   obtain⟨k,hk,rfl⟩:=Option.map_eq_some_iff.mp y1;rw[hk]at y2 y3;cases y2;cases y3;have hl:=(kps_in.mp (List.mem_of_getElem? hk)).1;exact(h.ey k _ _ _ (QR _ hl) (QR _ (by rw[h.el];exact hl)) (QR _ (by rw[h.sl];exact hl))).sm S
 · rw[qig];exact h.nd.sublist List.filter_sublist
 · rw[qig]at m;exact h.nk n ((List.mem_filter.mp m).1)
 · rw[ln];exact Nat.le_trans qhY h.few
 · rw[ln];obtain⟨b0,m0,rfl⟩:=List.mem_map.mp (show b∈(D.bs.filter (inK (kps D ws D.ns.length))).map (ixK (kps D ws D.ns.length)) from m);obtain⟨m1,m2⟩:=List.mem_filter.mp m0;rw[Bool.and_eq_true,decide_eq_true_iff,decide_eq_true_iff]at m2;obtain⟨_,_,c3,c4⟩:=h.bd b0 m1;exact⟨List.idxOf_lt_length_of_mem m2.1,List.idxOf_lt_length_of_mem m2.2,c3,c4⟩
 · have:(jF D ws).bs.length=(D.bs.filter (inK (kps D ws D.ns.length))).length:=List.length_map _
   rw[this];exact Nat.le_trans (List.length_filter_le _ _) h.bf
inductive qdy (a:Ad) (vs:List V) (H:Hp) (Q:VK):Prop
 | mk (t w:Addr) (D:Dw) (ws:List Str) (H0:Hp) (h1:vs=[.ref t,.ref w]) (h2:Same H0 H) (h3:Dn a H0 t D) (h4:H w=some (.lst (ws.map V.str))) (h5:∀ (t':Addr) (H':Hp),Same H H'->H t'=none->(∀ G,Imm H' G->Same H0 G->(∀ b o,H b=none->H' b=some o->G b=some o)->Dn a G t' (jF D ws))->Q (.ref t') H'):qdy a vs H Q
def qhd (a:Ad):Sp:=fun vs H Q _=>qdy a vs H Q
section
variable {P:Program}{w:World}{K:Frag}{mg:Str->Option Value}{base:Heap}
theorem qkP {a:Ad} (T:Txt K mg a):qy P w K mg base CX0 1 a.f_af a.fd_af ["_law_drawn_here","_law_wanted"] (qhd a):=by
 refine T.d_af.F.ok sc_Ldue (fun vs H Q E h=>?_) (fun cdv A outer s H vs Q E hr h=>?_)
 · obtain⟨t,w,D,ws,H0,rfl,S0,dn0,hw,kk⟩:=h;rfl
 · obtain⟨t,w,D,ws,H0,rfl,S0,dn0,hw,kk⟩:=h;have hu:=qI hr;have hU:=hr.units
   refine⟨_,(qc (qcR (i:=2) sc_Ldue.nd rfl (Or.inl rfl) rfl (CompOk.def ["_law_k","_law_wanted","_law_drawn_here"] [none,some 1,some 0]) (zR rfl T.n_range (qa (qq qY (by rfl) T.n_len qL (qa (qr (r:=rIx K) qi (pv 0) qe (fun _ _=>rfl)) qb)) qb)) (fun _ _ _ _ _=>(qt (i:=0) (show List.Nodup (["_law_k","_law_wanted","_law_drawn_here"]:List Str) by decide +kernel) rfl (Or.inl rfl))) (fun _ _ _ _ _=>(Js (qz (r:=rIn K false) qbb (qr (r:=rIx K) qi (qr (r:=rIx K) qi (pv 2) qe (fun _ _=>rfl)) (pv 0) (fun _ _=>rfl)) (pv 1) (by with_unfolding_all rfl)))) (fun _ _ _ _ _=>(pv 0)))
     (qc (qH (i:=3) sc_Ldue.nd rfl (Or.inl rfl) (qM qb))
     (qc (zw PassesOwn.never rfl (qX (qr (r:=rIx K) qi (pv 0) qe (fun _ _=>rfl))) (zS rfl (qC (qt (i:=4) (sc_Ldue.nd) rfl (Or.inl rfl)) (qC (qt (i:=5) (sc_Ldue.nd) rfl (Or.inl rfl)) (qC (qt (i:=6) (sc_Ldue.nd) rfl (Or.inl rfl)) zx))))
       (qf (qU (PW.pt (J1 (qz (r:=rIn K false) qbb (pv 4) (pv 2) (by with_unfolding_all rfl)) (ZI (qz (r:=rIn K false) qbb (pv 5) (pv 2) (by with_unfolding_all rfl)))))
         (qf (qA (Zi PySem.F.plainAttrs_list PySem.F.slot_list_append PySem.F.type_list_append zg (pv 3) (qa (qZ (qa (Zi PySem.F.plainAttrs_list PySem.F.slot_list_index PySem.F.type_list_index qeg (pv 2) (qa (pv 4) qb)) (qa (Zi PySem.F.plainAttrs_list PySem.F.slot_list_index PySem.F.type_list_index qeg (pv 2) (qa (pv 5) qb)) (qa (pv 6) qb)))) qb))))
         qx)))
     (qc (qcR (i:=7) sc_Ldue.nd rfl (Or.inl rfl) rfl (CompOk.def ["_law_k","_law_drawn_here"] [none,some 0]) (qX (pv 2)) (fun _ _ _ _ _=>(qt (i:=0) (show List.Nodup (["_law_k","_law_drawn_here"]:List Str) by decide +kernel) rfl (Or.inl rfl))) (fun _ _ _ _ _=>zQ) (fun _ _ _ _ _=>(qr (r:=rIx K) qi (qr (r:=rIx K) qi (pv 1) qe (fun _ _=>rfl)) (pv 0) (fun _ _=>rfl))))
     (qf (qu (qZ (qa (pv 7) (qa (qr (r:=rIx K) qi (pv 0) qe (fun _ _=>rfl)) (qa (zH rfl (CompOk.def ["_law_k","_law_drawn_here"] [none,some 0]) (qX (pv 2)) (fun _ _ _ _ _=>(qt (i:=0) (show List.Nodup (["_law_k","_law_drawn_here"]:List Str) by decide +kernel) rfl (Or.inl rfl))) (fun _ _ _ _ _=>zQ) (fun _ _ _ _ _=>(qr (r:=rIx K) qi (qr (r:=rIx K) qi (pv 1) qe (fun _ _=>rfl)) (pv 0) (fun _ _=>rfl)))) (qa (zH rfl (CompOk.def ["_law_k","_law_drawn_here"] [none,some 0]) (qX (pv 2)) (fun _ _ _ _ _=>(qt (i:=0) (show List.Nodup (["_law_k","_law_drawn_here"]:List Str) by decide +kernel) rfl (Or.inl rfl))) (fun _ _ _ _ _=>zQ) (fun _ _ _ _ _=>(qr (r:=rIx K) qi (qr (r:=rIx K) qi (pv 1) qe (fun _ _=>rfl)) (pv 0) (fun _ _=>rfl)))) (qa (pv 3) qb)))))))))))),?_⟩
   try dsimp only [ze,Cx.nox]
   have dn:=dn0.sm S0;obtain⟨l1,l2,l3,l4,l5,zb,h0,h1,h2,h3,h4,h5,h6⟩:=dn.ht;have tn:(((D.ns.map V.str).length:Nat):Int).toNat=D.ns.length:=by rw[List.length_map];rfl
   have few:=dn.few;have el:=dn.el;have sl:=dn.sl;have klen:=qhY (D:=D) (ws:=ws) (n:=D.ns.length);refine⟨_,rfl,.inr (.inl ⟨t,_,_,_,rfl,rfl,SqT.of h0,rfl,_,_,rfl,.inl ⟨_,SqL.of h1,rfl⟩,_,rfl,by omega,by rw[List.length_map];omega,fun E fE=>?_⟩)⟩;rw[tn];refine Jx (lo:=0) (n:=D.ns.length) (D:=E) (fun i σ H2=>∃ c0:Option V,σ=[c0,some (.ref w),some (.ref t)]∧Same H H2∧H2 E=some (.lst ((kps D ws i).map fun (k:Nat)=>V.int (k:Int)))) ⟨none,rfl,Same.new _ fE,qd⟩ ?_ ?_
   · rintro i σ H2 hi ⟨c0,rfl,S2,hE⟩;have lk:=qhY (D:=D) (ws:=ws) (n:=i);refine⟨_,rfl,.inr (.inl ⟨t,_,_,_,rfl,rfl,SqT.of (S2 _ _ h0),rfl,_,rfl,.inl ⟨l1,_,_,_,rfl,rfl,SqL.of (S2 _ _ h1),(by rw[Int.zero_add];exact qdl hi),_,rfl,w,_,rfl,.inl (SqL.of (S2 _ _ hw)),rfl,qby _,_,rfl,?_⟩⟩)⟩;rw[qdf];by_cases c:D.ns.getD i ""∈ws
     · refine QG (decide_eq_true c) ⟨_,rfl,_,hE,qw (by rw[List.length_map];omega),_,rfl,S2.put fE _,?_⟩;rw[qd,qf1,if_pos c,List.map_append,Int.zero_add];rfl
     · refine qG (decide_eq_false c) ⟨_,rfl,S2,?_⟩;rw[qf1,if_neg c,List.append_nil];exact hE
   rintro σ H1 ⟨c0,rfl,S1,hE1⟩;refine⟨qj (Nat.le_of_ble_eq_true rfl),fun B fB=>?_⟩;have SB:=Same.new (.lst []) fB;(try unfold qP);(try dsimp only);refine qO (t:=qbG _ _ _) (fun σ' H'=>∃ (s4 s5 s6:Option V) (ys:List V),σ'=[some (.ref t),some (.ref w),some (.ref E),some (.ref B),s4,s5,s6,none]∧Same H1 H'∧H' B=some (.lst ys)∧TupL prI H' ys (jF D ws).bs) (fun N hN=>?_) ?_
   · refine⟨_,rfl,.inr (.inl ⟨t,_,_,_,rfl,rfl,SqT.of ((S1.trans SB) _ _ h0),rfl,l5,rfl,⟨_,SqL.of ((S1.trans SB) _ _ h5)⟩,zl (K:=K) (a:=l5) (xs:=zb) (D:={ nx:=N,rt:=Q }) (fun j σ H'=>∃ (s4 s5 s6:Option V) (ys:List V),σ=[some (.ref t),some (.ref w),some (.ref E),some (.ref B),s4,s5,s6,none]∧Same H1 H'∧H' B=some (.lst ys)∧TupL prI H' ys (((D.bs.take j).filter (inK (kps D ws D.ns.length))).map (ixK (kps D ws D.ns.length)))) ⟨_,_,_,[],rfl,SB,qd,.nil⟩ (fun j σ H' _ ⟨_,_,_,_,_,S,_⟩=>SqL.of (S _ _ (S1 _ _ h5))) ?_ ?_⟩)⟩
     · rintro j z σ H2 hz ⟨s4,s5,s6,ys,rfl,S2,hB,ty⟩;obtain⟨b,u,hb,rfl,hu⟩:=h6.of hz;have hE:=S2 _ _ hE1;have ly:=ty.1;have bf:=dn.bf
       have lf:(((D.bs.take j).filter (inK (kps D ws D.ns.length))).map (ixK (kps D ws D.ns.length))).length≤7:=by
         rw[List.length_map];refine Nat.le_trans (List.length_filter_le _ _) ?_;rw[List.length_take];omega
       have tk:D.bs.take (j+1)=D.bs.take j++[b]:=by rw[List.take_add_one,hb];rfl
       refine⟨u,_,rfl,SqT.of ((S1.trans S2) _ _ hu),rfl,_,_,rfl,_,_,rfl,_,_,rfl,rfl,?_⟩
       have skip:∀ s4 s5 s6:Option V,inK (kps D ws D.ns.length) b=false->∃ (s4' s5' s6':Option V) (ys:List V),[some (.ref t),some (.ref w),some (.ref E),some (.ref B),s4,s5,s6,none]=[some (.ref t),some (.ref w),some (.ref E),some (.ref B),s4',s5',s6',none]∧Same H1 H2∧H2 B=some (.lst ys)∧TupL prI H2 ys (((D.bs.take (j+1)).filter (inK (kps D ws D.ns.length))).map (ixK (kps D ws D.ns.length))):=fun s4 s5 s6 e=>by
         refine⟨_,_,_,ys,rfl,S2,hB,?_⟩;rw[tk,List.filter_append,List.filter_cons,if_neg (by rw[e];decide),List.filter_nil,List.append_nil];exact ty
       refine⟨_,rfl,_,rfl,E,_,rfl,.inl (SqL.of hE),rfl,Jh _,_,rfl,?_⟩;rw[qf3];by_cases c1:b.1∈kps D ws D.ns.length
       · refine QG (decide_eq_true c1) ⟨_,rfl,_,rfl,E,_,rfl,.inl (SqL.of hE),rfl,Jh _,_,rfl,?_⟩;rw[qf3];by_cases c2:b.2.1∈kps D ws D.ns.length
         · refine QG (decide_eq_true c2) ?_;obtain⟨x1,x2⟩:=qml c1;obtain⟨x3,x4⟩:=qml c2;refine⟨_,rfl,.inl ⟨rfl,_,SqL.of hB⟩,_,rfl,.inl ⟨rfl,_,SqL.of hE⟩,_,rfl,E,_,_,_,rfl,rfl,hE,rfl,Jh _,x1,x2,_,rfl,.inl ⟨rfl,_,SqL.of hE⟩,_,rfl,E,_,_,_,rfl,rfl,hE,rfl,Jh _,x3,x4,_,rfl,qj (Nat.le_of_ble_eq_true rfl),fun v fv=>?_⟩;generalize hG:upd H2 v _=H3;obtain⟨S3,e3⟩:=qk hG fv;clear hG;refine⟨B,ys,_,rfl,rfl,S3 _ _ hB,qw (by omega),_,_,_,_,rfl,(S2.trans S3).put fB _,qd,?_⟩;rw[tk,List.filter_append,List.filter_cons,if_pos (by show (decide _ && decide _)=true;rw[decide_eq_true c1,decide_eq_true c2];rfl),List.filter_nil,List.map_append];exact((ty.same S3).snoc (p:=ixK (kps D ws D.ns.length) b) e3).put (S3 _ _ hB)
         · exact qG (decide_eq_false c2) (skip _ _ _ (by show (decide _ && decide _)=false;rw[decide_eq_false c2,Bool.and_false]))
       · exact qG (decide_eq_false c1) (skip _ _ _ (by show (decide _ && decide _)=false;rw[decide_eq_false c1,Bool.false_and]))
     · rintro σ H2 ⟨s4,s5,s6,ys,rfl,S2,hB,ty⟩;rw[h6.1,List.take_length]at ty;exact hN _ _ ⟨_,_,_,ys,rfl,S2,hB,ty⟩
   rintro _ H2 ⟨s4,s5,s6,ys,rfl,S2,hB,ty⟩;have S02:=S1.trans S2;have hE:=S2 _ _ hE1;refine⟨_,rfl,E,rfl,⟨_,SqL.of hE⟩,fun m1 fm1=>?_⟩;refine zh (K:=K) (a:=E) (xs:=((kps D ws D.ns.length).map fun (k:Nat)=>V.int (k:Int))) (D:=m1) (fun i σ G2=>∃ c0:Option V,σ=[c0,some (.ref t)]∧Same H2 G2∧G2 m1=some (.lst (((kps D ws D.ns.length).take i).map fun k=>V.str (D.ns.getD k "")))) ⟨none,rfl,Same.new _ fm1,qd⟩ (fun i σ G2 _ ⟨_,_,S,_⟩=>SqL.of (S _ _ hE)) ?_ ?_
   · rintro i z σ G2 hz ⟨c0,rfl,S2,hm⟩
     obtain⟨k,hk,rfl⟩:∃ k,(kps D ws D.ns.length)[i]?=some k∧V.int (k:Int)=z:=by
       rw[List.getElem?_map]at hz;exact Option.map_eq_some_iff.mp hz
     have hl:=(kps_in.mp (List.mem_of_getElem? hk)).1;have hi:=(List.getElem?_eq_some_iff.mp hk).1;have S02:=S02.trans S2;refine⟨_,rfl,.inr (.inl ⟨t,_,_,_,rfl,rfl,SqT.of (S02 _ _ h0),rfl,_,rfl,.inl ⟨l1,_,_,_,rfl,rfl,SqL.of (S02 _ _ h1),qT (by rw[List.getElem?_map,QR "" (l:=D.ns) (by omega)];rfl),_,hm,qw (by rw[List.length_map,List.length_take];omega),_,rfl,S2.put fm1 _,?_⟩⟩)⟩;rw[qd,List.take_add_one,hk,List.map_append];rfl
   rintro σ H3 ⟨c0,rfl,S2m1,hm1⟩;rw[List.length_map,List.take_length]at hm1;have S3:=S02.trans S2m1;have hE:=S2m1 _ _ hE;obtain⟨zt,ht2,tt2⟩:=h2.hd;refine⟨_,rfl,_,rfl,.inr (.inl ⟨t,_,_,_,rfl,rfl,SqT.of (S3 _ _ h0),rfl,_,rfl,E,rfl,⟨_,SqL.of hE⟩,fun m2 fm2=>?_⟩)⟩;refine zh (K:=K) (a:=E) (xs:=((kps D ws D.ns.length).map fun (k:Nat)=>V.int (k:Int))) (D:=m2) (fun i σ G2=>∃ c0:Option V,σ=[c0,some (.ref t)]∧Same H3 G2∧G2 m2=some (.lst (((kps D ws D.ns.length).take i).map fun k=>V.ref (D.es.getD k gk0).x))) ⟨none,rfl,Same.new _ fm2,qd⟩ (fun i σ G2 _ ⟨_,_,S,_⟩=>SqL.of (S _ _ hE)) ?_ ?_
   · rintro i z σ G2 hz ⟨c0,rfl,S2,hm⟩
     obtain⟨k,hk,rfl⟩:∃ k,(kps D ws D.ns.length)[i]?=some k∧V.int (k:Int)=z:=by
       rw[List.getElem?_map]at hz;exact Option.map_eq_some_iff.mp hz
     have hl:=(kps_in.mp (List.mem_of_getElem? hk)).1;have hi:=(List.getElem?_eq_some_iff.mp hk).1;have S02:=S3.trans S2;refine⟨_,rfl,.inr (.inl ⟨t,_,_,_,rfl,rfl,SqT.of (S02 _ _ h0),rfl,_,rfl,.inl ⟨l3,_,_,_,rfl,rfl,SqL.of (S02 _ _ h3),qT (by rw[List.getElem?_map,QR gk0 (l:=D.es) (by omega)];rfl),_,hm,qw (by rw[List.length_map,List.length_take];omega),_,rfl,S2.put fm2 _,?_⟩⟩)⟩;rw[qd,List.take_add_one,hk,List.map_append];rfl
   rintro σ H4 ⟨c0,rfl,S2m2,hm2⟩;rw[List.length_map,List.take_length]at hm2;have S4:=S3.trans S2m2;have hE:=S2m2 _ _ hE;refine⟨_,rfl,E,rfl,⟨_,SqL.of hE⟩,fun m3 fm3=>?_⟩;refine zh (K:=K) (a:=E) (xs:=((kps D ws D.ns.length).map fun (k:Nat)=>V.int (k:Int))) (D:=m3) (fun i σ G2=>∃ c0:Option V,σ=[c0,some (.ref t)]∧Same H4 G2∧G2 m3=some (.lst (((kps D ws D.ns.length).take i).map fun k=>V.ref (D.ss.getD k (0,[])).1))) ⟨none,rfl,Same.new _ fm3,qd⟩ (fun i σ G2 _ ⟨_,_,S,_⟩=>SqL.of (S _ _ hE)) ?_ ?_
   · rintro i z σ G2 hz ⟨c0,rfl,S2,hm⟩
     obtain⟨k,hk,rfl⟩:∃ k,(kps D ws D.ns.length)[i]?=some k∧V.int (k:Int)=z:=by
       rw[List.getElem?_map]at hz;exact Option.map_eq_some_iff.mp hz
     have hl:=(kps_in.mp (List.mem_of_getElem? hk)).1;have hi:=(List.getElem?_eq_some_iff.mp hk).1;have S02:=S4.trans S2;refine⟨_,rfl,.inr (.inl ⟨t,_,_,_,rfl,rfl,SqT.of (S02 _ _ h0),rfl,_,rfl,.inl ⟨l4,_,_,_,rfl,rfl,SqL.of (S02 _ _ h4),qT (by rw[List.getElem?_map,QR (0,[]) (l:=D.ss) (by omega)];rfl),_,hm,qw (by rw[List.length_map,List.length_take];omega),_,rfl,S2.put fm3 _,?_⟩⟩)⟩;rw[qd,List.take_add_one,hk,List.map_append];rfl
   rintro σ H5 ⟨c0,rfl,S2m3,hm3⟩;rw[List.length_map,List.take_length]at hm3;have S5:=S4.trans S2m3;refine⟨_,rfl,qj (Nat.le_of_ble_eq_true rfl),fun v fv=>?_⟩;generalize hG:upd H5 v _=H6;obtain⟨S6,e6⟩:=qk hG fv;clear hG;have Sb:=((S2m1.trans S2m2).trans S2m3).trans S6;have n1:=(S1.trans S2).none fm1;have n2:=S3.none fm2;have n3:=S4.none fm3;have nv:=S5.none fv;have nB:=S1.none fB;refine kk v H6 (S5.trans S6) nv fun G im SG kp=>dn0.due SG (kp _ _ nv e6) ?_ ?_ ?_ ?_ (kp _ _ nB (Sb _ _ hB)) (TupL.im (ty.same Sb) im)
   · refine kp _ _ n1 ?_;show _=some (HO.lst (((kps D ws D.ns.length).map fun k=>D.ns.getD k "").map V.str));rw[List.map_map];exact((S2m2.trans S2m3).trans S6) _ _ hm1
   · obtain⟨l1',l2',l3',l4',l5',zb',h0',h1',h2',h3',h4',h5',h6'⟩:=dn0.ht
     have:=h0.symm.trans (S0 _ _ h0')
     cases this;exact h2'.sm SG
   · refine kp _ _ n2 ?_;show _=some (HO.lst (((kps D ws D.ns.length).map fun k=>D.es.getD k gk0).map fun g=>V.ref g.x));rw[List.map_map];exact(S2m3.trans S6) _ _ hm2
   · refine kp _ _ n3 ?_;show _=some (HO.lst (((kps D ws D.ns.length).map fun k=>D.ss.getD k (0,[])).map fun s=>V.ref s.1));rw[List.map_map];exact S6 _ _ hm3
end
def drp (ns ws:List Str) (j:Nat):List Str:=(ns.take j).filter fun n=>decide (n∉ws)
theorem drp_in {ns ws:List Str}{j:Nat}{n:Str}:n∈drp ns ws j↔n∈ns.take j∧n∉ws:=by
 unfold drp;rw[List.mem_filter,decide_eq_true_iff]
theorem qjw {ns ws:List Str}{j:Nat}{n:Str} (h:ns[j]?=some n):drp ns ws (j+1)=drp ns ws j++(if n∈ws then [] else [n]):=by
 unfold drp;rw[List.take_add_one,h,List.filter_append];congr 1;show List.filter _ [n]=_;rw[List.filter_cons];by_cases c:n∈ws
 · rw[if_neg (by simpa using c),if_pos c];rfl
 · rw[if_pos (by simpa using c),if_neg c];rfl
abbrev esD (es:List Gk) (d:List Str):List Gk:=es.filter fun e=>decide (e.nm∉d)
abbrev bsD (bs:List (Str×Str×Int)) (d:List Str):List (Str×Str×Int):=bs.filter fun b=>decide (b.1∉d) && decide (b.2.1∉d)
theorem qk7 {es:List Gk}{d:List Str}{n:Str}:(esD es d).filter (fun e=>decide (e.nm≠n))=esD es (d++[n]):=by
 unfold esD;rw[List.filter_filter];refine List.filter_congr fun e _=>?_;rw[Bool.eq_iff_iff,Bool.and_eq_true,decide_eq_true_iff,decide_eq_true_iff,decide_eq_true_iff,List.mem_append,List.mem_singleton,not_or];exact And.comm
theorem qlj {bs:List (Str×Str×Int)}{d:List Str}{n:Str}:(bsD bs d).filter (kb n)=bsD bs (d++[n]):=by
 unfold bsD;rw[List.filter_filter];refine List.filter_congr fun b _=>?_;unfold kb;rw[Bool.eq_iff_iff];simp only[Bool.and_eq_true,Bool.not_eq_true',decide_eq_true_iff,decide_eq_false_iff_not,List.mem_append,List.mem_singleton,not_or];constructor
 · rintro⟨⟨h1,h2⟩,h3,h4⟩;exact⟨⟨h3,fun z=>h1 z.symm⟩,⟨h4,fun z=>h2 z.symm⟩⟩
 · rintro⟨⟨h3,h1⟩,⟨h4,h2⟩⟩;exact⟨⟨fun z=>h1 z.symm,fun z=>h2 z.symm⟩,h3,h4⟩
theorem qfc {ns ws:List Str}{n:Str} (h:n∈ns):(n∉drp ns ws ns.length)↔n∈ws:=by
 rw[drp_in,List.take_length];constructor
 · intro z;by_cases c:n∈ws
   · exact c
   · exact absurd ⟨h,c⟩ z
 · rintro c ⟨_,z⟩;exact z c
theorem qk8 {es:List Gk}{ws:List Str}:esD es (drp (es.map (·.nm)) ws (es.map (·.nm)).length)=es.filter fun g=>decide (g.nm∈ws):=List.filter_congr fun e m=>by
 rw[Bool.eq_iff_iff,decide_eq_true_iff,decide_eq_true_iff];exact qfc (List.mem_map.mpr ⟨e,m,rfl⟩)
theorem qlk {es:List Gk}{bs:List (Str×Str×Int)}{ws:List Str} (hb:∀ b∈bs,b.1∈es.map (·.nm)∧b.2.1∈es.map (·.nm)):bsD bs (drp (es.map (·.nm)) ws (es.map (·.nm)).length)=bs.filter (inW ws):=List.filter_congr fun b m=>by
 unfold inW;rw[decide_eq_decide.mpr (qfc (ws:=ws) (hb b m).1),decide_eq_decide.mpr (qfc (ws:=ws) (hb b m).2)]
inductive qas (a:Ad) (vs:List V) (H:Hp) (Q:VK) (E:XK):Prop
 | mk (x dx td ed bl:Addr) (ts:Pls) (es:List Gk) (bs:List (Str×Str×Int)) (n:Addr) (us:List V) (h1:vs=[.ref x,.ref n]) (h2:Lg a H x dx td ed bl ts es bs) (h3:H n=some (.lst us)) (h4:bs.length≤100) (h5:(∀ b∈bs,b.1∈es.map (·.nm)∧b.2.1∈es.map (·.nm))) (h6:((∃ ws:List Str,us=ws.map V.str∧(∀ s∈ws,s∈es.map (·.nm))∧∀ (x' dx' td' ed' bl':Addr) (H':Hp),(∀ b∈[x',td',ed',bl'],H b=none)->Same H H'->Lg a H' x' dx' td' ed' bl' ts (es.filter fun g=>decide (g.nm∈ws)) (bs.filter (inW ws))->Q (.ref x') H')∨(∃ (ws:List Str) (v:V) (ty:String) (rest:List V),us=ws.map V.str++v::rest∧(∀ s∈ws,s∈es.map (·.nm))∧tyN H v=some ty∧(∀ nm,v=.str nm->nm∉es.map (·.nm))∧Rz a.c_NoEntry "found" v H E))):qas a vs H Q E
def qat (a:Ad):Sp:=fun vs H Q E=>qas a vs H Q E
section
variable {P:Program}{w:World}{K:Frag}{mg:Str->Option Value}{base:Heap}
theorem qd4 {a:Ad} (T:Txt K mg a):qy P w K mg base (CX1 P w) 7 a.f_p a.fd_p ["log","names"] (qat a):=by
 have G_au:=qc1 (P:=P) (w:=w) (base:=base) T;have G_m:=ZK (P:=P) (w:=w) (base:=base) T;have G_g:=zD (P:=P) (w:=w) (base:=base) T;have G_s:=qbi (P:=P) (w:=w) (base:=base) T;refine T.d_p.F.okX sc_picked (fun vs H Q E h=>?_) (fun cdv A outer s H vs Q E hr h=>?_)
 · obtain⟨x,dx,td,ed,bl,ts,es,bs,n,us,rfl,hL,hn,bl100,hbn,kk⟩:=h;rfl
 · obtain⟨x,dx,td,ed,bl,ts,es,bs,n,us,rfl,hL,hn,bl100,hbn,kk⟩:=h;have h_au:Room (3) _:=hr.mono (by decide);have h_m:Room (1) _:=hr.mono (by decide);have h_g:Room (5) _:=hr.mono (by decide);have h_s:Room (6) _:=hr.mono (by decide)
   refine⟨_,(qc (zw PassesOwn.leaving rfl (qX (pv 1)) (qt (i:=2) (sc_picked.nd) rfl (Or.inl rfl))
       (qf (qA (qF (pv 0) T.cl_Log T.d_g.mt G_g h_g T.d_g.b .nil throws_cx.passes (qa (pv 2) qb)))))
     (qc (qH (i:=3) sc_picked.nd rfl (Or.inl rfl) (qE (pv 0) T.cl_Log T.d_au.mt G_au h_au T.d_au.b .nil qo))
     (qc (zw PassesOwn.leaving rfl (qX (qE (pv 0) T.cl_Log T.d_m.mt G_m h_m T.d_m.b .nil qo)) (qt (i:=2) (sc_picked.nd) rfl (Or.inl rfl))
       (qf (qU (qz (r:=rIn K true) J7 (pv 2) (pv 1) (by with_unfolding_all rfl))
         (qf (qA (qF (pv 3) T.cl_Log T.d_s.mt G_s h_s T.d_s.b .nil qo (qa (pv 2) qb))))
         qx)))
     (qf (qu (pv 3)))))),?_⟩
   try dsimp only [ze,Cx.nox]
   rcases kk with ⟨ws,rfl,hws,kk⟩|⟨ws,v,ty,rest,rfl,hws,hty,hv,kz⟩
   · refine qO (t:=qbG _ _ _) (fun σ' H'=>∃ s2:Option V,σ'=[some (.ref x),some (.ref n),s2,none]∧H'=H) (fun N hN=>?_) ?_
     · refine⟨_,rfl,n,rfl,⟨_,SqL.of hn⟩,zl (K:=K) (a:=n) (xs:=ws.map V.str) (D:={ nx:=N,rt:=Q }) (fun j σ H'=>∃ s2:Option V,σ=[some (.ref x),some (.ref n),s2,none]∧H'=H) ⟨none,rfl,rfl⟩ (fun j σ H' _ ⟨_,_,e⟩=>e▸SqL.of hn) ?_ ?_⟩
       · rintro j z σ H' hz ⟨s2,rfl,rfl⟩;obtain⟨s,hs,rfl⟩:=Option.map_eq_some_iff.mp ((List.getElem?_map ..).symm.trans hz);exact⟨_,rfl,x,dx,_,rfl,hL.hx,rfl,_,rfl,x,dx,td,ed,bl,ts,es,bs,.str s,"str",rfl,hL,rfl,.inl ⟨s,rfl,hws s (List.mem_of_getElem? hs),_,rfl,rfl⟩⟩
       · rintro σ H' ⟨s2,rfl,rfl⟩;exact hN _ _ ⟨s2,rfl,rfl⟩
     rintro _ H' ⟨s2,rfl,eH⟩;rw[eH];refine⟨_,rfl,x,dx,_,rfl,hL.hx,rfl,x,dx,td,ed,bl,ts,es,bs,rfl,hL,fun x' dx' td' ed' bl' H1 f1 f2 f3 f4 S1 hL1=>?_⟩;(try unfold qP);(try dsimp only);refine qO (t:=qbG _ _ _) (fun σ' H'=>∃ (s2:Option V) (b':Addr),σ'=[some (.ref x),some (.ref n),s2,some (.ref x')]∧Same H H'∧H b'=none∧Lg a H' x' dx' td' ed' b' ts (es.filter fun g=>decide (g.nm∈ws)) (bs.filter (inW ws))) (fun N hN=>?_) ?_
     · refine⟨_,rfl,x,dx,_,rfl,S1 _ _ hL.hx,rfl,x,dx,td,ed,bl,ts,es,bs,rfl,hL.sm S1,fun l fl=>?_⟩;have Sl:=Same.new (.lst ((es.map (·.nm)).map V.str)) fl;refine⟨l,rfl,⟨_,SqL.of qd⟩,zl (K:=K) (a:=l) (xs:=(es.map (·.nm)).map V.str) (D:={ nx:=N,rt:=Q }) (fun j σ H'=>∃ (s2:Option V) (b':Addr),σ=[some (.ref x),some (.ref n),s2,some (.ref x')]∧Same H H'∧H b'=none∧H' l=some (.lst ((es.map (·.nm)).map V.str))∧Lg a H' x' dx' td' ed' b' ts (esD es (drp (es.map (·.nm)) ws j)) (bsD bs (drp (es.map (·.nm)) ws j))) ⟨_,bl',rfl,S1.trans Sl,f4,qd,?_⟩ (fun j σ H' _ ⟨_,_,_,_,_,h,_⟩=>SqL.of h) ?_ ?_⟩
       · rw[show esD es (drp (es.map (·.nm)) ws 0)=es from List.filter_eq_self.mpr (fun e _=>decide_eq_true (by simp[drp])),show bsD bs (drp (es.map (·.nm)) ws 0)=bs from List.filter_eq_self.mpr (fun e _=>by simp[drp])];exact hL1.sm Sl
       · rintro j z σ H2 hz ⟨s2,b',rfl,S2,nb',hl2,hL2⟩;obtain⟨s,hs,rfl⟩:=Option.map_eq_some_iff.mp ((List.getElem?_map ..).symm.trans hz);refine⟨_,rfl,_,rfl,n,_,rfl,.inl (SqL.of (S2 _ _ hn)),rfl,qby _,_,rfl,?_⟩;rw[qdf];have ds:=qjw (ws:=ws) hs;by_cases c:s∈ws
         · refine qG (by rw[decide_eq_true c];rfl) ⟨_,b',rfl,S2,nb',hl2,?_⟩;rw[ds,if_pos c,List.append_nil];exact hL2
         · refine QG (by rw[decide_eq_false c];rfl) ?_;have nt:s∉(es.map (·.nm)).take j:=qc7 hL.nde hs;refine⟨_,rfl,x',dx',_,rfl,hL2.hx,rfl,_,rfl,x',dx',td',ed',b',ts,_,_,s,rfl,hL2,?_,Nat.le_trans (List.length_filter_le _ _) bl100,fun b2 H3 nb2 B3 hL3=>?_⟩
           · obtain⟨e,me,en⟩:=List.mem_map.mp (List.mem_of_getElem? hs);exact List.mem_map.mpr ⟨e,List.mem_filter.mpr ⟨me,decide_eq_true fun z=>nt (by rw[← en];exact(drp_in.mp z).1)⟩,en⟩
           · rw[qk7,qlj]at hL3;refine⟨_,b2,rfl,fun b o e=>B3 b o (S2 b o e) (fun m=>?_),S2.none nb2,B3 _ _ hl2 (fun m=>?_),?_⟩
             · simp only[List.mem_cons,List.not_mem_nil,or_false]at m;rcases m with h|h
               · rw[h,f1]at e;cases e
               · rw[h,f3]at e;cases e
             · simp only[List.mem_cons,List.not_mem_nil,or_false]at m;rcases m with h|h
               · rw[h,hL2.hx]at hl2;cases hl2
               · rw[h,hL2.he]at hl2;cases hl2
             · rw[ds,if_neg c];exact hL3
       · rintro σ H2 ⟨s2,b',rfl,S2,nb',hl2,hL2⟩;rw[List.length_map,qk8,qlk hbn]at hL2;exact hN _ _ ⟨_,b',rfl,S2,nb',hL2⟩
     rintro _ H2 ⟨s2,b',rfl,S2,nb',hL2⟩;refine⟨_,rfl,kk x' dx' td' ed' b' H2 (fun b m=>?_) S2 hL2⟩;simp only[List.mem_cons,List.not_mem_nil,or_false]at m;rcases m with h|h|h|h
     · rw[h];exact f1
     · rw[h];exact f2
     · rw[h];exact f3
     · rw[h];exact nb'
   · refine⟨_,rfl,n,rfl,⟨_,SqL.of hn⟩,zl (K:=K) (a:=n) (xs:=ws.map V.str++v::rest) (fun j σ H'=>∃ s2:Option V,σ=[some (.ref x),some (.ref n),s2,none]∧H'=H∧j≤ws.length) ⟨none,rfl,rfl,Nat.zero_le _⟩ (fun j σ H' _ ⟨_,_,e,_⟩=>e▸SqL.of hn) ?_ ?_⟩
     · rintro j z σ H' hz ⟨s2,rfl,rfl,hj⟩;by_cases c:j < ws.length
       · have hs:ws[j]?=some ws[j]:=List.getElem?_eq_getElem c
         have ez:z=.str ws[j]:=by
           rw[List.getElem?_append_left (by rw[List.length_map];exact c),List.getElem?_map,hs]at hz;exact(Option.some.inj hz).symm
         subst ez;exact⟨_,rfl,x,dx,_,rfl,hL.hx,rfl,_,rfl,x,dx,td,ed,bl,ts,es,bs,.str ws[j],"str",rfl,hL,rfl,.inl ⟨ws[j],rfl,hws _ (List.getElem_mem c),_,rfl,rfl,c⟩⟩
       · have ej:j=ws.length:=by omega
         have ez:z=v:=by
           rw[ej,List.getElem?_append_right (by rw[List.length_map];exact Nat.le_refl _),List.length_map,Nat.sub_self]at hz;exact(Option.some.inj hz).symm
         subst ez;exact⟨_,rfl,x,dx,_,rfl,hL.hx,rfl,_,rfl,x,dx,td,ed,bl,ts,es,bs,z,ty,rfl,hL,hty,.inr ⟨hv,kz⟩⟩
     · rintro σ H' ⟨s2,rfl,rfl,hj⟩;rw[List.length_append,List.length_map,List.length_cons]at hj;omega
end
theorem qmo:Good [(0,9)]:=⟨by decide,⟨9,rfl⟩,List.pairwise_singleton _ _,fun r m=>by rw[List.mem_singleton.mp m];decide⟩
theorem qj9:Good [(0,9),(4,7)]:=⟨by decide,⟨9,rfl⟩,(by unfold Asc;decide),fun r m=>by
 simp only[List.mem_cons,List.not_mem_nil,or_false]at m
 rcases m with rfl|rfl<;>decide⟩
theorem qiW {ts:Pls}{pl:Str}{t:Addr}{rows:List (Int×Int)}:(qgq ts pl t rows).length≤ts.length+1:=by
 unfold qgq;split
 · rw[List.length_map];omega
 · rw[List.length_append];exact Nat.le_refl _
theorem qj3:zC (.str "newentry")=true:=by decide +kernel
theorem qnW:zC (.str "p")=true:=by decide +kernel
theorem qkU:zC (.str "bond")=true:=by decide +kernel
inductive JJ (a:Ad) (vs:List V) (H:Hp) (Q:VK):Prop
 | mk (x dx td ed bl:Addr) (ts:Pls) (es:List Gk) (bs:List (Str×Str×Int)) (h1:vs=[.ref x]) (h2:Lg a H x dx td ed bl ts es bs) (h3:("newentry":Str)∉es.map (·.nm)) (h4:es.length < 60) (h5:ts.length≤5) (h6:bs.length < 90) (h7:∀ (ts':Pls) (es':List Gk) (bs':List (Str×Str×Int)) (H':Hp),ButL [x,td,ed,bl] H H'->Lg a H' x dx td ed bl ts' es' bs'->es'.map (·.nm)=es.map (·.nm)++[("newentry":Str)]->ts'.length≤ts.length+1->bs'.length≤bs.length+1->Q .non H'):JJ a vs H Q
def qb0 (a:Ad):Sp:=fun vs H Q _=>JJ a vs H Q
section
variable {P:Program}{w:World}{K:Frag}{mg:Str->Option Value}{base:Heap}
theorem qgw {a:Ad} (T:Txt K mg a):qy P w K mg base CX0 9 a.f_N a.fd_N ["_law_log_here"] (qb0 a):=by
 have G_F:=qck (P:=P) (w:=w) (base:=base) T;have G_l:=ZL (P:=P) (w:=w) (base:=base) T;have G_r:=qbj (P:=P) (w:=w) (base:=base) T;have G_ao:=qcZ (P:=P) (w:=w) (base:=base) T;have G_G:=qcl (P:=P) (w:=w) (base:=base) T;have G_q:=Q3 (P:=P) (w:=w) (base:=base) T;have G_m:=ZK (P:=P) (w:=w) (base:=base) T;refine T.d_N.F.ok qgn (fun vs H Q E h=>?_) (fun cdv A outer s H vs Q E hr h=>?_)
 · obtain⟨x,dx,td,ed,bl,ts,es,bs,rfl,hL,hno,he,ht,hb,kk⟩:=h;rfl
 · obtain⟨x,dx,td,ed,bl,ts,es,bs,rfl,hL,hno,he,ht,hb,kk⟩:=h;have h_F:Room (3) _:=hr.mono (by decide);have h_l:Room (2) _:=hr.mono (by decide);have h_r:Room (6) _:=hr.mono (by decide);have h_ao:Room (4) _:=hr.mono (by decide);have h_G:Room (7+1) _:=hr.mono (by decide);have h_q:Room (6+1) _:=hr.mono (by decide);have h_m:Room (1) _:=hr.mono (by decide)
   refine⟨_,(qc (qA (qF (pv 0) T.cl_Log T.d_F.mt G_F h_F T.d_F.b .nil qo (qa (zL T.M_At G_G h_G rfl T.g_At T.d_G.b .nil qo (qa q9 (qa qe qb))) qb)))
     (qc (qA (qF (pv 0) T.cl_Log T.d_l.mt G_l h_l T.d_l.b .nil qo (qa q9 (qa (zL T.M_Table G_q h_q rfl T.g_Table T.d_q.b .nil qo (qa (qM (qa (qZ (qa qe (qa qe qb))) qb)) qb)) qb))))
     (qc (qA (qF (pv 0) T.cl_Log T.d_r.mt G_r h_r T.d_r.b .nil qev (qa q9 (qa q9 (qa qe qb)))))
     (qc (qA (qF (pv 0) T.cl_Log T.d_ao.mt G_ao h_ao T.d_ao.b .nil qo (qa qe qb)))
     (qf (qA (qF (pv 0) T.cl_Log T.d_r.mt G_r h_r T.d_r.b .nil qev (qa (qr (r:=rIx K) qi (qE (pv 0) T.cl_Log T.d_m.mt G_m h_m T.d_m.b .nil qo) qe (fun _ _=>rfl)) (qa q9 (qa qe qb)))))))))),?_⟩
   try dsimp only [ze,Cx.nox]
   refine⟨_,rfl,x,dx,_,rfl,hL.hx,rfl,fun g dg f1 f2 ne=>⟨g,dg,_,_,rfl,qd,qj3,⟨by decide,by decide⟩,fun H1 B1 h1=>⟨rfl,?_⟩⟩⟩;have S1:=qR f1 f2 B1;have hL1:=hL.sm S1;refine⟨x,dx,td,ed,bl,_,_,_,.b (.one ⟨"newentry","at","",5,5,g⟩),rfl,hL1,.b (.one (.at_ h1)),.b (.one (.at_ qj3 ⟨by show (0:Int)≤5;decide,by show (5:Int)≤_;decide⟩)),hno,(fun s m=>nomatch m),he,fun H2 B2 hL2=>?_⟩;(try unfold qP);(try dsimp only);refine⟨_,rfl,x,dx,_,rfl,hL2.hx,rfl,qj (Nat.le_of_ble_eq_true rfl),fun u fu=>?_⟩;generalize hG:upd H2 u _=H3;obtain⟨S3,e3⟩:=qk hG fu;clear hG;refine⟨qj (Nat.le_of_ble_eq_true rfl),fun d fd=>?_⟩;generalize hG:upd H3 d _=H4;obtain⟨S4,e4⟩:=qk hG fd;clear hG;refine fun t dt f1' f2' ne'=>?_;have rs4:Rs H4 d [(0,9)]:=⟨_,e4,(TupL.nil (f:=pr)).snoc (p:=((0:Int),(9:Int))) (S4 _ _ e3)⟩
   have Sm:=qR (C:=a.c_Table) f1' f2' (But.refl _ _);refine⟨t,dt,d,[(0,9)],rfl,qd,rs4.same Sm,qmo,fun G B tbl=>⟨rfl,?_⟩⟩;have SG:=(S3.trans S4).trans (qR f1' f2' B);refine⟨x,dx,td,ed,bl,_,_,_,"p",t,[(0,9)],rfl,hL2.sm SG,qnW,(fun _=>by omega),by omega,tbl,qmo,fun H5 B5 hL5=>?_⟩;have tl:=qiW (ts:=ts) (pl:="p") (t:=t) (rows:=[(0,9)]);(try unfold qP);(try dsimp only)
   have mnew:("newentry":Str)∈(es++[Gk.b (.one ⟨"newentry","at","",5,5,g⟩)]).map (·.nm):=by
     rw[List.map_append];exact List.mem_append_right _ List.mem_cons_self
   refine⟨_,rfl,x,dx,_,rfl,hL5.hx,rfl,x,dx,td,ed,bl,_,_,_,"newentry","newentry",0,rfl,hL5,.inl ⟨mnew,mnew,by decide,by decide,by omega,fun H6 B6 hL6=>?_⟩⟩;(try unfold qP);(try dsimp only);have l6:(bs++[(("newentry":Str),("newentry":Str),(0:Int))]).length=bs.length+1:=by rw[List.length_append];rfl
   refine⟨_,rfl,x,dx,_,rfl,hL6.hx,rfl,x,dx,td,ed,bl,_,_,_,0,rfl,hL6,by omega,by omega,fun H7 B7 hL7=>?_⟩;(try unfold qP);(try dsimp only);have l7:((bs++[(("newentry":Str),("newentry":Str),(0:Int))]).eraseIdx 0).length=bs.length:=by rw[List.length_eraseIdx,if_pos (by omega),l6];rfl
   obtain⟨n0,r0,e0⟩:∃ n0 r0,(es++[Gk.b (.one ⟨"newentry","at","",5,5,g⟩)]).map (·.nm)=n0::r0:=by
     cases es with
     | nil=>exact⟨_,_,rfl⟩
     | cons e es=>exact⟨_,_,rfl⟩
   refine⟨_,rfl,x,dx,_,rfl,hL7.hx,rfl,_,rfl,x,dx,_,rfl,hL7.hx,rfl,x,dx,td,ed,bl,_,_,_,rfl,hL7,fun l fl=>?_⟩;rw[e0];have Sl:=Same.new (.lst ((n0::r0).map V.str)) fl;refine .inl ⟨l,_,_,_,rfl,rfl,SqL.of qd,(show atI _ ((0:Nat):Int)=_ from qT rfl),x,dx,td,ed,bl,_,_,_,n0,"newentry",1,rfl,hL7.sm Sl,.inl ⟨by rw[e0];exact List.mem_cons_self,mnew,by decide,by decide,by omega,fun H8 B8 hL8=>?_⟩⟩;refine kk _ _ _ H8 (fun b o e m=>?_) hL8 (by rw[List.map_append];rfl) tl (by rw[List.length_append,l7];exact Nat.le_refl _);simp only[List.mem_cons,List.not_mem_nil,or_false,not_or]at m;obtain⟨m1,m2,m3,m4⟩:=m;exact B8 b o (Sl b o (B7 b o (B6 b o (B5 b o (SG b o (B2 b o (S1 b o e) m3)) m2) m4) m4)) m4
end
structure Bad (H:Hp) (v:V) (ty:String):Prop where
 ty:tyN H v=some ty
 pl:qcf v=true
 eq:(∃ d,DV H v d∧PyData.canLay0 d=true∧SeqAt.shaped d=true)∨∃ p,v=.ref p∧H p=some (.dK [])
theorem qlv {H H':Hp}{v:V}{ty:String} (h:tyN H v=some ty) (s:Same H H'):tyN H' v=some ty:=by
 cases v with
 | ref p =>
   simp only[tyN]at h ⊢
   cases e:H p with
   | none=>rw[e]at h;cases h
   | some o=>rw[s _ _ e];rw[e]at h;exact h
 | _=>exact h
theorem Bad.sm {H H':Hp}{v:V}{ty:String} (h:Bad H v ty) (s:Same H H'):Bad H' v ty:=⟨qlv h.ty s,h.pl,h.eq.imp (fun⟨d,h1,h2⟩=>⟨d,h1.same s,h2⟩) (fun⟨p,h1,h2⟩=>⟨p,h1,s _ _ h2⟩)⟩
inductive jP (a:Ad) (vs:List V) (H:Hp) (Q:VK):Prop
 | mk (x dx td ed bl:Addr) (ts:Pls) (es:List Gk) (bs:List (Str×Str×Int)) (n:Addr) (ws:List Str) (v:V) (ty:String) (rest:List V) (h1:vs=[.ref x,.ref n,v]) (h2:Lg a H x dx td ed bl ts es bs) (h3:H n=some (.lst (ws.map V.str++v::rest))) (h4:bs.length≤100) (h5:(∀ b∈bs,b.1∈es.map (·.nm)∧b.2.1∈es.map (·.nm))) (h6:(∀ s∈ws,s∈es.map (·.nm))) (h7:Bad H v ty) (h8:(∀ nm,v=.str nm->nm∉es.map (·.nm))) (h9:rest.all qcf=true) (h10:∀ H',Same H H'->Q (.bl true) H'):jP a vs H Q
def qaC (a:Ad):Sp:=fun vs H Q _=>jP a vs H Q
section
variable {P:Program}{w:World}{K:Frag}{mg:Str->Option Value}{base:Heap}
theorem qeZ {a:Ad} (T:Txt K mg a):qy P w K mg base CX0 8 a.f_M a.fd_M ["_law_log_here","_law_names_here","_law_bad"] (qaC a):=by
 have G_p:=qd4 (P:=P) (w:=w) (base:=base) T;refine T.d_M.F.ok sc_Lrefused (fun vs H Q E h=>?_) (fun cdv A outer s H vs Q E hr h=>?_)
 · obtain⟨x,dx,td,ed,bl,ts,es,bs,n,ws,v,ty,rest,rfl,hL,hn,b1,hbn,hws,bad,hv,rp,kk⟩:=h;rfl
 · obtain⟨x,dx,td,ed,bl,ts,es,bs,n,ws,v,ty,rest,rfl,hL,hn,b1,hbn,hws,bad,hv,rp,kk⟩:=h;have hU:=hr.units;have h_p:Room (7) _:=hr.mono (by decide)
   refine⟨_,(qc (qH (i:=3) sc_Lrefused.nd rfl (Or.inl rfl) (zo (r:=qiU K) zm (by rfl) T.n_list zf (qa (pv 1) qb)))
     (qc (qlX (i:=4) rfl rfl (by exact(qkE (qi3 G_p h_p rfl T.d_p.m T.d_p.k T.d_p.b (qa (pv 0) (qa (pv 1) qb)))))
       rfl T.g_LogError T.xl_LogError sc_Lrefused.nd rfl (Or.inl rfl) rfl (fun ea=>(by exact
       (qc (qU (PW.pt (Zh (zc (q8 (qq (r:=qmD K) qdk (by rfl) T.n_isinstance qv (qa (pv 4) (qa (za (v:=.ref a.c_NoEntry) rfl T.g_NoEntry rfl) qb))))) (Zh (zc (q8 (qq (r:=qmD K) qdk (by rfl) T.n_isinstance qv (qa (pv 4) (qa (Qc (v:=.ty "ValueError") rfl T.n_ValueError Zg rfl) qb))))) (Zh (q8 (qq (r:=qmD K) qdk (by rfl) T.n_isinstance qv (qa (pv 4) (qa (za (v:=.ref a.c_NoName) rfl T.g_NoName rfl) qb)))) (Zf (qz (qjZ hU) (pv 1) (pv 3) (qJ _)))))))
         (qf (qu Z2))
         qx)
       (qf (qu (J6 (Q1 ((uEq hU).or (qkM hU)) (show PE _ _ (qkq K _ "found") from qhx (pv 4) rfl) (pv 2) (qJ _)) (qch (Q1 (uEq hU) (qq zV (by rfl) T.n_isinstance qv (qa (show PE _ _ (qkq K _ "found") from qhx (pv 4) rfl) (qa (Qc (v:=.ty "bool") rfl T.n_bool Jy rfl) qb))) (qq zV (by rfl) T.n_isinstance qv (qa (pv 2) (qa (Qc (v:=.ty "bool") rfl T.n_bool Jy rfl) qb))) (qJ _))))))))))
     (qf (qu Z2)))),?_⟩
   try dsimp only [ze,Cx.nox]
   refine⟨_,rfl,n,_,rfl,.inl (SqL.of hn),fun kp fk=>?_⟩;generalize hG:upd H kp _=H1;obtain⟨S1,e1⟩:=qk hG fk;clear hG;(try unfold qP);(try dsimp only);refine⟨_,rfl,_,rfl,x,dx,td,ed,bl,ts,es,bs,n,_,rfl,hL.sm S1,S1 _ _ hn,b1,hbn,.inr ⟨ws,v,ty,rest,rfl,hws,(bad.sm S1).ty,hv,?_⟩⟩;intro ea dx2 G S fe fd hd xa;refine⟨_,ea,rfl,rfl,T.X_NoEntry.c.xi,T.up_NoEntry,?_⟩;have SG:=S1.trans S;have badG:=bad.sm SG
   have al:(ws.map V.str++v::rest).all qcf=true:=by
     rw[List.all_append,List.all_cons,bad.pl,rp,Bool.and_true,Bool.and_true,List.all_map];exact List.all_eq_true.mpr fun _ _=>rfl
   refine⟨_,rfl,ea,_,dx2,_,_,_,rfl,xa,hd,T.X_NoEntry.c,T.is_NoEntry_NoEntry,true,rfl,qG rfl ?_⟩;refine⟨_,rfl,ea,_,dx2,_,.ty "ValueError",true,rfl,xa,hd,T.X_NoEntry.c,rfl,true,rfl,qG rfl ?_⟩;refine⟨_,rfl,ea,_,dx2,_,_,_,rfl,xa,hd,T.X_NoEntry.c,T.is_NoEntry_NoName,false,rfl,qgR ?_⟩;refine⟨_,rfl,_,rfl,n,kp,_,rfl,rfl,SG _ _ hn,S _ _ e1,al,false,rfl,qgR ?_⟩
   have last:∀ Q':VK,Q' (.bl true) G->qmY v v G Q'∨qlW v v G Q':=fun Q' h=>by
     rcases badG.eq with ⟨d,dv,c,sh⟩|⟨p,rfl,hp⟩
     · exact .inl (qfa dv dv c sh h)
     · exact .inr ⟨p,p,[],rfl,rfl,.inl hp,hp,h⟩
   refine⟨_,rfl,ea,_,dx2,_,_,rfl,xa,hd,T.X_NoEntry.c,T.n_NoEntry_found,rfl,_,rfl,last _ ?_⟩;exact⟨true,rfl,qgF ⟨_,rfl,ea,_,dx2,_,_,rfl,xa,hd,T.X_NoEntry.c,T.n_NoEntry_found,rfl,_,_,_,rfl,(by decide),badG.ty,_,rfl,_,_,_,rfl,(by decide),badG.ty,qfa (.bl _) (.bl _) rfl rfl (kk G SG)⟩⟩
end
theorem qgC {K:Frag}{mg:Str->Option Value}{a:Ad} (T:Txt K mg a):kitOne K (.ref a.c_Log) (.ref a.c_Log)=some true:=by
 rw[zA T.mr_Log rfl T.t_Log];simp
structure Wl (a:Ad) (H H1 H2 Hc:Hp) (t' x dx td ed bl:Addr) (ts:Pls) (D':Dw):Prop where
 sh:Same H Hc
 im:Imm H2 Hc
 kp:∀ b o,H1 b=none->H2 b=some o->Hc b=some o
 dom:∀ b,Hc b=none->H2 b=none
 tb:Tl a Hc x dx td ed bl ts D'
structure Own (H H1 H2:Hp) (mu2 M:List Addr):Prop where
 fr:∀ m∈M,H m=none
 kd:∀ m∈M,(∃ o,H1 m=some o)∨H2 m=none
 dj:∀ m∈M,m∉mu2
section
variable {a:Ad}{H H1 H2 Hc Hc':Hp}{t' x dx td ed bl:Addr}{ts:Pls}{D':Dw}
theorem Tl.im (h:Tl a Hc x dx td ed bl ts D') (i:Imm Hc Hc') (k:∀ b∈[x,td,ed,bl],∀ o,Hc b=some o->Hc' b=some o):Tl a Hc' x dx td ed bl ts D':=⟨h.lg.im i k,h.et⟩
theorem Wl.sm (W:Wl a H H1 H2 Hc t' x dx td ed bl ts D') (s:Same Hc Hc'):Wl a H H1 H2 Hc' t' x dx td ed bl ts D':=⟨W.sh.trans s,W.im.trans (.sm s),fun b o h1 h2=>s _ _ (W.kp b o h1 h2),fun b h=>W.dom b (s.none h),⟨W.tb.lg.sm s,W.tb.et⟩⟩
theorem Wl.step {M:List Addr} (W:Wl a H H1 H2 Hc t' x dx td ed bl ts D') (B:ButL M Hc Hc') (mu:∀ m∈M,Mu Hc m) (O:Own H H1 H2 [x,td,ed,bl] M) (ex:∀ m∈M,∃ o,Hc' m=some o):Wl a H H1 H2 Hc' t' x dx td ed bl ts D':=by
 have i:=ButL.imm B mu;refine⟨fun b o e=>B b o (W.sh b o e) (fun m=>?_),W.im.trans i,fun b o h1 h2=>B b o (W.kp b o h1 h2) (fun m=>?_),fun b h=>W.dom b ?_,W.tb.im i fun b m o e=>B b o e fun m'=>O.dj b m' m⟩
 · rw[O.fr b m]at e;cases e
 · rcases O.kd b m with ⟨o',h⟩|h
   · rw[h]at h1;cases h1
   · rw[h]at h2;cases h2
 · cases e:Hc b with
   | none=>rfl
   | some o =>
     by_cases m:b∈M
     · obtain⟨o',h'⟩:=ex b m;rw[h']at h;cases h
     · rw[B b o e m]at h;cases h
theorem Lg.has {x dx td ed bl:Addr}{ts:Pls}{es:List Gk}{bs:List (Str×Str×Int)} (h:Lg a H x dx td ed bl ts es bs):∀ m∈[x,td,ed,bl],∃ o,H m=some o:=fun m hm=>by
 simp only[List.mem_cons,List.not_mem_nil,or_false]at hm;obtain⟨zs,hb,_⟩:=h.hb;rcases hm with rfl|rfl|rfl|rfl
 · exact⟨_,h.hx⟩
 · exact⟨_,h.ht⟩
 · exact⟨_,h.he⟩
 · exact⟨_,hb⟩
theorem Own.sub {mu2 M N:List Addr} (O:Own H H1 H2 mu2 M) (s:∀ m∈N,m∈M):Own H H1 H2 mu2 N:=⟨fun m h=>O.fr m (s m h),fun m h=>O.kd m (s m h),fun m h=>O.dj m (s m h)⟩
theorem Wl.own (W:Wl a H H1 H2 Hc t' x dx td ed bl ts D') {y td1 ed1 b1 b2:Addr} (O:Own H H1 H2 [x,td,ed,bl] [y,td1,ed1,b1]) (n:Hc b2=none):Own H H1 H2 [x,td,ed,bl] [y,td1,ed1,b2]:=by
 have s3:∀ m∈[y,td1,ed1,b2],m∈[y,td1,ed1,b1]∨m=b2:=fun m h=>by
   simp only[List.mem_cons,List.not_mem_nil,or_false]at h ⊢;rcases h with h|h|h|h
   · exact .inl (.inl h)
   · exact .inl (.inr (.inl h))
   · exact .inl (.inr (.inr (.inl h)))
   · exact .inr h
 refine⟨fun m h=>?_,fun m h=>?_,fun m h=>?_⟩
 · rcases s3 m h with h|rfl
   · exact O.fr m h
   · exact W.sh.none n
 · rcases s3 m h with h|rfl
   · exact O.kd m h
   · exact .inr (W.dom _ n)
 · rcases s3 m h with h|rfl
   · exact O.dj m h
   · intro z;obtain⟨o,e⟩:=W.tb.lg.has _ z;rw[e]at n;cases n
theorem Wl.drop (W:Wl a H H1 H2 Hc t' x dx td ed bl ts D') {y dy td1 ed1 b1 b2:Addr}{ts1 ts2:Pls}{es1 es2:List Gk}{bs1 bs2:List (Str×Str×Int)} (O:Own H H1 H2 [x,td,ed,bl] [y,td1,ed1,b1]) (h1:Lg a Hc y dy td1 ed1 b1 ts1 es1 bs1) (n:Hc b2=none) (B:ButL [y,ed1] Hc Hc') (h2:Lg a Hc' y dy td1 ed1 b2 ts2 es2 bs2):Wl a H H1 H2 Hc' t' x dx td ed bl ts D'∧Own H H1 H2 [x,td,ed,bl] [y,td1,ed1,b2]:=by
 have s2:∀ b:Addr,∀ m∈[y,ed1],m∈[y,td1,ed1,b]:=fun b m h=>by
   simp only[List.mem_cons,List.not_mem_nil,or_false]at h ⊢;rcases h with h|h
   · exact .inl h
   · exact .inr (.inr (.inl h))
 exact⟨W.step B (fun m h=>h1.mu m (s2 b1 m h)) (O.sub (s2 b1)) fun m h=>h2.has m (s2 b2 m h),W.own O n⟩
end
theorem Dn.fst {a:Ad}{G G':Hp}{t k1 k2 k3 k4 k5:Addr}{D:Dw} (h':Dn a G' t D) (i:Imm G G') (g:G t=some (.tup [.ref k1,.ref k2,.ref k3,.ref k4,.ref k5])):G' k1=some (.lst (D.ns.map V.str)):=by
 obtain⟨l1,l2,l3,l4,l5,zb,h0,h1,_⟩:=h'.ht
 have:=(i.tup _ _ g).symm.trans h0
 cases this;exact h1
theorem qdW {ns:List Str}{es:List Gk}{j:Nat}{s:Str} (nd:ns.Nodup) (hs:ns[j]?=some s) (h:∀ k n,j≤k->ns[k]?=some n->n∈es.map (·.nm)):∀ k n,j+1≤k->ns[k]?=some n->n∈(es.filter fun e=>decide (e.nm≠s)).map (·.nm):=fun k n hk hn=>by
 obtain⟨e,me,en⟩:=List.mem_map.mp (h k n (by omega) hn);refine List.mem_map.mpr ⟨e,List.mem_filter.mpr ⟨me,decide_eq_true fun z=>?_⟩,en⟩;obtain⟨l1,e1⟩:=List.getElem?_eq_some_iff.mp hs;obtain⟨l2,e2⟩:=List.getElem?_eq_some_iff.mp hn;exact List.pairwise_iff_getElem.mp nd j k l1 l2 (by omega) (by rw[e1,e2,← en,z])
inductive qaB (a:Ad) (vs:List V) (H:Hp) (Q:VK):Prop
 | mk (t w:Addr) (D:Dw) (ws:List Str) (h1:vs=[.ref t,.ref w]) (h2:Dn a H t D) (h3:H w=some (.lst (ws.map V.str))) (h4:(∀ s∈ws,s∈D.ns)) (h5:∀ H',Same H H'->Q (.bl true) H'):qaB a vs H Q
def qdu (a:Ad):Sp:=fun vs H Q _=>qaB a vs H Q
theorem qfP:("newentry":Str)∉POOL:=by decide +kernel
theorem Jt (ws:List Str):(ws.map V.str).all qcf=true:=by
 rw[List.all_map];exact List.all_eq_true.mpr fun _ _=>rfl
section
variable {P:Program}{w:World}{K:Frag}{mg:Str->Option Value}{base:Heap}
theorem qhG {a:Ad} (T:Txt K mg a):qy P w K mg base CX0 10 a.f_u a.fd_u ["_law_drawn_here","_law_wanted"] (qdu a):=by
 have G_C:=qef (P:=P) (w:=w) (base:=base) T;have G_af:=qkP (P:=P) (w:=w) (base:=base) T;have G_p:=qd4 (P:=P) (w:=w) (base:=base) T;have G_N:=qgw (P:=P) (w:=w) (base:=base) T;have G_l:=ZL (P:=P) (w:=w) (base:=base) T;have G_c:=qd9 (P:=P) (w:=w) (base:=base) T;have G_s:=qbi (P:=P) (w:=w) (base:=base) T;have G_q:=Q3 (P:=P) (w:=w) (base:=base) T;refine T.d_u.F.ok sc_Lright (fun vs H Q E h=>?_) (fun cdv A outer s H vs Q E hr h=>?_)
 · obtain⟨t,w,D,ws,rfl,dn,hw,hws,kk⟩:=h;rfl
 · obtain⟨t,w,D,ws,rfl,dn,hw,hws,kk⟩:=h;have hU:=hr.units;have h_C:Room (8) _:=hr.mono (by decide);have h_af:Room (1) _:=hr.mono (by decide);have h_p:Room (7) _:=hr.mono (by decide);have h_N:Room (9) _:=hr.mono (by decide);have h_l:Room (2) _:=hr.mono (by decide);have h_c:Room (9) _:=hr.mono (by decide);have h_s:Room (6) _:=hr.mono (by decide);have h_q:Room (6+1) _:=hr.mono (by decide)
   refine⟨_,(qc (qH (i:=2) sc_Lright.nd rfl (Or.inl rfl) (qp G_C h_C rfl T.d_C.m T.d_C.k T.d_C.b .nil qo (qa (pv 0) qb)))
     (qc (qH (i:=3) sc_Lright.nd rfl (Or.inl rfl) (qp G_af h_af rfl T.d_af.m T.d_af.k T.d_af.b .nil qo (qa (pv 0) (qa (pv 1) qb))))
     (qc (qH (i:=4) sc_Lright.nd rfl (Or.inl rfl) (zo (r:=qiU K) zm (by rfl) T.n_list zf (qa (pv 1) qb)))
     (qc (qH (i:=5) sc_Lright.nd rfl (Or.inl rfl) (qp G_p h_p rfl T.d_p.m T.d_p.k T.d_p.b .nil qev (qa (pv 2) (qa (pv 4) qb))))
     (qc (qU (PW.pt (Zh (qz (qjZ hU) (pv 4) (pv 1) (qJ _)) (Zh (zc (q8 (qq (r:=qkB K) Z1 (by rfl) T.n_isinstance qv (qa (pv 5) (qa (za (v:=.ref a.c_Log) rfl T.g_Log rfl) qb))))) (Zh (zc (q8 (qp G_c h_c rfl T.d_c.m T.d_c.k T.d_c.b .nil qo (qa (pv 5) (qa (pv 3) qb))))) (Zf (zc (q8 (qp G_c h_c rfl T.d_c.m T.d_c.k T.d_c.b .nil qo (qa (pv 2) (qa (pv 0) qb))))))))))
       (qf (qu Z2))
       qx)
     (qc (qH (i:=6) sc_Lright.nd rfl (Or.inl rfl) (qp G_p h_p rfl T.d_p.m T.d_p.k T.d_p.b .nil qev (qa (pv 2) (qa (zo (r:=qiU K) zm (by rfl) T.n_list zf (qa (pv 1) qb)) qb))))
     (qc (qA (qp G_N h_N rfl T.d_N.m T.d_N.k T.d_N.b .nil qo (qa (pv 5) qb)))
     (qc (qU (PW.pt (Zh (zc (q8 (qp G_c h_c rfl T.d_c.m T.d_c.k T.d_c.b .nil qo (qa (pv 2) (qa (pv 0) qb))))) (Zf (zc (q8 (qp G_c h_c rfl T.d_c.m T.d_c.k T.d_c.b .nil qo (qa (pv 6) (qa (pv 3) qb))))))))
       (qf (qu Z2))
       qx)
     (qc (zw PassesOwn.never rfl (qX (qr (r:=rIx K) qi (pv 3) qe (fun _ _=>rfl))) (qt (i:=7) (sc_Lright.nd) rfl (Or.inl rfl))
       (qf (qA (qF (pv 5) T.cl_Log T.d_s.mt G_s h_s T.d_s.b .nil qo (qa (pv 7) qb)))))
     (qc (qA (qp G_N h_N rfl T.d_N.m T.d_N.k T.d_N.b .nil qo (qa (pv 2) qb)))
     (qc (qU (zc (q8 (qp G_c h_c rfl T.d_c.m T.d_c.k T.d_c.b .nil qo (qa (pv 6) (qa (pv 3) qb)))))
       (qf (qu Z2))
       qx)
     (qc (qA (qF (pv 2) T.cl_Log T.d_l.mt G_l h_l T.d_l.b .nil qo (qa q9 (qa (zL T.M_Table G_q h_q rfl T.g_Table T.d_q.b .nil qo (qa (qM (qa (qZ (qa qe (qa qe qb))) (qa (qZ (qa qe (qa qe qb))) qb))) qb)) qb))))
     (qc (zw PassesOwn.never rfl (qX (qr (r:=rIx K) qi (pv 0) qe (fun _ _=>rfl))) (qt (i:=7) (sc_Lright.nd) rfl (Or.inl rfl))
       (qf (qA (qF (pv 2) T.cl_Log T.d_s.mt G_s h_s T.d_s.b .nil qo (qa (pv 7) qb)))))
     (qf (qu (qp G_c h_c rfl T.d_c.m T.d_c.k T.d_c.b .nil qo (qa (pv 6) (qa (pv 3) qb)))))))))))))))))),?_⟩
   try dsimp only [ze,Cx.nox]
   have bf:=dn.bf;have few:=dn.few;have el:=dn.el;have tlen:=dn.tl;have nms:=dn.nms;have lb:(D.bs.map (nmB D)).length=D.bs.length:=List.length_map _
   have hbn:∀ b∈D.bs.map (nmB D),b.1∈D.es.map (·.nm)∧b.2.1∈D.es.map (·.nm):=fun b m=>by
     obtain⟨b0,mb,rfl⟩:=List.mem_map.mp m;obtain⟨c1,c2,_,_⟩:=dn.bd b0 mb;rw[nms];exact qfW c1 c2
   have hws':∀ s∈ws,s∈D.es.map (·.nm):=fun s m=>by rw[nms];exact hws s m
   refine⟨_,rfl,t,D,rfl,dn,fun x dx td ed bl ts H1 fr S1 et hL=>?_⟩;(try unfold qP);(try dsimp only)
   have tsl:ts.length≤2:=by
     have:=congrArg List.length et
     rw[List.length_map,List.length_map]at this;omega
   refine⟨_,rfl,_,rfl,t,w,D,ws,H,rfl,S1,dn,S1 _ _ hw,fun t' H2 S2 nt' due=>?_⟩;(try unfold qP);(try dsimp only);refine⟨_,rfl,w,_,rfl,.inl (SqL.of ((S1.trans S2) _ _ hw)),fun hd fh=>?_⟩;generalize hG:upd H2 hd _=H3;obtain⟨S3,e3⟩:=qk hG fh;clear hG;(try unfold qP);(try dsimp only);refine⟨_,rfl,_,rfl,x,dx,td,ed,bl,ts,D.es,D.bs.map (nmB D),hd,_,rfl,hL.sm (S2.trans S3),e3,by omega,hbn,.inl ⟨ws,rfl,hws',fun x1 dx1 td1 ed1 bl1 H4 fr1 S4 hL4=>?_⟩⟩;have S24:=S3.trans S4;have S02:=S1.trans S2;have tl1:Tl a H4 x1 dx1 td1 ed1 bl1 ts (jF D ws):=⟨by rw[qih dn ws,qii dn ws];exact hL4,et⟩
   have due4:∀ G,Same H2 G->Dn a G t' (jF D ws):=fun G s=>due G (.sm s) (S02.trans s) fun b o _ e=>s _ _ e;(try unfold qP);(try dsimp only);refine⟨_,rfl,_,rfl,hd,w,_,rfl,rfl,S4 _ _ e3,(S02.trans S24) _ _ hw,Jt ws,false,rfl,qgR ?_⟩;refine⟨_,rfl,_,_,_,_,rfl,T.io_Log.ty hL4.hx,qgC T,true,rfl,qG rfl ?_⟩;refine⟨_,rfl,_,rfl,x1,dx1,td1,ed1,bl1,t',ts,jF D ws,rfl,tl1,due4 H4 S24,fun H5 S5=>⟨true,rfl,qG rfl ?_⟩⟩;refine⟨_,rfl,_,rfl,x,dx,td,ed,bl,t,ts,D,rfl,⟨hL.sm ((S2.trans S24).trans S5),et⟩,dn.sm ((S02.trans S24).trans S5),fun H6 S6=>⟨true,rfl,qG rfl ?_⟩⟩;(try unfold qP);(try dsimp only);have S26:=(S24.trans S5).trans S6;refine⟨_,rfl,_,rfl,w,_,rfl,.inl (SqL.of ((S02.trans S26) _ _ hw)),fun hd2 fh2=>?_⟩;generalize hG:upd H6 hd2 _=H7;obtain⟨S7,e7⟩:=qk hG fh2;clear hG;have S27:=S26.trans S7;refine⟨x,dx,td,ed,bl,ts,D.es,D.bs.map (nmB D),hd2,_,rfl,hL.sm (S2.trans S27),e7,by omega,hbn,.inl ⟨ws,rfl,hws',fun x2 dx2 td2 ed2 bl2 H8 fr2 S8 hL8=>?_⟩⟩;have S28:=S27.trans S8;have W8:Wl a H H1 H2 H8 t' x2 dx2 td2 ed2 bl2 ts (jF D ws):=⟨S02.trans S28,.sm S28,fun b o _ e=>S28 b o e,fun b h=>S28.none h,⟨by rw[qih dn ws,qii dn ws];exact hL8,et⟩⟩
   have O1:Own H H1 H2 [x2,td2,ed2,bl2] [x1,td1,ed1,bl1]:=⟨fun m h=>(S02.trans S3).none (fr1 m h),fun m h=>.inr (S3.none (fr1 m h)),fun m h z=>by
     obtain⟨o,e⟩:=tl1.lg.has m h
     have:=fr2 m z
     rw[((S5.trans S6).trans S7) _ _ e]at this
     cases this⟩
   have O0:Own H H1 H2 [x2,td2,ed2,bl2] [x,td,ed,bl]:=⟨fr,fun m h=>.inl (hL.has m h),fun m h z=>by
     obtain⟨o,e⟩:=hL.has m h
     have:=fr2 m z
     rw[(S2.trans S27) _ _ e]at this
     cases this⟩
   have dj:∀ m∈[x1,td1,ed1,bl1],m∉[x,td,ed,bl]:=fun m h z=>by
     obtain⟨o,e⟩:=hL.has m z
     have:=fr1 m h
     rw[(S2.trans S3) _ _ e]at this;cases this
   have tl8:Tl a H8 x dx td ed bl ts D:=⟨hL.sm (S2.trans S28),et⟩
   have L8:=tl1.lg.sm (((S5.trans S6).trans S7).trans S8);have dd8:=due4 H8 S28;have dfew:=dd8.few;have del:=dd8.el;have dbf:=dd8.bf;have dnms:=dd8.nms;have dlb:((jF D ws).bs.map (nmB (jF D ws))).length=(jF D ws).bs.length:=List.length_map _;(try unfold qP);(try dsimp only);refine⟨_,rfl,x1,dx1,td1,ed1,bl1,ts,_,_,rfl,L8,(fun z=>qfP (dd8.nk _ (by rw[← dnms];exact z))),by omega,by omega,by omega,fun ts9 es9 bs9 H9 B9 hL9 en9 tl9 bl9=>?_⟩;have W9:=W8.step B9 L8.mu O1 hL9.has;have tl09:=tl8.im (ButL.imm B9 L8.mu) fun b m o e=>B9 b o e fun z=>dj b z m;(try unfold qP);(try dsimp only);refine⟨_,rfl,_,rfl,x,dx,td,ed,bl,t,ts,D,rfl,tl09,dn.sm W9.sh,fun H10 S10=>⟨true,rfl,qG rfl ?_⟩⟩;have W10:=W9.sm S10;refine⟨_,rfl,_,rfl,x2,dx2,td2,ed2,bl2,t',ts,jF D ws,rfl,W10.tb,due H10 W10.im W10.sh W10.kp,fun H11 S11=>⟨true,rfl,qG rfl ?_⟩⟩;have W11:=W10.sm S11;have due11:=due H11 W11.im W11.sh W11.kp;obtain⟨k1,k2,k3,k4,k5,kz,g0,g1,_⟩:=due11.ht;(try unfold qP);(try dsimp only);refine qO (t:=qbG _ _ _) (fun σ' H'=>∃ s7:Option V,σ'=[some (.ref t),some (.ref w),some (.ref x),some (.ref t'),some (.ref hd),some (.ref x1),some (.ref x2),s7]∧Wl a H H1 H2 H' t' x2 dx2 td2 ed2 bl2 ts (jF D ws)∧Tl a H' x dx td ed bl ts D) (fun N hN=>?_) ?_
   · refine⟨_,rfl,.inr (.inl ⟨t',_,_,_,rfl,rfl,SqT.of g0,rfl,k1,rfl,⟨_,SqL.of g1⟩,zl (K:=K) (a:=k1) (xs:=(jF D ws).ns.map V.str) (D:={ nx:=N,rt:=Q }) (fun j σ H'=>∃ (s7:Option V) (b1:Addr) (es1:List Gk) (bs1:List (Str×Str×Int)),σ=[some (.ref t),some (.ref w),some (.ref x),some (.ref t'),some (.ref hd),some (.ref x1),some (.ref x2),s7]∧Imm H11 H'∧Wl a H H1 H2 H' t' x2 dx2 td2 ed2 bl2 ts (jF D ws)∧Own H H1 H2 [x2,td2,ed2,bl2] [x1,td1,ed1,b1]∧Lg a H' x1 dx1 td1 ed1 b1 ts9 es1 bs1∧bs1.length≤100∧(∀ k n,j≤k->(jF D ws).ns[k]?=some n->n∈es1.map (·.nm))∧Tl a H' x dx td ed bl ts D) ⟨_,bl1,es9,bs9,rfl,.sm (Same.refl _),W11,O1,hL9.sm (S10.trans S11),by omega,fun k n _ hn=>?_,⟨tl09.lg.sm (S10.trans S11),et⟩⟩ (fun j σ H' _ ⟨_,_,_,_,_,i,W,_⟩=>SqL.of ((due H' W.im W.sh W.kp).fst i g0)) ?_ ?_⟩)⟩
     · rw[en9,dnms];exact List.mem_append_left _ (List.mem_of_getElem? hn)
     · rintro j z σ Hc hz ⟨s7,b1,es1,bs1,rfl,i,W,O,hLc,lbc,rst,tlc⟩;obtain⟨s,hs,rfl⟩:=Option.map_eq_some_iff.mp ((List.getElem?_map ..).symm.trans hz);refine⟨_,rfl,x1,dx1,_,rfl,hLc.hx,rfl,_,rfl,x1,dx1,td1,ed1,b1,ts9,es1,bs1,s,rfl,hLc,rst j s (Nat.le_refl _) hs,lbc,fun b2 Hn nb Bn hLn=>?_⟩;obtain⟨Wn,On⟩:=W.drop O hLc nb Bn hLn
       have sub:∀ m∈[x1,ed1],m∈[x1,td1,ed1,b1]∧m∈[x1,td1,ed1,bl1]:=fun m h=>by
         simp only[List.mem_cons,List.not_mem_nil,or_false]at h ⊢;rcases h with h|h
         · exact⟨.inl h,.inl h⟩
         · exact⟨.inr (.inr (.inl h)),.inr (.inr (.inl h))⟩
       have ib:=ButL.imm Bn fun m h=>hLc.mu m (sub m h).1;exact⟨_,b2,_,_,rfl,i.trans ib,Wn,On,hLn,Nat.le_trans (List.length_filter_le _ _) lbc,qdW due11.nd hs rst,tlc.im ib fun b m o e=>Bn b o e fun z=>dj b (sub b z).2 m⟩
     · rintro σ Hc ⟨s7,b1,es1,bs1,rfl,i,W,O,hLc,lbc,rst,tlc⟩;exact hN _ _ ⟨_,rfl,W,tlc⟩
   rintro _ H12 ⟨s7,rfl,W12,tl12⟩;refine⟨_,rfl,x,dx,td,ed,bl,ts,_,_,rfl,tl12.lg,(fun z=>qfP (dn.nk _ (by rw[← nms];exact z))),by omega,by omega,by omega,fun ts13 es13 bs13 H13 B13 hL13 en13 tl13 bl13=>?_⟩;have W13:=W12.step B13 tl12.lg.mu O0 hL13.has;(try unfold qP);(try dsimp only);refine⟨_,rfl,_,rfl,x2,dx2,td2,ed2,bl2,t',ts,jF D ws,rfl,W13.tb,due H13 W13.im W13.sh W13.kp,fun H14 S14=>⟨true,rfl,qG rfl ?_⟩⟩;have W14:=W13.sm S14;have hL14:=hL13.sm S14;(try unfold qP);(try dsimp only);refine⟨_,rfl,x,dx,_,rfl,hL14.hx,rfl,qj (Nat.le_of_ble_eq_true rfl),fun u1 fu1=>?_⟩;generalize hG:upd H14 u1 _=H15;obtain⟨S15,e15⟩:=qk hG fu1;clear hG;refine⟨qj (Nat.le_of_ble_eq_true rfl),fun u2 fu2=>?_⟩;generalize hG:upd H15 u2 _=H16;obtain⟨S16,e16⟩:=qk hG fu2;clear hG;refine⟨qj (Nat.le_of_ble_eq_true rfl),fun d fd=>?_⟩;generalize hG:upd H16 d _=H17;obtain⟨S17,e17⟩:=qk hG fd;clear hG;refine fun tt dt f1' f2' ne'=>?_;have rs17:Rs H17 d [(0,9),(4,7)]:=⟨_,e17,((TupL.nil (f:=pr)).snoc (p:=((0:Int),(9:Int))) (S17 _ _ (S16 _ _ e15))).snoc (p:=((4:Int),(7:Int))) (S17 _ _ e16)⟩
   have Sm:=qR (C:=a.c_Table) f1' f2' (But.refl _ _);refine⟨tt,dt,d,[(0,9),(4,7)],rfl,qd,rs17.same Sm,qj9,fun G B tbl=>⟨rfl,?_⟩⟩;have SG:=((S15.trans S16).trans S17).trans (qR f1' f2' B);have W18:=W14.sm SG;have hL18:=hL14.sm SG;refine⟨x,dx,td,ed,bl,_,_,_,"bond",tt,[(0,9),(4,7)],rfl,hL18,qkU,(fun _=>by omega),by omega,tbl,qj9,fun H19 B19 hL19=>?_⟩;have W19:=W18.step (M:=[td]) (fun b o e m=>B19 b o e (fun z=>m (by rw[z];exact List.mem_cons_self))) (fun m h=>by rw[List.mem_singleton.mp h];exact .d hL18.ht) (O0.sub fun m h=>by rw[List.mem_singleton.mp h];simp) (fun m h=>by rw[List.mem_singleton.mp h];exact⟨_,hL19.ht⟩);obtain⟨l1,l2,l3,l4,l5,zb,h0,h1,_⟩:=dn.ht;(try unfold qP);(try dsimp only);refine qO (t:=qbG _ _ _) (fun σ' H'=>∃ s7:Option V,σ'=[some (.ref t),some (.ref w),some (.ref x),some (.ref t'),some (.ref hd),some (.ref x1),some (.ref x2),s7]∧Wl a H H1 H2 H' t' x2 dx2 td2 ed2 bl2 ts (jF D ws)) (fun N hN=>?_) ?_
   · refine⟨_,rfl,.inr (.inl ⟨t,_,_,_,rfl,rfl,SqT.of (W19.sh _ _ h0),rfl,l1,rfl,⟨_,SqL.of (W19.sh _ _ h1)⟩,zl (K:=K) (a:=l1) (xs:=D.ns.map V.str) (D:={ nx:=N,rt:=Q }) (fun j σ H'=>∃ (s7:Option V) (b1:Addr) (es1:List Gk) (bs1:List (Str×Str×Int)),σ=[some (.ref t),some (.ref w),some (.ref x),some (.ref t'),some (.ref hd),some (.ref x1),some (.ref x2),s7]∧Wl a H H1 H2 H' t' x2 dx2 td2 ed2 bl2 ts (jF D ws)∧Own H H1 H2 [x2,td2,ed2,bl2] [x,td,ed,b1]∧Lg a H' x dx td ed b1 (qgq ts13 "bond" tt [(0,9),(4,7)]) es1 bs1∧bs1.length≤100∧(∀ k n,j≤k->D.ns[k]?=some n->n∈es1.map (·.nm))) ⟨_,bl,es13,bs13,rfl,W19,O0,hL19,by omega,fun k n _ hn=>?_⟩ (fun j σ H' _ ⟨_,_,_,_,_,W,_⟩=>SqL.of (W.sh _ _ h1)) ?_ ?_⟩)⟩
     · rw[en13,nms];exact List.mem_append_left _ (List.mem_of_getElem? hn)
     · rintro j z σ Hc hz ⟨s7,b1,es1,bs1,rfl,W,O,hLc,lbc,rst⟩;obtain⟨s,hs,rfl⟩:=Option.map_eq_some_iff.mp ((List.getElem?_map ..).symm.trans hz);refine⟨_,rfl,x,dx,_,rfl,hLc.hx,rfl,_,rfl,x,dx,td,ed,b1,_,es1,bs1,s,rfl,hLc,rst j s (Nat.le_refl _) hs,lbc,fun b2 Hn nb Bn hLn=>?_⟩;obtain⟨Wn,On⟩:=W.drop O hLc nb Bn hLn;exact⟨_,b2,_,_,rfl,Wn,On,hLn,Nat.le_trans (List.length_filter_le _ _) lbc,qdW dn.nd hs rst⟩
     · rintro σ Hc ⟨s7,b1,es1,bs1,rfl,W,O,hLc,lbc,rst⟩;exact hN _ _ ⟨_,rfl,W⟩
   rintro _ H20 ⟨s7,rfl,W20⟩;exact⟨_,rfl,_,rfl,x2,dx2,td2,ed2,bl2,t',ts,jF D ws,rfl,W20.tb,due H20 W20.im W20.sh W20.kp,fun H21 S21=>kk H21 (W20.sh.trans S21)⟩
end
theorem qeL {H:Hp}{p:Addr}{o:HO}{ty:String} (h:H p=some o) (e:(match o with|.lst _=>some "list" | .tup _=>some "tuple" | .dK _=>some "dict" | _=>none)=some ty):tyN H (.ref p)=some ty:=by
 simp only[tyN];rw[h];cases o<;>first|exact e|cases e
theorem qn4 {H:Hp}{q1 q2 q3:Addr} (h1:H q1=some (.lst [.str "b"])) (h2:H q2=some (.tup [.str "b"])) (h3:H q3=some (.dK [])):∀ z∈[V.str "none",V.str "newentry",V.str "",V.str "b ",V.non,V.bl true,V.int 0,V.ref q1,V.ref q2,V.ref q3],∃ ty,Bad H z ty∧∀ nm,z=.str nm->nm∉POOL:=by
 intro z m;simp only[List.mem_cons,List.not_mem_nil,or_false]at m;have hs:∀ x:Str,PyData.strOk x=true->x∉POOL->∃ ty,Bad H (.str x) ty∧∀ nm,V.str x=.str nm->nm∉POOL:=fun x h n=>⟨"str",⟨rfl,rfl,.inl ⟨_,.str x,(by simp only[PyData.canLay0];exact h),(by unfold SeqAt.shaped;simp only[PyData.canLay0,PyData.depth,h];rfl)⟩⟩,fun nm e=>by cases e;exact n⟩
 rcases m with rfl|rfl|rfl|rfl|rfl|rfl|rfl|rfl|rfl|rfl
 · exact hs _ (by decide +kernel) (by decide +kernel)
 · exact hs _ (by decide +kernel) (by decide +kernel)
 · exact hs _ (by decide +kernel) (by decide +kernel)
 · exact hs _ (by decide +kernel) (by decide +kernel)
 · exact⟨"NoneType",⟨rfl,rfl,.inl ⟨_,.non,rfl,rfl⟩⟩,fun nm e=>nomatch e⟩
 · exact⟨"bool",⟨rfl,rfl,.inl ⟨_,.bl true,rfl,rfl⟩⟩,fun nm e=>nomatch e⟩
 · exact⟨"int",⟨rfl,rfl,.inl ⟨_,.int 0,rfl,rfl⟩⟩,fun nm e=>nomatch e⟩
 · exact⟨"list",⟨qeL h1 rfl,rfl,.inl ⟨_,.lst (.inl h1) (.cons (.str _) .nil),(by decide +kernel),(by decide +kernel)⟩⟩,fun nm e=>nomatch e⟩
 · exact⟨"tuple",⟨qeL h2 rfl,rfl,.inl ⟨_,.tup (.inl h2) (.cons (.str _) .nil),(by decide +kernel),(by decide +kernel)⟩⟩,fun nm e=>nomatch e⟩
 · exact⟨"dict",⟨qeL h3 rfl,rfl,.inr ⟨_,rfl,h3⟩⟩,fun nm e=>nomatch e⟩
inductive Z9 (a:Ad) (vs:List V) (H:Hp) (Q:VK):Prop
 | mk (t w:Addr) (D:Dw) (ws:List Str) (k:Int) (h1:vs=[.ref t,.ref w,.int k]) (h2:Dn a H t D) (h3:H w=some (.lst (ws.map V.str))) (h4:(∀ s∈ws,s∈D.ns)) (h5:ws.length≤100) (h6:∀ H',Same H H'->Q (.bl true) H'):Z9 a vs H Q
def JD (a:Ad):Sp:=fun vs H Q _=>Z9 a vs H Q
section
variable {P:Program}{w:World}{K:Frag}{mg:Str->Option Value}{base:Heap}
theorem qea {a:Ad} (T:Txt K mg a):qy P w K mg base CX0 10 a.f_ag a.fd_ag ["_law_drawn_here","_law_wanted","_law_number"] (JD a):=by
 have G_C:=qef (P:=P) (w:=w) (base:=base) T;have G_c:=qd9 (P:=P) (w:=w) (base:=base) T;have G_M:=qeZ (P:=P) (w:=w) (base:=base) T;refine T.d_ag.F.ok sc_Lrefusals (fun vs H Q E h=>?_) (fun cdv A outer s H vs Q E hr h=>?_)
 · obtain⟨t,w,D,ws,k,rfl,dn,hw,hws,wl,kk⟩:=h;rfl
 · obtain⟨t,w,D,ws,k,rfl,dn,hw,hws,wl,kk⟩:=h;have h_C:Room (8) _:=hr.mono (by decide);have h_c:Room (9) _:=hr.mono (by decide);have h_M:Room (8) _:=hr.mono (by decide)
   refine⟨_,(qc (qH (i:=3) sc_Lrefusals.nd rfl (Or.inl rfl) (qp G_C h_C rfl T.d_C.m T.d_C.k T.d_C.b .nil qo (qa (pv 0) qb)))
     (qc (qH (i:=4) sc_Lrefusals.nd rfl (Or.inl rfl) (qB zN (pv 2) (qB Qh (qq qY (by rfl) T.n_len qL (qa (pv 1) qb)) qe)))
     (@qc _ _ _ _ _ (by exact(@zw _ _ _ _ _ _ _ _ (by exact PassesOwn.never) (by rfl) (by exact(@qX _ _ _ _ (by exact(@qM _ _ _ _ (by exact(@qa _ _ _ _ _ (by exact q9) (by exact(@qa _ _ _ _ _ (by exact q9) (by exact(@qa _ _ _ _ _ (by exact q9) (by exact(@qa _ _ _ _ _ (by exact q9) (by exact(@qa _ _ _ _ _ (by exact ql4) (by exact(@qa _ _ _ _ _ (by exact Z2) (by exact(@qa _ _ _ _ _ (by exact qe) (by exact(@qa _ _ _ _ _ (by exact(qM (qa q9 qb))) (by exact(@qa _ _ _ _ _ (by exact(qZ (qa q9 qb))) (by exact(@qa _ _ _ _ _ (by exact Ja) (by exact(@qb _)) (by rfl))) (by rfl))) (by rfl))) (by rfl))) (by rfl))) (by rfl))) (by rfl))) (by rfl))) (by rfl))) (by rfl))))))) (by exact(qt (i:=5) (sc_Lrefusals.nd) rfl (Or.inl rfl)))
       (by exact(qc (qU (zc (q8 (qp G_M h_M rfl T.d_M.m T.d_M.k T.d_M.b .nil qo (qa (pv 3) (qa (qB Qh (qB Qh (z3 uSl (pv 1) ZJ (zK (pv 4))) (qM (qa (pv 5) qb))) (z3 uSl (pv 1) (zK (pv 4)) ZJ)) (qa (pv 5) qb))))))
         (qf (qu Z2))
         qx)
       (qf (qU (zc (q8 (qp G_M h_M rfl T.d_M.m T.d_M.k T.d_M.b .nil qo (qa (pv 3) (qa (qB Qh (qB Qh (z3 uSl (pv 1) ZJ (zK (pv 4))) (qM (qa (pv 5) (qa q9 (qa qe qb))))) (z3 uSl (pv 1) (zK (pv 4)) ZJ)) (qa (pv 5) qb))))))
         (qf (qu Z2))
         qx)))) (by intro _;rfl)))
     (by exact(qf (qu (qp G_c h_c rfl T.d_c.m T.d_c.k T.d_c.b .nil qo (qa (pv 3) (qa (pv 0) qb))))))))),?_⟩
   try dsimp only [ze,Cx.nox]
   have bf:=dn.bf;have nms:=dn.nms;have lb:(D.bs.map (nmB D)).length=D.bs.length:=List.length_map _
   have hbn:∀ b∈D.bs.map (nmB D),b.1∈D.es.map (·.nm)∧b.2.1∈D.es.map (·.nm):=fun b m=>by
     obtain⟨b0,mb,rfl⟩:=List.mem_map.mp m;obtain⟨c1,c2,_,_⟩:=dn.bd b0 mb;rw[nms];exact qfW c1 c2
   refine⟨_,rfl,t,D,rfl,dn,fun x dx td ed bl ts H1 fr S1 et hL=>?_⟩;(try unfold qP);(try dsimp only);have lw:(ws.map V.str).length=ws.length:=List.length_map _;refine⟨_,rfl,_,rfl,_,_,rfl,.inl ⟨_,SqL.of (S1 _ _ hw),rfl⟩,.inl ⟨_,_,rfl,rfl,_,_,rfl,rfl,by show (0:Int) < _;omega,?_⟩⟩;(try unfold qP);(try dsimp only);obtain⟨n,hn⟩:∃ n:Nat,k % (((ws.map V.str).length:Int)+1)=(n:Int):=⟨_,(Int.toNat_of_nonneg (Int.emod_nonneg _ (by omega))).symm⟩
   rw[hn];refine qO (t:=qbG _ _ _) (fun σ' H'=>∃ s5:Option V,σ'=[some (.ref t),some (.ref w),some (.int k),some (.ref x),some (.int (n:Int)),s5]∧Same H1 H') (fun N hN=>?_) ?_
   · refine⟨qj (Nat.le_of_ble_eq_true rfl),fun q1 f1=>?_⟩;generalize hG:upd H1 q1 _=H2;obtain⟨S2,e2⟩:=qk hG f1;clear hG;refine⟨qj (Nat.le_of_ble_eq_true rfl),fun q2 f2=>?_⟩;generalize hG:upd H2 q2 _=H3;obtain⟨S3,e3⟩:=qk hG f2;clear hG;refine fun q3 f3=>?_;generalize hG:upd H3 q3 _=H4;obtain⟨S4,e4⟩:=qk hG f3;clear hG;refine⟨qj (Nat.le_of_ble_eq_true rfl),fun E fE=>?_⟩;generalize hG:upd H4 E _=H5;obtain⟨S5,e5⟩:=qk hG fE;clear hG;refine⟨E,rfl,⟨_,SqL.of e5⟩,zl (K:=K) (a:=E) (xs:=[V.str "none",V.str "newentry",V.str "",V.str "b ",V.non,V.bl true,V.int 0,V.ref q1,V.ref q2,V.ref q3]) (D:={ nx:=N,rt:=Q }) (fun j σ H'=>∃ s5:Option V,σ=[some (.ref t),some (.ref w),some (.int k),some (.ref x),some (.int (n:Int)),s5]∧Same H5 H') ⟨none,rfl,Same.refl _⟩ (fun j σ H' _ ⟨_,_,S⟩=>SqL.of (S _ _ e5)) ?_ ?_⟩
     · rintro j z σ H6 hz ⟨s5,rfl,S6⟩;obtain⟨ty,bad,nb⟩:=qn4 (S5 _ _ (S4 _ _ (S3 _ _ e2))) (S5 _ _ (S4 _ _ e3)) (S5 _ _ e4) z (List.mem_of_getElem? hz);have S16:=(((S2.trans S3).trans S4).trans S5).trans S6;refine⟨_,rfl,_,rfl,_,rfl,_,rfl,.inl ⟨w,_,rfl,SqL.of ((S1.trans S16) _ _ hw),fun p1 g1=>?_⟩⟩;rw[qgd _ n _ rfl];generalize hG:upd H6 p1 _=Ha1;obtain⟨Sa1,ea1⟩:=qk hG g1;clear hG;refine⟨_,rfl,qj (Nat.le_of_ble_eq_true rfl),fun p2 g2=>?_⟩;generalize hG:upd Ha1 p2 _=Hb1;obtain⟨Sb1,eb1⟩:=qk hG g2;clear hG;refine .inr (.inl ⟨p1,p2,_,_,rfl,rfl,Sb1 _ _ ea1,eb1,Nat.le_of_lt (qw (by simp only[List.length_append,List.length_take,List.length_drop,List.length_cons,List.length_nil,lw];omega)),fun p3 g3=>?_⟩);generalize hG:upd Hb1 p3 _=Hd1;obtain⟨Sd1,ed1⟩:=qk hG g3;clear hG;have T1:=((S16.trans Sa1).trans Sb1).trans Sd1;refine⟨_,rfl,_,rfl,_,rfl,.inl ⟨w,_,rfl,SqL.of ((S1.trans T1) _ _ hw),fun p4 g4=>?_⟩⟩;rw[qdj _ n _ rfl];generalize hG:upd Hd1 p4 _=He1;obtain⟨Se1,ee1⟩:=qk hG g4;clear hG;refine .inr (.inl ⟨p3,p4,_,_,rfl,rfl,Se1 _ _ ed1,ee1,Nat.le_of_lt (qw (by simp only[List.length_append,List.length_take,List.length_drop,List.length_cons,List.length_nil,lw];omega)),fun p5 g5=>?_⟩);generalize hG:upd He1 p5 _=Hf1;obtain⟨Sf1,ef1⟩:=qk hG g5;clear hG;have U1:=(T1.trans Se1).trans Sf1
       have el1:((ws.map V.str).take n++[z])++(ws.map V.str).drop n=(ws.take n).map V.str++z::((ws.drop n).map V.str):=by
         rw[List.append_assoc,← List.map_take,← List.map_drop];rfl
       rw[el1]at ef1;refine⟨_,rfl,x,dx,td,ed,bl,ts,D.es,D.bs.map (nmB D),p5,ws.take n,z,ty,_,rfl,hL.sm U1,ef1,by omega,hbn,(fun s m=>by rw[nms];exact hws s (List.mem_of_mem_take m)),bad.sm (S6.trans ((((Sa1.trans Sb1).trans Sd1).trans Se1).trans Sf1)),(fun nm e m=>nb nm e (dn.nk _ (by rw[← nms];exact m))),Jt _,fun H7 S71=>⟨true,rfl,qG rfl ?_⟩⟩;have S17:=U1.trans S71;refine⟨_,rfl,_,rfl,_,rfl,_,rfl,.inl ⟨w,_,rfl,SqL.of ((S1.trans S17) _ _ hw),fun p1 g1=>?_⟩⟩;rw[qgd _ n _ rfl];generalize hG:upd H7 p1 _=Ha2;obtain⟨Sa2,ea2⟩:=qk hG g1;clear hG;refine⟨_,rfl,qj (Nat.le_of_ble_eq_true rfl),fun p2 g2=>?_⟩;generalize hG:upd Ha2 p2 _=Hb2;obtain⟨Sb2,eb2⟩:=qk hG g2;clear hG;refine .inr (.inl ⟨p1,p2,_,_,rfl,rfl,Sb2 _ _ ea2,eb2,Nat.le_of_lt (qw (by simp only[List.length_append,List.length_take,List.length_drop,List.length_cons,List.length_nil,lw];omega)),fun p3 g3=>?_⟩);generalize hG:upd Hb2 p3 _=Hd2;obtain⟨Sd2,ed2⟩:=qk hG g3;clear hG;have T2:=((S17.trans Sa2).trans Sb2).trans Sd2;refine⟨_,rfl,_,rfl,_,rfl,.inl ⟨w,_,rfl,SqL.of ((S1.trans T2) _ _ hw),fun p4 g4=>?_⟩⟩;rw[qdj _ n _ rfl];generalize hG:upd Hd2 p4 _=He2;obtain⟨Se2,ee2⟩:=qk hG g4;clear hG;refine .inr (.inl ⟨p3,p4,_,_,rfl,rfl,Se2 _ _ ed2,ee2,Nat.le_of_lt (qw (by simp only[List.length_append,List.length_take,List.length_drop,List.length_cons,List.length_nil,lw];omega)),fun p5 g5=>?_⟩);generalize hG:upd He2 p5 _=Hf2;obtain⟨Sf2,ef2⟩:=qk hG g5;clear hG;have U2:=(T2.trans Se2).trans Sf2
       have el2:((ws.map V.str).take n++[z,.str "nowhere",.int 7])++(ws.map V.str).drop n=(ws.take n).map V.str++z::(.str "nowhere"::.int 7::(ws.drop n).map V.str):=by
         rw[List.append_assoc,← List.map_take,← List.map_drop];rfl
       rw[el2]at ef2;refine⟨_,rfl,x,dx,td,ed,bl,ts,D.es,D.bs.map (nmB D),p5,ws.take n,z,ty,_,rfl,hL.sm U2,ef2,by omega,hbn,(fun s m=>by rw[nms];exact hws s (List.mem_of_mem_take m)),bad.sm ((S6.trans ((((Sa1.trans Sb1).trans Sd1).trans Se1).trans Sf1)).trans (S71.trans ((((Sa2.trans Sb2).trans Sd2).trans Se2).trans Sf2))),(fun nm e m=>nb nm e (dn.nk _ (by rw[← nms];exact m))),Jt _,fun H8 S72=>⟨true,rfl,qG rfl ?_⟩⟩;have S18:=U2.trans S72;exact⟨_,rfl,((S6.trans ((((Sa1.trans Sb1).trans Sd1).trans Se1).trans Sf1)).trans (S71.trans ((((Sa2.trans Sb2).trans Sd2).trans Se2).trans Sf2))).trans S72⟩
     · rintro σ H6 ⟨s5,rfl,S6⟩;exact hN _ _ ⟨_,rfl,(((S2.trans S3).trans S4).trans S5).trans S6⟩
   rintro _ H6 ⟨s5,rfl,S6⟩;exact⟨_,rfl,_,rfl,x,dx,td,ed,bl,t,ts,D,rfl,⟨hL.sm S6,et⟩,dn.sm (S1.trans S6),fun H7 S7=>kk H7 ((S1.trans S6).trans S7)⟩
end
abbrev qmX (K:Frag):List V->Hp->VK->Prop:=fun xs H Q=>∃ (x:V) (n:Nat),xs=[x]∧qnE K x H n∧Q (.int (n:Int)) H
inductive qfs (K:Frag) (vs:List V) (H:Hp) (Q:VK):Prop
 | mk (a:Addr) (ns:List Int) (h1:vs=[.ref a]) (h2:SqL K H a (ns.map V.int)) (h3:ns.length≤63) (h4:∀ H',Q (.bl true) H'):qfs K vs H Q
def qft (K:Frag):Sp:=fun vs H Q _=>qfs K vs H Q
theorem qjA (fs:List Int) (lo hi:Option Int):∃ gs:List Int,qew (fs.map V.int) lo hi=gs.map V.int∧gs.length≤fs.length:=by
 unfold qew;rw[← List.map_drop,← List.map_take];exact⟨_,rfl,by rw[List.length_take,List.length_drop];omega⟩
theorem qkI:∀ n∈POOL,PyData.strOk n=true:=by decide +kernel
theorem qel:∀ ns:List Str,(∀ n∈ns,n∈POOL)->PyData.canLayAll0 (ns.map PyData.str)=true
 | [],_=>rfl
 | n::ns,h=>by
   simp only[List.map_cons,PyData.canLayAll0,PyData.canLay0,Bool.and_eq_true];exact⟨qkI n (h n List.mem_cons_self),qel ns fun m hm=>h m (List.mem_cons_of_mem _ hm)⟩
theorem qgc:∀ ns:List Str,PyData.depthAll (ns.map PyData.str)≤1
 | []=>by simp[PyData.depthAll]
 | n::ns=>by
   have:=qgc ns
   simp only[List.map_cons,PyData.depthAll,PyData.depth];omega
theorem dv_strs {H:Hp}:∀ ns:List Str,DVs H (ns.map V.str) (ns.map PyData.str)
 | []=>.nil
 | n::ns=>.cons (.str n) (dv_strs ns)
theorem qkw {ns:List Str} (h:∀ n∈ns,n∈POOL):SeqAt.shaped (.list (ns.map PyData.str))=true:=by
 have d:=qgc ns;unfold SeqAt.shaped;simp only[PyData.canLay0,PyData.depth,qel ns h,Bool.true_and];exact decide_eq_true (by omega)
theorem qkW {H:Hp}{l e:Addr}{ns:List Str}{Q:VK} (h:∀ n∈ns,n∈POOL) (hl:H l=some (.lst (ns.map V.str))) (he:H e=some (.lst [])) (q:Q (.bl (!ns.isEmpty)) H):qlS (.ref l) (.ref e) H Q:=by
 refine .inr ⟨_,_,.lst (.inl hl) (dv_strs ns),.lst (.inl he) .nil,qkw h,rfl,?_⟩
 cases ns with
 | nil=>exact q
 | cons n ns=>exact q
section
variable {P:Program}{w:World}{K:Frag}{mg:Str->Option Value}{base:Heap}
theorem ql9 {a:Ad} (T:Txt K mg a):qy P w K mg base CX0 12 a.f_aA a.fd_aA ["_law_script"] (qft K):=by
 have G_ae:=qkO (P:=P) (w:=w) (base:=base) T;have G_A:=qhF (P:=P) (w:=w) (base:=base) T;have G_ag:=qea (P:=P) (w:=w) (base:=base) T;have G_K:=qjb (P:=P) (w:=w) (base:=base) T;have G_u:=qhG (P:=P) (w:=w) (base:=base) T;refine T.d_aA.F.ok sc_law (fun vs H Q E h=>?_) (fun cdv A outer s H vs Q E hr h=>?_)
 · obtain⟨sa,nsc,rfl,hS,hlen,kk⟩:=h;rfl
 · obtain⟨sa,nsc,rfl,hS,hlen,kk⟩:=h;have hU:=hr.units;have h_ae:Room (11) _:=hr.mono (by decide);have h_A:Room (1) _:=hr.mono (by decide);have h_ag:Room (10) _:=hr.mono (by decide);have h_K:Room (1) _:=hr.mono (by decide);have h_u:Room (10) _:=hr.mono (by decide)
   refine⟨_,(qc (zw PassesOwn.never rfl (zR rfl T.n_range (qa (qB Qh (qq (ZP rfl) (by rfl) T.n_min ZS (qa qe (qa (qq qY (by rfl) T.n_len qL (qa (pv 0) qb)) qb))) qe) qb)) (qt (i:=1) (sc_law.nd) rfl (Or.inl rfl))
       (qc (qH (i:=2) sc_law.nd rfl (Or.inr rfl) (qp G_ae h_ae rfl T.d_ae.m T.d_ae.k T.d_ae.b .nil qo (qa (qB Qh (qp G_K h_K rfl T.d_K.m T.d_K.k T.d_K.b .nil qo (qa (pv 0) (qa (pv 1) qb))) (pv 1)) qb)))
       (qc (qH (i:=3) sc_law.nd rfl (Or.inl rfl) (qp G_A h_A rfl T.d_A.m T.d_A.k T.d_A.b .nil qo (qa (qB Qh (qp G_K h_K rfl T.d_K.m T.d_K.k T.d_K.b .nil qo (qa (pv 0) (qa (qB Qh (pv 1) qe) qb))) qe) (qa (qB Qh (qM (qa qe (qa qe qb))) (qB qfS (qM (qa qe qb)) qe)) qb))))
       (qc (qH (i:=4) sc_law.nd rfl (Or.inl rfl) (qM qb))
       (qc (qU (qz (uNe hU) (qr (r:=rIx K) qi (pv 2) qe (fun _ _=>rfl)) (qM qb) (qJ _))
         (qf (qcR (i:=4) sc_law.nd rfl (Or.inl rfl) rfl (CompOk.def ["_law_number","_law_drawn_here"] [none,some 2]) (qX (z3 uSl (pv 3) (zK qe) (zK (qB Qh qe (qr (r:=rIx K) qi (pv 3) qe (fun _ _=>rfl)))))) (fun _ _ _ _ _=>(qt (i:=0) (show List.Nodup (["_law_number","_law_drawn_here"]:List Str) by decide +kernel) rfl (Or.inl rfl))) (fun _ _ _ _ _=>zQ) (fun _ _ _ _ _=>(qr (r:=rIx K) qi (qr (r:=rIx K) qi (pv 1) qe (fun _ _=>rfl)) (qB zN (pv 0) (qq (r:=qmX K) qY (by rfl) T.n_len qL (qa (qr (r:=rIx K) qi (pv 1) qe (fun _ _=>rfl)) qb))) (fun _ _=>rfl)))))
         qx)
       (qc (qU (PW.pt (Zh (zc (q8 (qp G_u h_u rfl T.d_u.m T.d_u.k T.d_u.b .nil qo (qa (pv 2) (qa (pv 4) qb))))) (Zh (zc (q8 (qp G_u h_u rfl T.d_u.m T.d_u.k T.d_u.b .nil qo (qa (pv 2) (qa (qM qb) qb))))) (Zf (zc (q8 (qp G_u h_u rfl T.d_u.m T.d_u.k T.d_u.b .nil qo (qa (pv 2) (qa (ql2 (qr (r:=rIx K) qi (pv 2) qe (fun _ _=>rfl)) (zK (jB Qm qe))) qb)))))))))
         (qf (qu Z2))
         qx)
       (qf (qU (zc (q8 (qp G_ag h_ag rfl T.d_ag.m T.d_ag.k T.d_ag.b .nil qo (qa (pv 2) (qa (pv 4) (qa (qr (r:=rIx K) qi (pv 3) qe (fun _ _=>rfl)) qb))))))
         (qf (qu Z2))
         qx))))))))
     (qf (qu Z2))),?_⟩
   try dsimp only [ze,Cx.nox]
   have hl:(nsc.map V.int).length=nsc.length:=List.length_map _;refine⟨_,rfl,_,_,rfl,.inl ⟨_,hS,rfl⟩,_,_,rfl,.inl ⟨_,_,rfl,rfl,_,rfl,(by split<;>omega),(by split<;>omega),Qa (lo:=0) (fun i σ H'=>∃ s1 s2 s3 s4:Option V,σ=[some (.ref sa),s1,s2,s3,s4]∧Same H H') ⟨none,none,none,none,rfl,Same.refl _⟩ ?_ ?_⟩⟩
   · rintro i σ H1 hi ⟨s1,s2,s3,s4,rfl,S1⟩;refine⟨_,rfl,_,rfl,sa,nsc,_,rfl,S1.seq hS,(by omega),fun c H2 S2=>⟨_,rfl,.inl ⟨_,_,rfl,rfl,_,rfl,fun t D H3 S3 dn dl=>?_⟩⟩⟩;(try unfold qP);(try dsimp only);refine⟨_,rfl,_,rfl,.inl ⟨_,_,rfl,rfl,sa,nsc,_,rfl,((S1.trans S2).trans S3).seq hS,(by omega),fun c2 H4 S4=>.inl ⟨_,_,rfl,rfl,?_⟩⟩⟩;refine⟨qj (Nat.le_of_ble_eq_true rfl),fun p1 g1=>?_⟩;generalize hG:upd H4 p1 _=H5;obtain⟨S5,e5⟩:=qk hG g1;clear hG;refine⟨qj (Nat.le_of_ble_eq_true rfl),fun p2 g2=>?_⟩;generalize hG:upd H5 p2 _=H6;obtain⟨S6,e6⟩:=qk hG g2;clear hG;refine⟨p2,8,_,rfl,rfl,e6,by decide,by decide,qj (Nat.le_of_ble_eq_true rfl),fun p3 g3=>?_⟩;generalize hG:upd H6 p3 _=H7;obtain⟨S7,e7⟩:=qk hG g3;clear hG;refine .inr (.inl ⟨p1,p3,_,_,rfl,rfl,S7 _ _ (S6 _ _ e5),e7,qj (Nat.le_of_ble_eq_true rfl),fun p4 g4=>?_⟩);generalize hG:upd H7 p4 _=H8;obtain⟨S8,e8⟩:=qk hG g4;clear hG;refine⟨_,p4,[9,720,6,6,6,6,6,6,6,6],rfl,e8,by decide,by decide,fun q fs H9 S9 hq lfs bnd=>?_⟩;have S39:=((((S4.trans S5).trans S6).trans S7).trans S8).trans S9;have lf:fs.length=10:=lfs;obtain⟨f0,hf0⟩:∃ f,fs[0]?=some f:=⟨_,List.getElem?_eq_getElem (by omega)⟩
     obtain⟨f1,hf1⟩:∃ f,fs[1]?=some f:=⟨_,List.getElem?_eq_getElem (by omega)⟩
     have few:=dn.few;obtain⟨l1,l2,l3,l4,l5,zb,h0,h1,_⟩:=dn.ht;(try unfold qP);(try dsimp only);refine⟨qj (Nat.le_of_ble_eq_true rfl),fun wa fwa=>?_⟩;generalize hG:upd H9 wa _=Ha;obtain⟨Sa,ea⟩:=qk hG fwa;clear hG;have S3a:=S39.trans Sa;(try unfold qP);(try dsimp only);refine qO (t:=qmB _ _ _) (fun σ' H'=>∃ (wb:Addr) (ws:List Str),σ'=[some (.ref sa),some (.int (0+(i:Int))),some (.ref t),some (.ref q),some (.ref wb)]∧Same Ha H'∧H' wb=some (.lst (ws.map V.str))∧(∀ s∈ws,s∈D.ns)∧ws.length≤100) (fun N hN=>?_) ?_
     · refine⟨_,rfl,.inr (.inl ⟨t,_,_,_,rfl,rfl,SqT.of (S3a _ _ h0),rfl,qj (Nat.le_of_ble_eq_true rfl),fun e0 fe0=>?_⟩)⟩;generalize hG:upd Ha e0 _=Hb;obtain⟨Sb,eb⟩:=qk hG fe0;clear hG;have S3b:=S3a.trans Sb;refine qkW dn.nk (S3b _ _ h1) eb ⟨_,rfl,?_⟩
       cases en:D.ns with
       | nil=>exact qgR (hN _ _ ⟨wa,[],rfl,Sb,Sb _ _ ea,(fun s m=>nomatch m),Nat.zero_le _⟩)
       | cons n0 nr =>
         refine qgF ?_;have lpos:0 < D.ns.length:=by rw[en];exact Nat.zero_lt_succ _
         have hqb:Hb q=some (.lst (fs.map V.int)):=Sb _ _ (Sa _ _ hq);refine⟨_,rfl,_,rfl,_,rfl,.inl ⟨q,_,_,_,rfl,rfl,SqL.of hqb,(show atI _ ((0:Nat):Int)=_ from qT (by rw[List.getElem?_map,hf0];rfl)),.inl ⟨_,_,rfl,rfl,_,rfl,.inl ⟨q,_,rfl,SqL.of hqb,fun sl fsl=>?_⟩⟩⟩⟩;obtain⟨gs,eg,lg⟩:=qjA fs (some 2) (some (2+f0));rw[eg];generalize hG:upd Hb sl _=Hc;obtain⟨Sc,ec⟩:=qk hG fsl;clear hG;have S3c:=S3b.trans Sc;refine⟨sl,rfl,⟨_,SqL.of ec⟩,fun E fE=>?_⟩;refine zh (K:=K) (a:=sl) (xs:=gs.map V.int) (D:=E) (fun i σ H'=>∃ (c0:Option V) (ws:List Str),σ=[c0,some (.ref t)]∧Same Hc H'∧H' E=some (.lst (ws.map V.str))∧(∀ s∈ws,s∈D.ns)∧ws.length=i) ⟨none,[],rfl,Same.new _ fE,qd,(fun s m=>nomatch m),rfl⟩ (fun i σ H' _ ⟨_,_,_,S,_⟩=>SqL.of (S _ _ ec)) ?_ ?_
         · rintro j z σ H' hz ⟨c0,ws,rfl,S',hE,hws,lws⟩;obtain⟨g,hg,rfl⟩:=Option.map_eq_some_iff.mp ((List.getElem?_map ..).symm.trans hz);have hj:=(List.getElem?_eq_some_iff.mp hg).1;have S3':=S3c.trans S';obtain⟨n,hn⟩:∃ n:Nat,g % (((D.ns.map V.str).length:Nat):Int)=(n:Int):=⟨_,(Int.toNat_of_nonneg (Int.emod_nonneg _ (by rw[List.length_map];omega))).symm⟩
           have hnl:n < D.ns.length:=by
             have:=Int.emod_lt_of_pos g (show (0:Int) < (((D.ns.map V.str).length:Nat):Int) by rw[List.length_map];omega)
             rw[hn,List.length_map]at this;omega
           refine⟨_,rfl,.inr (.inl ⟨t,_,_,_,rfl,rfl,SqT.of (S3' _ _ h0),rfl,_,rfl,_,rfl,.inr (.inl ⟨t,_,_,_,rfl,rfl,SqT.of (S3' _ _ h0),rfl,_,_,rfl,.inl ⟨_,SqL.of (S3' _ _ h1),rfl⟩,_,_,rfl,rfl,(by show (0:Int) < _;rw[List.length_map];omega),.inl ⟨l1,_,_,_,rfl,rfl,SqL.of (S3' _ _ h1),(by rw[hn];exact qdl hnl),_,hE,qw (by rw[List.length_map];omega),_,ws++[D.ns.getD n ""],rfl,S'.put fE _,?_,?_,?_⟩⟩)⟩)⟩
           · rw[qd,List.map_append];rfl
           · intro s m;rcases List.mem_append.mp m with m|m
             · exact hws s m
             · rw[List.mem_singleton.mp m,List.getD_eq_getElem?_getD,List.getElem?_eq_getElem hnl];exact List.getElem_mem hnl
           · rw[List.length_append,lws];rfl
         rintro σ' H' ⟨c0,ws,rfl,S',hE,hws,lws⟩;rw[List.length_map]at lws;exact hN _ _ ⟨E,ws,rfl,(Sb.trans Sc).trans S',hE,hws,by omega⟩
     rintro _ Hd ⟨wb,ws,rfl,Sd,hwb,hws,lws⟩;have S3d:=S3a.trans Sd;refine⟨_,rfl,_,rfl,t,wb,D,ws,rfl,dn.sm S3d,hwb,hws,fun He Se=>⟨true,rfl,qG rfl ?_⟩⟩;have S3e:=S3d.trans Se;refine⟨_,rfl,qj (Nat.le_of_ble_eq_true rfl),fun e1 fe1=>?_⟩;generalize hG:upd He e1 _=Hf;obtain⟨Sf,ef⟩:=qk hG fe1;clear hG;refine⟨t,e1,D,[],rfl,dn.sm (S3e.trans Sf),ef,(fun s m=>nomatch m),fun Hg Sg=>⟨true,rfl,qG rfl ?_⟩⟩;have S3g:=(S3e.trans Sf).trans Sg;refine⟨_,rfl,_,rfl,.inr (.inl ⟨t,_,_,_,rfl,rfl,SqT.of (S3g _ _ h0),rfl,_,rfl,_,rfl,rfl,l1,_,rfl,SqL.of (S3g _ _ h1),fun p5 fp5=>?_⟩)⟩;rw[← List.map_reverse];generalize hG:upd Hg p5 _=Hh;obtain⟨Sh,eh⟩:=qk hG fp5;clear hG;refine⟨t,p5,D,D.ns.reverse,rfl,dn.sm (S3g.trans Sh),eh,(fun s m=>List.mem_reverse.mp m),fun Hi Si=>⟨true,rfl,qG rfl ?_⟩⟩;have S3i:=(S3g.trans Sh).trans Si;have Sdi:=(((Se.trans Sf).trans Sg).trans Sh).trans Si;refine⟨_,rfl,_,rfl,_,rfl,.inl ⟨q,_,_,_,rfl,rfl,SqL.of (Sdi _ _ (Sd _ _ (Sa _ _ hq))),(show atI _ ((1:Nat):Int)=_ from qT (by rw[List.getElem?_map,hf1];rfl)),t,wb,D,ws,f1,rfl,dn.sm S3i,Sdi _ _ hwb,hws,lws,fun Hj Sj=>⟨true,rfl,qG rfl ?_⟩⟩⟩;exact⟨_,_,_,_,rfl,(((S1.trans S2).trans S3).trans S3i).trans Sj⟩
   · rintro σ H1 ⟨s1,s2,s3,s4,rfl,S1⟩;exact kk H1
end
theorem len_0 {p:List Value->Prop} (h:p []):∀ us:List Value,us.length=0->p us:=fun us hl=>by
 cases us with
 | nil=>exact h
 | cons a t=>cases hl
theorem len_1 {p:List Value->Prop} (h:∀ a,p [a]):∀ us:List Value,us.length=1->p us:=fun us hl=>by
 cases us with
 | nil=>cases hl
 | cons a t=>exact len_0 (p:=fun t=>p (a::t)) (h a) t (Nat.succ.inj hl)
theorem len_2 {p:List Value->Prop} (h:∀ a b,p [a,b]):∀ us:List Value,us.length=2->p us:=fun us hl=>by
 cases us with
 | nil=>cases hl
 | cons a t=>exact len_1 (p:=fun t=>p (a::t)) (h a) t (Nat.succ.inj hl)
theorem len_3 {p:List Value->Prop} (h:∀ a b c,p [a,b,c]):∀ us:List Value,us.length=3->p us:=fun us hl=>by
 cases us with
 | nil=>cases hl
 | cons a t=>exact len_2 (p:=fun t=>p (a::t)) (h a) t (Nat.succ.inj hl)
theorem len_4 {p:List Value->Prop} (h:∀ a b c d,p [a,b,c,d]):∀ us:List Value,us.length=4->p us:=fun us hl=>by
 cases us with
 | nil=>cases hl
 | cons a t=>exact len_3 (p:=fun t=>p (a::t)) (h a) t (Nat.succ.inj hl)
theorem len_5 {p:List Value->Prop} (h:∀ a b c d e,p [a,b,c,d,e]):∀ us:List Value,us.length=5->p us:=fun us hl=>by
 cases us with
 | nil=>cases hl
 | cons a t=>exact len_4 (p:=fun t=>p (a::t)) (h a) t (Nat.succ.inj hl)
theorem mkDf {K:Frag}{h:Heap}{mg:Str->Option Value} (X:K.In h) (G:h.Ns mainGlobals mg) {x:Str}{st:Stmt}{ps:List Str}{f:Addr}{oc:Value}{od an:Option Addr}{osl:Array (Option Value)}{kV doc pm cdv ct:Value} (a:nsIn K mainGlobals x=some (some (.ref f))) (l:K.lookup f=some ⟨oc,od,.func (fnOf x x (QH st) (Qe st) (qg st) .none kV doc pm an cdv ct),osl⟩) (c:codeIn K cdv x=true) (k:keepIn K (.ref f)=true) (hb:∀ (kV doc pm:Value) (an:Option Addr) (cdv ct:Value) (us:List Value),us.length=ps.length->bindArgs (fnOf x x (QH st) (Qe st) (qg st) .none kV doc pm an cdv ct) ⟨us,[]⟩=pure (ps.zip us)):Df K mg x st ps f (fnOf x x (QH st) (Qe st) (qg st) .none kV doc pm an cdv ct):=⟨qf6 l c k,(qf6 l c k).binds hb,PySem.W.mg_of X G a,k⟩
theorem mkDm {K:Frag}{C:Addr}{x q:Str}{st:Stmt}{ps:List Str}{f:Addr}{oc:Value}{od an:Option Addr}{osl:Array (Option Value)}{kV doc pm cdv ct:Value} (m:qiG K C x f) (l:K.lookup f=some ⟨oc,od,.func (fnOf x q (QH st) (Qe st) (qg st) .none kV doc pm an cdv ct),osl⟩) (c:codeIn K cdv q=true) (k:keepIn K (.ref f)=true) (hb:∀ (kV doc pm:Value) (an:Option Addr) (cdv ct:Value) (us:List Value),us.length=ps.length->bindArgs (fnOf x q (QH st) (Qe st) (qg st) .none kV doc pm an cdv ct) ⟨us,[]⟩=pure (ps.zip us)):DfM K C x q st ps f (fnOf x q (QH st) (Qe st) (qg st) .none kV doc pm an cdv ct):=⟨qf6 l c k,(qf6 l c k).binds hb,m⟩
theorem all2 {l:PySem.W.OpenLaw}{w:World}{K:Frag}{h:Heap}{mg:Str->Option Value}{fa:Addr} (X:K.In h) (G:h.Ns mainGlobals mg) (hfa:mg "law"=some (.ref fa)) {a:Ad} (T:Txt K mg a)
   : ∃ fd:FuncData,(∀ (s:Shared) (v:Value),BindsTo s fd ⟨[v],[]⟩ [("_law_script",v)])∧∀ base:Heap,K.In base->base.Ns mainGlobals mg->qy l.prog w K mg base CX0 12 fa fd ["_law_script"] (qft K):=by
 have e:=hfa.symm.trans T.d_aA.m;obtain⟨oc,od,kV,doc,pm,an,cdv,ct,osl,e2,lk,hcd⟩:=T.d_aA.F.ex;cases e;exact⟨a.fd_aA,fun s v=>by rw[e2];exact .of_eq rfl,fun base _ _=>ql9 T⟩
theorem walk {l:PySem.W.OpenLaw}{q:Program}{loose:List Str}{XP:(Str->Option Value)->Heap->Prop}{YP:World->Heap->Prop}{d:DefRec}{K:Params->Frag} (hn:l.most=some 63) (hdf:d.params.defaults=[])
   (hY:∀ (w:World) (h:Heap),YP w h->(K w.params).In h)
   (F:∀ (w:World) (mg:Str->Option Value) (fa:Addr) (h:Heap),(K w.params).In h->h.Ns mainGlobals mg->mg d.name=some (.ref fa) ->
     ∃ fd:FuncData,(∀ (s:Shared) (u:Value),BindsTo s fd ⟨[u],[]⟩ [("_law_script",u)])∧∀ base:Heap,(K w.params).In base->base.Ns mainGlobals mg->qy l.prog w (K w.params) mg base CX0 12 fa fd ["_law_script"] (qft (K w.params))) :
   PySem.W.WalkO q loose XP YP l.row.toRowW d [] (fun f vs=>PySem.call f vs) :=
 L2.walk_of (n:=63) (k:=12) (x:="_law_script") (CX:=fun _=>CX0) (sp:=fun w=>qft (K w.params)) hn (by decide) hdf ⟨rfl,by decide,by decide,rfl⟩ hY F (fun _ _ a ns hl _ hS=>⟨a,ns,rfl,hS,hl,fun _=>rfl⟩) fun _ _ _ _ _ z=>z
end K76
open PySem PySem.W PyProof.Rows
namespace PySem.W.Fast
def tw6575236246037643374:=0
def tw9467773102018331040:=0
def tw2285420276244519746:=0
def tw8793173117119378585:=0
def tw4616868717739067566:=0
def tw7939761861269208118:=0
def tw14924548224748621491:=0
def tw15263068900608101927:=0
def tw2532612333478984093:=0
def tw12320860942275505354:=0
def tw13132828810598340596:=0
def tw7311524670872184852:=0
def tw4433582084396241864:=0
def tw12264665069921929933:=0
def tw11564991623391688418:=0
def tw9993546944024870360:=0
def tw7821360201955831724:=0
def tw10203766907309287448:=0
def tw7528285864630626759:=0
def tw4395750031728815717:=0
def tw1151914205124181747:=0
def tw15388694246158206285:=0
def tw10782033813597305477:=0
def tw15533994799564736193:=0
def tw3889692100305313969:=0
def tw732239257398671950:=0
def tw11471256531861527192:=0
def tw16215250210922179833:=0
def tw9229399559443964356:=0
def tw15646829294229648357:=0
def tw15081138547850839581:=0
def tw10928289007055048895:=0
def tw10392948841725483412:=0
def tw8970166147118794675:=0
def tw6446809236523814389:=0
def tw7591228087443527661:=0
def tw16993045740530513587:=0
def tw17192307751149385566:=0
def tw1401570955321733969:=0
def tw3048955435408979077:=0
def tw13283277176160772224:=0
def tw12426655042266941995:=0
def tw7842045215735781186:=0
def tw10635572300584160884:=0
def tw16712471150409815527:=0
def tw10413490551036040747:=0
def tw11035373582323968056:=0
def tw4497704099869541756:=0
def tw7959526319533620357:=0
def tw17166287012677947496:=0
def tw9583528109629198557:=0
def tw17828346844298255772:=0
def tw10297690549850244234:=0
def tw5091598101547392172:=0
def tw12996847641322179860:=0
def tw11665277688683026322:=0
def tw6649043658147496782:=0
def tw5630801761490275472:=0
def tw10792299293983971225:=0
def tw15325505389671527560:=0
def tw15785149214784026315:=0
def tw2925421993025031232:=0
def tw10416640068440984997:=0
def tw3342054701102112212:=0
def tw9485996670414827526:=0
def tw10670364566147101711:=0
def tw16387748869468891533:=0
def tw16223656140526120962:=0
def tw12344358807221678702:=0
def tw9065540471074248075:=0
def tw3067454215299199667:=0
def tw15212350381970341007:=0
def tw8126405910547610225:=0
def tw12467876974009799497:=0
def tw6892172066571655224:=0
def tw4596461499360915207:=0
def tw15586332024135280483:=0
def tw11063078225413119434:=0
def tw3833001783561189696:=0
def tw9089443486645898967:=0
def tw18123746273166596722:=0
def tw1555988005229708615:=0
def tw15522412357292370911:=0
def tw2868063163716969982:=0
def tw6263785520404980741:=0
def tw3118144657024815790:=0
def tw18426331505756895982:=0
def tw1865499862901995242:=0
def tw8089531346295814194:=0
def tw2189962619695611176:=0
def tw5892639169217447594:=0
def tw3060328663941409899:=0
def tw7049917718293473112:=0
def tw6455032661552314886:=0
def tw14178566070539912829:=0
def tw11709821588098427155:=0
def tw8826749372292643375:=0
def tw16188469912336321619:=0
def tw12081880164176562317:=0
def tw10298580540018576276:=0
def tw6519467444050781387:=0
def tw10328790611773469510:=0
def tw3010891125123116819:=0
def tw4345695840324300993:=0
def tw1563574157782266622:=0
def tw632787802850090158:=0
def tw17234080645076941649:=0
def tw5758247696278532839:=0
def tw7062009321350235844:=0
def tw3967886670713907283:=0
def tw13168621825880700903:=0
def tw14792505364102044709:=0
def tw354953574139592360:=0
def tw2842934106726103160:=0
def tw5214795562530434971:=0
def tw9547045323077688240:=0
def tw8947550883995254382:=0
def tw15858690581016610095:=0
def tw2751751174151845662:=0
def tw11327296877230514439:=0
def tw12332637544619354666:=0
def tw18430790969133717088:=0
def tw6842358758856441536:=0
def tw9336897785448363966:=0
def tw11935915973700151973:=0
def tw6692037697524388346:=0
def tw1567813123562748732:=0
def tw18301839459446971021:=0
def tw18219686721564501496:=0
def tw14486075486884263154:=0
def tw8488746160665102844:=0
def tw2700745394074800631:=0
def tw10729436379829495494:=0
def tw14719342318694024420:=0
def tw15231656123228094912:=0
def tw9019641415693311140:=0
def tw13804358513961346516:=0
def tw1187631737789044571:=0
def tw8593978515466570447:=0
def tw16430505814800128557:=0
def tw14426367500885785632:=0
def tw5584973341104481825:=0
def tw17880067587829488793:=0
def tw11839477794483760662:=0
def tw10034143296692636750:=0
def tw14268756999100492105:=0
def tw9691067524732939956:=0
def tw9960016791293547539:=0
def tw4235556385834978992:=0
def tw13718365699021993895:=0
def tw15012921876373179200:=0
def tw8844615057173672053:=0
def tw3743179185712815816:=0
def tw14409446437320880341:=0
def tw1024724118556325354:=0
def tw9161948289724263509:=0
def tw4701019257586855736:=0
def tw15095908421587642582:=0
def tw1591826452215972351:=0
def tw8420002646497145641:=0
def tw12842105598241737924:=0
def tw6313369400836918649:=0
def tw17053525030530714753:=0
def tw6806522085342617968:=0
def tw6751913884502119887:=0
def tw14872697176958149666:=0
def tw17233114845605815015:=0
def tw17347354686939201094:=0
def tw1600648190799390666:=0
def tw10447012146225939488:=0
def tw6326921850817790027:=0
def tw3793174621977576081:=0
def tw18206248713057909416:=0
def tw13913949903241999006:=0
def tw11809079972246787012:=0
def tw7073752891881664094:=0
def tw8580435558778905163:=0
def tw6127958093076670146:=0
def tw10719065606044575158:=0
def tw15118071568754602211:=0
def tw10846680339221850142:=0
def tw2848405144590948978:=0
def tw8199021293664731149:=0
def tw10243989190063840352:=0
def tw16080126718185131530:=0
def tw2168931355283529132:=0
def tw16891650306548572109:=0
def tw17081400468794323802:=0
def tw8883737510325280966:=0
def tw789830088451333253:=0
def tw9644651971645420940:=0
def tw16811693012575728469:=0
def tw13071244659953126346:=0
def tw9425385356524268891:=0
def tw1915775443876815875:=0
def tw9705434501920760497:=0
def tw3528898068730424163:=0
def tw17363714775479437637:=0
def tw1574445885045780399:=0
def tw12773601764434608470:=0
def tw1987199516957814505:=0
def tw7821162841120107381:=0
def tw6794419452527082044:=0
def tw11754767036040059456:=0
def tw13935664341910521201:=0
def tw3040997941719421500:=0
def tw5466314821666064272:=0
def tw15445947888493111250:=0
def tw8621313064510738946:=0
def tw4389243434250055681:=0
def tw12175148364505747479:=0
def tw3033083431119487847:=0
def tw10234570703474366152:=0
def tw14456257753603640957:=0
def tw8589265754493798494:=0
def tw4502137524200535250:=0
def tw7563656856593121239:=0
def tw6941677344318276971:=0
def tw15649398211268206961:=0
def tw5738094837522129526:=0
def tw15883130582043473271:=0
def tw9026899843378836361:=0
def tw7612192628160715104:=0
def tw4720155959808485589:=0
def tw12423046816992629626:=0
def tw7066159758408567045:=0
def tw12374480439263403520:=0
def tw10814622069393250479:=0
def tw18111249952215013404:=0
def tw5691035004244061401:=0
def tw3349020284966417058:=0
def tw1808360624568639970:=0
def tw5571058400576963947:=0
def tw15929226260505650238:=0
def tw877285684431624372:=0
def tw9212472954429434049:=0
def tw1840009873589669190:=0
def tw17656039555067045461:=0
def tw9056931829876901398:=0
def tw10951008370877814900:=0
def tw591329275914382992:=0
def tw8076944047354697584:=0
def tw15956805037171372491:=0
def tw11004218427105402854:=0
def tw16440732800522774198:=0
def tw17170838630692961660:=0
def tw14892916433896572583:=0
def tw777003522618941397:=0
def tw14026730413319055425:=0
def tw10105283035760952167:=0
def tw12422014814339690055:=0
def tw4202790614150968697:=0
def tw8662276501980379150:=0
def tw6441451368806684598:=0
def tw2425920931793233989:=0
def tw15949786616675666504:=0
def tw3975743466842639612:=0
def tw10003328920533820480:=0
def tw10183954620721147209:=0
def tw8940946671994179494:=0
def tw8457352793426942876:=0
def tw6668309721703363915:=0
def tw11453908920872816759:=0
def tw12664217405375858572:=0
def tw49511754693205879:=0
def tw15192343979596245966:=0
def tw18294302075043458693:=0
def tw4287954187085535191:=0
def tw16698065426535534430:=0
def tw18101789143239065318:=0
def tw14611525967301971984:=0
def tw14789284156765754827:=0
def tw12389185803428704672:=0
def tw11565615108168737652:=0
def tw6224762744812797050:=0
def tw4819759069943649586:=0
def tw8438768209313730150:=0
def tw8824646271897057299:=0
def tw11202460921108399582:=0
def tw14524800931053310951:=0
def tw642516846737471303:=0
def tw11357183297257404977:=0
def tw107608500324662635:=0
def tw2661192814598392259:=0
def tw18132083358733385561:=0
def tw15051834364837226246:=0
def tw8858349092417475713:=0
def tw9365456774434357168:=0
def tw14833765263950490817:=0
def tw15281899610037450330:=0
def tw10476519459455321440:=0
def tw4169435323306549794:=0
def tw2951414245364642810:=0
def tw18038019827137852:=0
def tw5667665601846950496:=0
def tw10940170833601221267:=0
def tw15374189074934634631:=0
def tw7235040061598649729:=0
def tw11395137611289722738:=0
def tw285118001245464330:=0
def tw14691170354370345537:=0
def tw18167476866734347092:=0
def tw12037279227775797965:=0
def tw8071703213642429403:=0
def tw3192923933898299503:=0
def tw2377139255668687008:=0
def tw17891891537621368380:=0
def tw13862874688187463985:=0
def tw5439412542729334091:=0
def tw256691976371288368:=0
def tw9764686069688839275:=0
def tw3639579004788761241:=0
def tw13077223421778740880:=0
def tw2273527786251060023:=0
def tw8008058601073055429:=0
def tw15001586344815351447:=0
def tw5607412509559220392:=0
def tw2029524298516353204:=0
def tw11763626858447374765:=0
def tw4598466867996826371:=0
def tw7683302796446998903:=0
def tw7580005079813736697:=0
def tw7453437400554533891:=0
def tw7203167420594762964:=0
def tw461869059389340760:=0
def tw1869434859291514074:=0
def tw14714263067164055940:=0
def tw14222896986456757237:=0
def tw13934819243065089615:=0
def tw1313805661057661537:=0
def tw11514039379312201387:=0
def tw6757664145660094952:=0
def tw14724896951633232876:=0
def tw15727238161847690512:=0
def tw14601153806017568863:=0
def tw266555535410195277:=0
def tw3553694612584542324:=0
def tw14984321282302036401:=0
def tw8680421320518881489:=0
def tw6640949704979007054:=0
def tw16356628762068383495:=0
def tw1773323050462433233:=0
def tw13923971131759071959:=0
def tw3854719336794959877:=0
def tw1177970638577152356:=0
def tw1683274634890331414:=0
def tw3139912088715983539:=0
def tw15543808447004286799:=0
def tw16206291659764234385:=0
def tw6460624195911214827:=0
def tw14253070007602632109:=0
def tw7501312103659626153:=0
def tw10882895554426122342:=0
def tw937093494216600900:=0
def tw9187002267884251778:=0
def tw6155136065020603810:=0
def tw10842624742551606579:=0
def tw18255995663128801173:=0
def tw7774941935644126431:=0
def tw10322006177715602745:=0
def tw3767060760277690754:=0
end PySem.W.Fast
set_option maxHeartbeats 0 in
theorem PySem.Challenge.cw_foldlog_k76_picked_holds : PySem.Challenge.rw_foldlog_k76_picked.Holds := by
 w_on;o_law;k_head;(case hw=>w_witness2)
 k_fill
 refine K76.walk (l:=PySem.Challenge.rw_foldlog_k76_picked) rfl rfl (fun w h Y=>PySem.W.kIn_of Y) ?F
 case F =>
   intro w mg fa h KX G hmg;refine' K76.all2 KX G hmg (a:=⟨_,_,_,_,_,_,_,_,_,_,_,_,_,_,_,_,_,_,_,_,_,_,_,_,_,_,_,_,_,_,_,_,_,_,_,_,_,_,_,_,_,_,_,_,_,_,_,_,_,_,_,_,_,_,_,_,_,_,_,_,_,_,_,_,_,_,_,_,_,_,_,_,_,_,_,_,_,_,_,_,_,_,_,_,_,_,_,_,_,_,_,_,_,_,_,_,_,_,_,_,_,_,_,_,_,_,_,_,_,_,_,_,_,_,_,_,_,_,_,_,_,_,_,_,_,_,_,_,_,_,_,_,_,_,_,_,_,_,_,_,_,_,_,_,_,_,_,_,_,_,_,_,_,_,_,_,_,_,_,_,_,_,_,_,_,_,_,_,_,_,_,_,_,_,_,_,_,_,_,_,_,_,_,_,_,_,_,_,_,_,_,_,_,_,_,_,_,_,_,_,_,_,_,_,_,_,_⟩) ?T
   case T =>
     constructor
     all_goals try dsimp only
     all_goals try refine' PySem.W.mg_of KX G ?_
     all_goals try refine' PySem.W.mg_none_of KX G ?_
     all_goals try refine' ⟨_,PySem.W.mg_of KX G ?_⟩
     all_goals try k_is
     all_goals try refine' K76.mkDf KX G ?_ ?_ ?_ ?_ (fun _ _ _ _ _ _=>by first|exact K76.len_0 rfl|exact K76.len_1 fun _=>rfl|exact K76.len_2 fun _ _=>rfl|exact K76.len_3 fun _ _ _=>rfl|exact K76.len_4 fun _ _ _ _=>rfl|exact K76.len_5 fun _ _ _ _ _=>rfl)
     all_goals try refine' K76.mkDm ⟨?_,?_,?_⟩ ?_ ?_ ?_ (fun _ _ _ _ _ _=>by first|exact K76.len_0 rfl|exact K76.len_1 fun _=>rfl|exact K76.len_2 fun _ _=>rfl|exact K76.len_3 fun _ _ _=>rfl|exact K76.len_4 fun _ _ _ _=>rfl|exact K76.len_5 fun _ _ _ _ _=>rfl)
     all_goals try refine' L2.xIsa_of ?_ ?_ ?_
     all_goals try refine' L2.XMro.of ?_ ?_
     all_goals try refine' L2.xIn_of ?_ ?_
     all_goals try refine' ⟨⟨L2.xIn_of ?_ ?_,?_,?_,?_,?_,?_,?_⟩,?_,?_,?_⟩
     all_goals try refine' ⟨⟨?_,?_,?_,?_⟩,?_,?_,?_,?_⟩
     all_goals try refine' ⟨?_,?_,?_,?_⟩
     all_goals try refine' ⟨?_,?_,?_⟩
     all_goals try refine' ⟨?_,?_⟩
     all_goals try (first|k_is|rfl)
     all_goals try (first|k_is|rfl)
     all_goals try (first|k_is|rfl)
     all_goals decide
