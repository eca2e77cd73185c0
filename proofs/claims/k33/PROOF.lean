import PyProof.Rows.All
import OpenK.KLine
import Wide.FinOn
import KE.KSortTup
import KE.KDictOf
import KE.LcSums
import KE.KIntText
import KE.KNestM
import KE.KRevSl
import KE.KFromBytes
import KE.KItemsList
import KE.KIsAll
import KE.KEqDict
import KE.KLam
import KE.KRevIter
import KE.KMinKey
import PySem.Challenge.RW_foldlog_k33_sifted_entries
set_option maxHeartbeats 4000000
set_option Elab.async false
set_option linter.all false
set_option maxRecDepth 100000
namespace L2
open PySem PySem.Spec PyProof.Rows
open PySem.W (instObj methodObj Frag lookIn plainGet hasDictIn findIn handedIn plainGet_of isFn plainOver takerIn makesIn emptyDict keepIn kia_one kitx_list kitx_dict callWith_K fnOf)
abbrev Key:=Sum Int Str
def qd3:Key->Value->Bool
 | .inl k,v=>Value.isInt k v
 | .inr x,v=>Value.isStrOf x v
def qlP (w:World):Key->Int
 | .inl k=>hashInt k
 | .inr x=>hashStr w x
theorem qS:∀ {k:Key}{v:Value},qd3 k v=true->(∃ i t,k=Sum.inl i∧v=Value.int i t)∨(∃ x t,k=Sum.inr x∧v=Value.str x t)
 | .inl i,v,h=>by
   obtain⟨t,e⟩:=Value.isInt_shape (k:=i) (v:=v) h;exact .inl ⟨i,t,rfl,e⟩
 | .inr x,v,h=>by
   obtain⟨t,e⟩:=Value.isStrOf_shape (x:=x) (v:=v) h;exact .inr ⟨x,t,rfl,e⟩
theorem qfu (i:Int) (t:Tok):qd3 (.inl i) (.int i t)=true:=by simp[qd3,Value.isInt]
theorem qft (x:Str) (t:Tok):qd3 (.inr x) (.str x t)=true:=by simp[qd3,Value.isStrOf]
theorem qjZ (a b:Int):decide ((Sum.inl a:Key)=Sum.inl b)=(a == b):=by
 by_cases e:a=b
 · subst e;simp
 · have h:¬ (Sum.inl a:Key)=Sum.inl b:=fun q=>e (Sum.inl.inj q);rw[decide_eq_false h];exact(beq_eq_false_iff_ne.mpr e).symm
theorem qjW (a b:Str):decide ((Sum.inr a:Key)=Sum.inr b)=decide (a=b):=by
 by_cases e:a=b
 · subst e;simp
 · have h:¬ (Sum.inr a:Key)=Sum.inr b:=fun q=>e (Sum.inr.inj q);rw[decide_eq_false h,decide_eq_false e]
theorem qjY (a:Int) (b:Str):decide ((Sum.inl a:Key)=Sum.inr b)=false:=decide_eq_false (fun q=>nomatch q)
theorem qjX (a:Str) (b:Int):decide ((Sum.inr a:Key)=Sum.inl b)=false:=decide_eq_false (fun q=>nomatch q)
def zm (prog:Program) (w:World):PySem.KeyKind prog w Key where
 is:=qd3
 hash:=qlP w
 inj:=fun v a b ha hb=>by
   rcases qS ha with ⟨i,t,rfl,rfl⟩|⟨x,t,rfl,rfl⟩
   · rcases qS hb with ⟨j,u,rfl,e⟩|⟨y,u,rfl,e⟩
     · injection e with e1 _;rw[e1]
     · exact nomatch e
   · rcases qS hb with ⟨j,u,rfl,e⟩|⟨y,u,rfl,e⟩
     · exact nomatch e
     · injection e with e1 _;rw[e1]
 byValue:=fun k v h=>by
   rcases qS h with ⟨i,t,rfl,rfl⟩|⟨x,t,rfl,rfl⟩<;>rfl
 pyHash:=fun hv h=>by
   rcases qS hv with ⟨i,t,rfl,rfl⟩|⟨x,t,rfl,rfl⟩
   · exact wpAny_pyHash_int h
   · exact wpAny_pyHash_str h
 eqBool:=fun hu hv h=>by
   rcases qS hu with ⟨i,t,rfl,rfl⟩|⟨x,t,rfl,rfl⟩
   · rcases qS hv with ⟨j,u,rfl,rfl⟩|⟨y,u,rfl,rfl⟩
     · rw[qjZ]at h;exact wpAny_eqBool_int h
     · rw[qjY]at h;exact SeqAt.EqAt.int_str i t y u _ _ _ _ h
   · rcases qS hv with ⟨j,u,rfl,rfl⟩|⟨y,u,rfl,rfl⟩
     · rw[qjX]at h;exact SeqAt.EqAt.str_int x t j u _ _ _ _ h
     · rw[qjW]at h;exact wpAny_eqBool_str h
 «strs»:=fun k x t v h=>by
   rcases qS h with ⟨i,u,rfl,e⟩|⟨y,u,rfl,e⟩
   · exact nomatch e
   · injection e with e1 _;subst e1;cases v<;>rfl
theorem qcy (prog:Program) (w:World) (i:Int) (t:Tok):(zm prog w).is (.inl i) (.int i t)=true:=qfu i t
theorem qcx (prog:Program) (w:World) (x:Str) (t:Tok):(zm prog w).is (.inr x) (.str x t)=true:=qft x t
inductive V where
 | non|bl (b:Bool)|int (i:Int)|str (x:Str)|byt (b:Array UInt8)|flt (b:UInt64)|ref (a:Addr)|ty (n:String)
 deriving DecidableEq
def RelV:V->Value->Prop
 | .non,u=>u=Value.none
 | .bl b,u=>u=Value.bool b
 | .int i,u=>∃ t,u=Value.int i t
 | .str x,u=>∃ t,u=Value.str x t
 | .byt b,u=>∃ t,u=Value.bytes b t
 | .flt b,u=>∃ t,u=Value.float b t
 | .ref a,u=>u=Value.ref a
 | .ty n,u=>u=Value.type n
abbrev Vals:List V->List Value->Prop:=Paired RelV
theorem Vals.length {xs:List V}{us:List Value} (r:Vals xs us):xs.length=us.length:=Paired.length r
theorem Vals.get:∀ {xs:List V}{us:List Value}{i:Nat}{x:V},Vals xs us->xs[i]?=some x->∃ u,us[i]?=some u∧RelV x u
 | _,_,_,_,.nil,e=>by simp at e
 | _,_,0,_,.cons r _,e=>by simp at e;subst e;exact⟨_,rfl,r⟩
 | _,_,i+1,x,.cons _ t,e=>by
   obtain⟨u,h1,h2⟩:=Vals.get (i:=i) (x:=x) t (by simpa using e);exact⟨u,by simpa using h1,h2⟩
theorem Vals.set {x:V}{u:Value} (r:RelV x u):∀ {xs:List V}{us:List Value} (i:Nat),Vals xs us->Vals (xs.set i x) (us.set i u)
 | _,_,_,.nil=>.nil
 | _,_,0,.cons _ t=>.cons r t
 | _,_,i+1,.cons q t=>.cons q (Vals.set r i t)
theorem Vals.append:∀ {xs ys:List V}{us ws:List Value},Vals xs us->Vals ys ws->Vals (xs++ys) (us++ws)
 | _,_,_,_,.nil,s=>s
 | _,_,_,_,.cons r t,s=>.cons r (Vals.append t s)
theorem Vals.take:∀ {xs:List V}{us:List Value} (n:Nat),Vals xs us->Vals (xs.take n) (us.take n)
 | _,_,0,_=>.nil
 | _,_,_+1,.nil=>.nil
 | _,_,n+1,.cons r t=>.cons r (Vals.take n t)
theorem Vals.drop:∀ {xs:List V}{us:List Value} (n:Nat),Vals xs us->Vals (xs.drop n) (us.drop n)
 | _,_,0,r=>r
 | _,_,_+1,.nil=>.nil
 | _,_,n+1,.cons _ t=>Vals.drop n t
def RelO:Option V->Option Value->Prop
 | some v,some u=>RelV v u
 | none,none=>True
 | _,_=>False
def KV {κ:Type}:List (κ×V)->List (κ×Value)->Prop:=Paired fun (p:κ×V) (q:κ×Value)=>p.1=q.1∧RelV p.2 q.2
def kV:Key->V
 | .inl i=>.int i
 | .inr x=>.str x
inductive HO where
   | lst (xs:List V)
   | tup (xs:List V)
   | dK (kvs:List (Key×V))|dT (kvs:List (List Key×V))
   | set (S:Int->Bool) (n:Nat)
   | ins (C dx:Addr) (fs:List (Str×V))
   | own (x:Addr)
   | xd (fs:List (Str×V))
   | met (f x:Addr)
   | rng (lo hi:Int)
   | frz (o:Obj) (u:HO)
   | tbl (ps:Array Value)
   | ext (φ:Heap->Prop)
abbrev Hp:=Addr->Option HO
def upd (H:Hp) (a:Addr) (o:HO):Hp:=fun b=>if b=a then some o else H b
theorem qb {H:Hp}{a:Addr}{o:HO}:upd H a o a=some o:=by unfold upd;rw[if_pos rfl]
theorem qi {H:Hp}{a b:Addr}{o:HO} (h:b≠a):upd H a o b=H b:=by unfold upd;rw[if_neg h]
theorem zd {H:Hp}{a b:Addr}{o u:HO} (h:H a=some o) (h':H b=some u) (d:o≠u):a≠b:=by
 intro e;subst e;rw[h]at h';exact d (Option.some.inj h')
theorem qh {H:Hp}{a b:Addr}{o:HO} (h:H a=some o) (h':H b=none):a≠b:=by
 intro e;subst e;rw[h]at h';cases h'
section
variable (P:Program) (w:World)
def ObjOk (H:Hp) (h:Heap) (a:Addr):HO->Prop
 | .lst xs=>xs.length≤sizeLine∧∃ (its:List Value) (n:Nat),Vals xs its∧h.get? a=some { cls:=.type "list",data:=.seq its.toArray n }
 | .tup xs=>xs.length≤sizeLine∧∃ its:List Value,Vals xs its∧IsTup h a its.toArray
 | .dK kvs=>kvs.length≤sizeLine∧(a == sysModules)=false∧∃ vs,KV kvs vs∧h.DictOf (zm P w) a vs
 | .dT kvs=>kvs.length≤sizeLine∧(a == sysModules)=false∧∃ xs:List (List Key×Addr×Value),
     Paired (fun (p:List Key×V) (q:List Key×Addr×Value)=>p.1=q.1∧H q.2.1=some (.tup (p.1.map kV))∧RelV p.2 q.2.2) kvs xs ∧
     ∃ o es ep,h.get? a=some o∧o.ExactDict∧o.data=.dict es ep∧es.toList=xs.map (entryOfKey (tupleKind (zm P w)))∧(xs.map (·.1)).Nodup
 | .set S n=>h.SetOf (intKind P w) a S n
 | .ins C dx fs=>H dx=some (.own a)∧fs.length≤1000∧dx≠a∧h.get? a=some (instObj C dx) ∧
     ∃ mA,h.Ns1 dx mA∧(∀ f,RelO (fs.lookup f) (mA f))∧PySem.Within mA (fs.map (·.1))
 | .own _=>∃ o,h.get? a=some o
 | .xd fs=>∃ mA,h.Ns1 a mA∧∀ f,RelO (fs.lookup f) (mA f)
 | .rng lo hi=>∃ t u v,h.get? a=some { cls:=.type "range",data:=.fields #[.int lo t,.int hi u,.int 1 v] }
 | .frz o u=>h.get? a=some o∧ObjOk H h a u
 | .tbl ps=>h.get? a=some { cls:=.none,data:=.fields ps }
 | .met f x=>h.get? a=some (methodObj (.ref f) (.ref x))
 | .ext φ=>φ h∧(∃ o,h.get? a=some o)∧∀ h1 h2:Heap,φ h1->(∀ o,h1.get? a=some o->h2.get? a=some o)->φ h2
def HOk (H:Hp) (h:Heap):Prop:=∀ a o,H a=some o->ObjOk P w H h a o
end
section
variable {P:Program}{w:World}{H H':Hp}{h h':Heap}{a:Addr}{o:HO}
theorem ObjOk.lt (x:ObjOk P w H h a o):a < h.objs.size:=by
 cases o with
 | lst xs=>obtain⟨_,_,_,_,e⟩:=x;exact Heap.lt_size e
 | tup xs=>obtain⟨_,_,_,p⟩:=x;exact p.lt
 | dK kvs=>obtain⟨_,_,_,_,o,_,_,e,_⟩:=x;exact Heap.lt_size e
 | dT kvs=>obtain⟨_,_,_,_,o,_,_,e,_⟩:=x;exact Heap.lt_size e
 | set S n=>obtain⟨o,_,_,_,e,_⟩:=x;exact Heap.lt_size e
 | ins C dx fs=>obtain⟨_,_,_,e,_⟩:=x;exact Heap.lt_size e
 | own y=>obtain⟨_,e⟩:=x;exact Heap.lt_size e
 | xd fs=>obtain⟨_,⟨_,_,_,e,_⟩,_⟩:=x;exact Heap.lt_size e
 | rng lo hi=>obtain⟨_,_,_,e⟩:=x;exact Heap.lt_size e
 | frz ob u=>obtain⟨e,_⟩:=x;exact Heap.lt_size e
 | tbl ps=>exact Heap.lt_size (show h.get? a=some _ from x)
 | met f y=>exact Heap.lt_size (show h.get? a=some _ from x)
 | ext φ=>obtain⟨_,⟨_,e⟩,_⟩:=x;exact Heap.lt_size e
theorem Paired.mapP {α β:Type}{F G:α->β->Prop}:∀ {l₁:List α}{l₂:List β},Paired F l₁ l₂->(∀ a b,F a b->G a b)->Paired G l₁ l₂
 | _,_,.nil,_=>.nil
 | _,_,.cons r t,f=>.cons (f _ _ r) (Paired.mapP t f)
theorem ObjOk.stay (x:ObjOk P w H h a o) (k:∀ b u,(b=a∨H b=some (.own a))->h.get? b=some u->h'.get? b=some u)
   (ho:∀ b,H b=some (.own a)->H' b=some (.own a)) (ht:∀ b xs,H b=some (.tup xs)->H' b=some (.tup xs)):ObjOk P w H' h' a o:=by
 induction o with
 | lst xs=>obtain⟨z,its,n,r,e⟩:=x;exact⟨z,its,n,r,k _ _ (.inl rfl) e⟩
 | tup xs=>obtain⟨z,its,r,ob,e,c⟩:=x;exact⟨z,its,r,ob,k _ _ (.inl rfl) e,c⟩
 | dK kvs=>obtain⟨z,y,vs,r,ob,es,ep,e,c⟩:=x;exact⟨z,y,vs,r,ob,es,ep,k _ _ (.inl rfl) e,c⟩
 | dT kvs =>
   obtain⟨z,y,xs,r,ob,es,ep,e,c⟩:=x;exact⟨z,y,xs,Paired.mapP r fun p q z=>⟨z.1,ht _ _ z.2.1,z.2.2⟩,ob,es,ep,k _ _ (.inl rfl) e,c⟩
 | set S n=>obtain⟨ob,es,ep,t,e,c⟩:=x;exact⟨ob,es,ep,t,k _ _ (.inl rfl) e,c⟩
 | ins C dx fs =>
   obtain⟨d,z,ne,e,mA,⟨od,es,ep,e2,c⟩,r⟩:=x;exact⟨ho _ d,z,ne,k _ _ (.inl rfl) e,mA,⟨od,es,ep,k _ _ (.inr d) e2,c⟩,r⟩
 | own y=>obtain⟨ob,e⟩:=x;exact⟨ob,k _ _ (.inl rfl) e⟩
 | xd fs=>obtain⟨mA,⟨od,es,ep,e,c⟩,r⟩:=x;exact⟨mA,⟨od,es,ep,k _ _ (.inl rfl) e,c⟩,r⟩
 | rng lo hi=>obtain⟨t,u,v,e⟩:=x;exact⟨t,u,v,k _ _ (.inl rfl) e⟩
 | frz ob u ih=>obtain⟨e,q⟩:=x;exact⟨k _ _ (.inl rfl) e,ih q⟩
 | tbl ps =>
   have e:h.get? a=some { cls:=.none,data:=.fields ps }:=x;show h'.get? a=some { cls:=.none,data:=.fields ps };exact k a _ (.inl rfl) e
 | met f y =>
   have e:h.get? a=some (methodObj (.ref f) (.ref y)):=x;show h'.get? a=some (methodObj (.ref f) (.ref y));exact k a _ (.inl rfl) e
 | ext φ=>obtain⟨p,⟨o,e⟩,st⟩:=x;exact⟨st _ _ p fun o q=>k _ _ (.inl rfl) q,⟨o,k _ _ (.inl rfl) e⟩,st⟩
theorem HOk.lt (x:HOk P w H h) (e:H a=some o):a < h.objs.size:=(x a o e).lt
theorem HOk.fresh (x:HOk P w H h) (e:h.objs.size≤a):H a=none:=by
 cases q:H a with
 | none=>rfl
 | some u=>exact absurd (Nat.lt_of_lt_of_le (x.lt q) e) (Nat.lt_irrefl _)
theorem HOk.kept (x:HOk P w H h) (k:∀ b u,h.get? b=some u->h'.get? b=some u):HOk P w H h':=fun a o e =>
 (x a o e).stay (fun b u _ q=>k b u q) (fun _ q=>q) fun _ _ q=>q
theorem HOk.laid (x:HOk P w H h) (k:∀ b u,h.get? b=some u->h'.get? b=some u) (hp:h.objs.size≤a) (new:ObjOk P w (upd H a o) h' a o):HOk P w (upd H a o) h':=fun b u e=>by
 have hn:=x.fresh hp;by_cases hb:b=a
 · subst hb;rw[qb]at e;cases e;exact new
 · rw[qi hb]at e;exact(x b u e).stay (fun c v _ q=>k c v q) (fun c q=>by rw[qi (qh q hn)];exact q) fun c xs q=>by rw[qi (qh q hn)];exact q
end
def Rd (H:Hp) (a:Addr) (u:HO):Prop:=H a=some u∨∃ o,H a=some (.frz o u)
theorem Rd.ok {P:Program}{w:World}{H:Hp}{h:Heap}{a:Addr}{u:HO} (r:Rd H a u) (x:HOk P w H h):ObjOk P w H h a u:=by
 rcases r with r|⟨o,r⟩
 · exact x a u r
 · obtain⟨_,q⟩:=x a _ r;exact q
def Mut:Option HO->Prop
 | some (.lst _)=>True
 | some (.dK _)=>True
 | some (.dT _)=>True
 | some (.set _ _)=>True
 | some (.ins _ _ _)=>True
 | some (.ext _)=>True
 | _=>False
section
variable {P:Program}{w:World}{H:Hp}{h h':Heap}{x e:Addr}{o':HO}
theorem HOk.write (ok:HOk P w H h) (mu:Mut (H x)) (he:e=x∨H e=some (.own x)) (k:∀ b u,b≠e->h.get? b=some u->h'.get? b=some u) (heo:∃ u,h'.get? e=some u)
   (new:ObjOk P w (upd H x o') h' x o'):HOk P w (upd H x o') h':=fun b u q=>by
 have nown:∀ c y,H c=some (.own y)->c≠x:=fun c y r z=>by subst z;rw[r]at mu;exact mu
 have ntup:∀ c xs,H c=some (.tup xs)->c≠x:=fun c xs r z=>by subst z;rw[r]at mu;exact mu
 by_cases hb:b=x
 · subst hb;rw[qb]at q;cases q;exact new
 · rw[qi hb]at q;by_cases hbe:b=e
   · have q':H b=some (.own x):=by
       rcases he with z|z
       · exact absurd (hbe.trans z) hb
       · rw[hbe];exact z
     rw[q]at q';cases q';obtain⟨v,hv⟩:=heo;exact⟨v,by rw[hbe];exact hv⟩
   · refine(ok b u q).stay (fun c v hc r=>k c v ?_ r) (fun c r=>by rw[qi (nown c b r)];exact r) fun c xs r=>by rw[qi (ntup c xs r)];exact r
     rcases hc with rfl|hc
     · exact hbe
     · rintro rfl;rcases he with z|z
       · exact nown c b hc z
       · rw[hc]at z;cases z;exact hb rfl
end
structure Un (fs ex:List Addr) (H H':Hp) (h h':Heap):Prop where
 keep:∀ b o,h.get? b=some o->H b=none->b∉fs->b∉ex->h'.get? b=some o
 slot:∀ b o,h.get? b=some o->H b=none->b∈fs->b∉ex->∃ sl,h'.get? b=some { o with slots:=sl }
 free:∀ b o,h.get? b=some o->H b=none->b∉ex->H' b=none
 there:∀ b o,h.get? b=some o->b∉ex->∃ o',h'.get? b=some o'
 tups:∀ b xs,H b=some (.tup xs)->H' b=some (.tup xs)
 frzs:∀ b o u,H b=some (.frz o u)->H' b=some (.frz o u)
 tbls:∀ b ps,H b=some (.tbl ps)->∃ more,H' b=some (.tbl (ps++more))
section
variable {fs fs' ex ex':List Addr}{H H1 H2:Hp}{h h1 h2 h':Heap}{a x e:Addr}{o:HO}
theorem Un.any (u:Un fs ex H H1 h h1) {b:Addr}{ob:Obj} (q:h.get? b=some ob) (n:H b=none) (hx:b∉ex):∃ sl,h1.get? b=some { ob with slots:=sl }:=by
 by_cases hb:b∈fs
 · exact u.slot b ob q n hb hx
 · exact⟨ob.slots,u.keep b ob q n hb hx⟩
theorem Un.kept (k:∀ b u,h.get? b=some u->h'.get? b=some u):Un fs ex H H h h' :=
 ⟨fun b ob q _ _ _=>k b ob q,fun b ob q _ _ _=>⟨ob.slots,k b ob q⟩,fun _ _ _ n _=>n,fun b ob q _=>⟨ob,k b ob q⟩,fun _ _ q=>q,fun _ _ _ q=>q,fun _ ps q=>⟨#[],by rw[q];simp⟩⟩
theorem Un.refl:Un fs ex H H h h:=Un.kept fun _ _ q=>q
theorem Un.laid (k:∀ b u,h.get? b=some u->h'.get? b=some u) (hp:h.objs.size≤a) (hn:H a=none):Un fs ex H (upd H a o) h h' where
 keep:=fun b u q _ _ _=>k b u q
 slot:=fun b u q _ _ _=>⟨u.slots,k b u q⟩
 free:=fun b u q n _=>by rw[qi (Nat.ne_of_lt (Nat.lt_of_lt_of_le (Heap.lt_size q) hp))];exact n
 there:=fun b u q _=>⟨u,k b u q⟩
 tups:=fun b xs q=>by rw[qi (qh q hn)];exact q
 frzs:=fun b u xs q=>by rw[qi (qh q hn)];exact q
 tbls:=fun b ps q=>⟨#[],by rw[qi (qh q hn),q];simp⟩
theorem Un.write (mu:Mut (H x)) (he:e=x∨H e=some (.own x)) (k:∀ b u,b≠e->h.get? b=some u->h'.get? b=some u) (heo:∃ u,h'.get? e=some u):Un fs ex H (upd H x o) h h':=by
 have hx:∀ b,H b=none->b≠x:=fun b n z=>by subst z;rw[n]at mu;exact mu
 have hb:∀ b,H b=none->b≠e:=fun b n z=>by
   subst z;rcases he with r|r
   · exact hx b n r
   · rw[n]at r;cases r
 have hm:∀ b u,H b=some u->¬ Mut (some u)->b≠x:=fun b u q nm z=>by subst z;rw[q]at mu;exact nm mu
 refine⟨fun b u q n _ _=>k b u (hb b n) q,fun b u q n _ _=>⟨u.slots,k b u (hb b n) q⟩,fun b u q n _=>by rw[qi (hx b n)];exact n,fun b u q _=>?_,
   fun b xs q=>by rw[qi (hm b _ q fun z=>z)];exact q,fun b u xs q=>by rw[qi (hm b _ q fun z=>z)];exact q,fun b ps q=>⟨#[],by rw[qi (hm b _ q fun z=>z),q];simp⟩⟩
 by_cases hbe:b=e
 · subst hbe;exact heo
 · exact⟨u,k b u hbe q⟩
end
def trk (h:Heap) (H:Hp):List Addr:=(List.range h.objs.size).filter fun a=>(H a).isSome
def qf9 (h:Heap) (H:Hp):Heap:=PySem.W.hideAll h (trk h H)
theorem qfC (h:Heap) (H:Hp):(qf9 h H).objs.size=h.objs.size:=PySem.W.hideAll_size _ _
theorem qg9 {h:Heap}{H:Hp}{b:Addr}{o:Obj} (e:h.get? b=some o) (n:H b=none):(qf9 h H).get? b=some o :=
 PySem.W.hideAll_get _ e fun hm=>by
   have q:(H b).isSome=true:=(List.mem_filter.mp hm).2;rw[n]at q;simp at q
theorem qiw {h:Heap}{H:Hp}{b:Addr}{o:Obj} (e:(qf9 h H).get? b=some o):h.get? b=some o∧H b=none:=by
 have e':h.get? b=some o:=PySem.W.of_hideAll (trk h H) e;refine⟨e',?_⟩
 cases q:H b with
 | none=>rfl
 | some x =>
   have hm:b∈trk h H:=List.mem_filter.mpr ⟨List.mem_range.mpr (Heap.lt_size e'),by simp[q]⟩;have z:(qf9 h H).get? b=none:=PySem.W.hideAll_none (trk h H) hm;rw[z]at e;cases e
structure Mod (K:Frag) (mg:Str->Option Value) (base:Heap):Prop where
 kin:K.In base
 glob:base.Ns mainGlobals mg
 blt:∃ mb,base.Ns builtinsNs mb∧∀ x:Str,x≠"__name__"->mb x=bootBuiltins x
 nolimit:base.NoLimit
structure Cx where
 prog:Program
 w:World
 K:Frag
 mg:Str->Option Value
 base:Heap
 A:Around
 N:List Str
 s₀:Shared
 H₀:Hp
 env:Env
 outer:List Env
 stack:List Env
 ex:List Addr
 fn:Str->Bool
 calm:Bool
 pn:List (Addr×Obj)
 xe:Value->Shared->Prop
def frs (l:List Env):List Addr:=l.filterMap (·.frame)
abbrev Cx.fs (X:Cx):List Addr:=frs X.outer
def Vis (sc:Scope) (x:Str):Prop:=sc.names.lookup x=some .local∨sc.names.lookup x=some .cell∨sc.names.lookup x=some .free
def Loc (sc:Scope) (x:Str):Prop:=sc.names.lookup x=some .local∨sc.names.lookup x=some .cell
def ql0 (env:Env) (h:Heap) (m:Str->Option Value) (x:Str) (u:Value):Prop :=
 (env.kindOf x=some .local∧m x=some u)∨((env.kindOf x=some .cell∨env.kindOf x=some .free)∧∃ c,env.cells.lookup x=some c∧h.IsCell c (some u))
structure Cx.Ok (X:Cx):Prop where
 mod:Mod X.K X.mg X.base
 kind:X.env.scope.kind=.function
 glob:X.env.globals=mainGlobals
 blt:X.env.builtins=builtinsNs
 above:X.s₀.heap.objs.size≤X.env.locals
 inj:∀ x y c,X.env.cells.lookup x=some c->X.env.cells.lookup y=some c->x=y
 has:∀ x,(X.env.kindOf x=some .cell∨X.env.kindOf x=some .free)->∃ c,X.env.cells.lookup x=some c
 cab:∀ x c,X.fn x=true->X.env.cells.lookup x=some c->X.s₀.heap.objs.size≤c
 hd:X.calm=true->X.A.handled=none
 frames:X.A.frames=some X.stack
 stk:X.stack=X.outer∨(X.stack=X.env::X.outer∧X.env.frame=some X.env.locals)
 exf:∀ b∈X.ex,b≠X.env.locals∧∀ x c,X.env.cells.lookup x=some c->c≠b
 bs:∀ b o,X.base.get? b=some o->X.s₀.heap.get? b=some o∧X.H₀ b=none
 bsz:X.base.objs.size≤X.s₀.heap.objs.size
 noex:∀ b o,X.base.get? b=some o->b∉X.ex
 exfs:∀ b∈X.ex,b∉X.fs
 funs:X.s₀.heap.FunFrames X.base X.outer
 frf:∀ b∈X.fs,X.H₀ b=none
structure Inv (X:Cx) (pins:List (Addr×Obj)) (σ:List (Option V)) (H:Hp) (s:Shared):Prop where
 ok:X.Ok
 os:s.os=X.s₀.os
 bare:AllBare s.gens
 base:Un X.fs X.ex X.H₀ H X.s₀.heap s.heap
 loc:∃ m,s.heap.Ns X.env.locals m∧∀ (i:Nat) (x:Str) (v:V),X.N[i]?=some x->σ[i]?=some (some v)->Vis X.env.scope x->∃ u,RelV v u∧ql0 X.env s.heap m x u
 cell:∀ x c,X.env.cells.lookup x=some c->∃ v,s.heap.IsCell c v
 free:H X.env.locals=none
 freeC:∀ x c,X.env.cells.lookup x=some c->H c=none
 pin:∀ p∈X.pn++pins,s.heap.get? p.1=some p.2∧H p.1=none∧p.1≠X.env.locals∧p.1∉X.fs∧∀ v,p.2.data≠.cell v
 hok:HOk X.prog X.w H s.heap
 len:σ.length=X.N.length
section
variable {X:Cx}{pins:List (Addr×Obj)}{σ:List (Option V)}{H H':Hp}{s:Shared}{h':Heap}
theorem Cx.Ok.nofr (ok:X.Ok) {b:Addr}{o:Obj} (e:X.base.get? b=some o):b∉X.fs:=fun hb=>by
 have:=(ok.funs.mem hb).1
 rw[e]at this;cases this
theorem Inv.bs (I:Inv X pins σ H s):∀ b o,X.base.get? b=some o->s.heap.get? b=some o∧H b=none:=fun b o e =>
 ⟨I.base.keep b o (I.ok.bs b o e).1 (I.ok.bs b o e).2 (I.ok.nofr e) (I.ok.noex b o e),I.base.free b o (I.ok.bs b o e).1 (I.ok.bs b o e).2 (I.ok.noex b o e)⟩
theorem Inv.bk (I:Inv X pins σ H s):∀ b o,X.base.get? b=some o->s.heap.get? b=some o:=fun b o e=>(I.bs b o e).1
theorem Inv.mod (I:Inv X pins σ H s):Mod X.K X.mg X.base:=I.ok.mod
theorem Inv.kIn (I:Inv X pins σ H s):X.K.In s.heap:=I.ok.mod.kin.keeps I.bk
theorem Inv.fr (I:Inv X pins σ H s):∃ m,Fr X.base X.env.locals s.heap m :=
 let ⟨m,hn,_⟩:=I.loc
 ⟨m,hn,I.bk,Nat.le_trans I.ok.bsz I.ok.above⟩
theorem Inv.lt (I:Inv X pins σ H s):X.env.locals < s.heap.objs.size:=let ⟨_,hn,_⟩:=I.loc;hn.lt
theorem Inv.sz (I:Inv X pins σ H s):X.s₀.heap.objs.size≤s.heap.objs.size:=Nat.le_trans I.ok.above (Nat.le_of_lt I.lt)
theorem Inv.nofs (I:Inv X pins σ H s) {a:Addr} (h:s.heap.objs.size≤a):a∉X.fs:=fun hb=>by
 obtain⟨_,o,ho,_⟩:=I.ok.funs.mem hb;exact absurd (Nat.lt_of_lt_of_le (Heap.lt_size ho) (Nat.le_trans I.sz h)) (Nat.lt_irrefl _)
theorem Inv.cne (I:Inv X pins σ H s):∀ x c,X.env.cells.lookup x=some c->c≠X.env.locals:=fun x c e z=>by
 obtain⟨v,o,ho,hd⟩:=I.cell x c e;obtain⟨m,⟨o',es,ep,ho',hd',_⟩,_⟩:=I.loc;rw[z,ho']at ho;cases ho;rw[hd']at hd;cases hd
theorem Inv.funs (I:Inv X pins σ H s):s.heap.FunFrames X.base X.outer:=by
 have all:∀ (l:List Env),(∀ b∈frs l,b∈X.fs)->X.s₀.heap.FunFrames X.base l->s.heap.FunFrames X.base l:=by
   intro l
   induction l with
   | nil=>intro _ _;trivial
   | cons env r ih =>
     intro hs hl;obtain⟨hk,⟨L,o,hf,hn,ho,hd⟩,hr⟩:=hl;have hL:L∈X.fs:=hs L (by unfold frs;rw[List.filterMap_cons,hf];exact List.mem_cons_self);obtain⟨sl,e⟩:=I.base.slot L o ho (I.ok.frf L hL) hL fun z=>I.ok.exfs L z hL;exact⟨hk,⟨L,_,hf,hn,e,hd⟩,ih (fun b hb=>hs b (by unfold frs;rw[List.filterMap_cons,hf];exact List.mem_cons_of_mem _ hb)) hr⟩
 exact all X.outer (fun _ hb=>hb) I.ok.funs
theorem Inv.stack (I:Inv X pins σ H s):s.heap.FunFrames X.base X.stack:=by
 rcases I.ok.stk with e|⟨e,hf⟩
 · rw[e];exact I.funs
 · rw[e];obtain⟨m,hn,_⟩:=I.loc;refine .cons (by rw[I.ok.kind];decide) hf hn ?_ I.funs;exact Heap.get?_none_of_le (Nat.le_trans I.ok.bsz I.ok.above)
theorem Inv.stkSub (I:Inv X pins σ H s):∀ b∈frs X.stack,b∈X.env.locals::X.fs:=fun b hb=>by
 rcases I.ok.stk with e|⟨e,hf⟩
 · rw[e]at hb;exact List.mem_cons_of_mem _ hb
 · rw[e]at hb;unfold frs at hb;rw[List.filterMap_cons,hf]at hb;exact hb
theorem Inv.stkFree (I:Inv X pins σ H s):∀ b∈frs X.stack,H b=none:=fun b hb=>by
 rcases List.mem_cons.mp (I.stkSub b hb) with e|hb
 · rw[e];exact I.free
 · obtain⟨_,o,ho,_⟩:=I.ok.funs.mem hb;exact I.base.free b o ho (I.ok.frf b hb) fun z=>I.ok.exfs b z hb
theorem Inv.step {g':Array GenState}{t':Nat}{d':Drawn}{ch:List Addr} (I:Inv X pins σ H s)
   (hch:∀ b∈ch,(b∈X.ex∨X.s₀.heap.objs.size≤b)∧b≠X.env.locals∧(∀ x c,X.env.cells.lookup x=some c->c≠b)∧∀ p∈X.pn++pins,p.1≠b)
   (keep:∀ b o,b≠X.env.locals->b∉X.fs->b∉ch->s.heap.get? b=some o->H b=none->h'.get? b=some o)
   (slot:∀ b o,b≠X.env.locals->b∈X.fs->b∉ch->s.heap.get? b=some o->H b=none->∃ sl,h'.get? b=some { o with slots:=sl }) (free:∀ b o,b∉ch->s.heap.get? b=some o->H b=none->H' b=none)
   (there:∀ b o,b∉ch->s.heap.get? b=some o->∃ o',h'.get? b=some o')
   (tups:∀ b xs,H b=some (.tup xs)->H' b=some (.tup xs)) (frzs:∀ b o u,H b=some (.frz o u)->H' b=some (.frz o u)) (tbls:∀ b ps,H b=some (.tbl ps)->∃ more,H' b=some (.tbl (ps++more)))
   (ns:∀ m,s.heap.Ns X.env.locals m->h'.Ns X.env.locals m) (hok:HOk X.prog X.w H' h') (hg:AllBare g') :
   Inv X pins σ H' { s with heap:=h',gens:=g',drawn:=d',toks:=t' }:=by
 have neL:∀ b o,X.s₀.heap.get? b=some o->b≠X.env.locals:=fun b o e=>Nat.ne_of_lt (Nat.lt_of_lt_of_le (Heap.lt_size e) I.ok.above)
 have neC:∀ b o,X.s₀.heap.get? b=some o->b∉X.ex->b∉ch:=fun b o e hx hb=>by
   rcases (hch b hb).1 with z|z
   · exact hx z
   · exact absurd (Nat.lt_of_lt_of_le (Heap.lt_size e) z) (Nat.lt_irrefl _)
 have cellK:∀ x c,X.env.cells.lookup x=some c->∀ v,s.heap.IsCell c v->h'.IsCell c v:=fun x c e v ⟨o,ho,hd⟩=>by
   have nch:c∉ch:=fun z=>(hch c z).2.2.1 x c e rfl;by_cases hc:c∈X.fs
   · obtain⟨sl,q⟩:=slot c o (I.cne x c e) hc nch ho (I.freeC x c e);exact⟨_,q,hd⟩
   · exact⟨o,keep c o (I.cne x c e) hc nch ho (I.freeC x c e),hd⟩
 refine⟨I.ok,I.os,hg,⟨fun b o e n hb hx=>?_,fun b o e n hb hx=>?_,fun b o e n hx=>?_,fun b o e hx=>?_,fun b xs e=>tups b xs (I.base.tups b xs e),fun b o xs e=>frzs b o xs (I.base.frzs b o xs e),fun b ps e=>?_⟩,?_,fun x c e=>?_,?_,fun x c e=>?_,fun p hp=>?_,hok,I.len⟩
 · exact keep b o (neL b o e) hb (neC b o e hx) (I.base.keep b o e n hb hx) (I.base.free b o e n hx)
 · obtain⟨sl,e1⟩:=I.base.slot b o e n hb hx;obtain⟨sl',e2⟩:=slot b _ (neL b o e) hb (neC b o e hx) e1 (I.base.free b o e n hx);exact⟨sl',e2⟩
 · obtain⟨o',e1⟩:=I.base.there b o e hx;exact free b o' (neC b o e hx) e1 (I.base.free b o e n hx)
 · obtain⟨o',e1⟩:=I.base.there b o e hx;exact there b o' (neC b o e hx) e1
 · obtain⟨m1,e1⟩:=I.base.tbls b ps e;obtain⟨m2,e2⟩:=tbls b _ e1;exact⟨m1++m2,by rw[e2,Array.append_assoc]⟩
 · obtain⟨m,hn,hl⟩:=I.loc;refine⟨m,ns m hn,fun i x v e1 e2 e3=>?_⟩;obtain⟨u,r,l⟩:=hl i x v e1 e2 e3;refine⟨u,r,?_⟩;rcases l with l|⟨k,c,e,z⟩
   · exact .inl l
   · exact .inr ⟨k,c,e,cellK x c e _ z⟩
 · obtain⟨v,z⟩:=I.cell x c e;exact⟨v,cellK x c e v z⟩
 · obtain⟨m,⟨o,_,_,ho,_⟩,_⟩:=I.loc;exact free _ o (fun z=>(hch _ z).2.1 rfl) ho I.free
 · obtain⟨v,o,ho,hd⟩:=I.cell x c e;exact free c o (fun z=>(hch c z).2.2.1 x c e rfl) ho (I.freeC x c e)
 · obtain⟨e,n,ne,nf,d⟩:=I.pin p hp;have nch:p.1∉ch:=fun z=>(hch p.1 z).2.2.2 p hp rfl;exact⟨keep p.1 p.2 ne nf nch e n,free p.1 p.2 nch e n,ne,nf,d⟩
theorem Inv.un {t':Nat} (I:Inv X pins σ H s) (u:Un X.fs [] H H' s.heap h') (hok:HOk X.prog X.w H' h'):Inv X pins σ H' { s with heap:=h',toks:=t' }:=by
 obtain⟨m,⟨o,es,ep,ho,r⟩,_⟩:=id I.loc;obtain⟨sl,hL⟩:=u.any ho I.free (by simp)
 exact I.step (g':=s.gens) (d':=s.drawn) (ch:=[]) (fun _ z=>nomatch z) (fun b o _ hb _ e n=>u.keep b o e n hb (by simp)) (fun b o _ hb _ e n=>u.slot b o e n hb (by simp)) (fun b o _ e n=>u.free b o e n (by simp)) (fun b o _ e=>u.there b o e (by simp)) u.tups u.frzs u.tbls (fun m' hm=>by
   obtain⟨o',es',ep',ho',r'⟩:=hm;rw[ho]at ho';cases ho'
   exact⟨_,es',ep',hL,r'⟩) hok I.bare
theorem Inv.call {g':Array GenState}{t':Nat}{d':Drawn}{ch:List Addr} (I:Inv X pins σ H s) (u:Un (frs X.stack) ch H H' s.heap h') (hok:HOk X.prog X.w H' h') (hg:AllBare g')
   (hch:∀ b∈ch,(b∈X.ex∨X.s₀.heap.objs.size≤b)∧b≠X.env.locals∧(∀ x c,X.env.cells.lookup x=some c->c≠b)∧∀ p∈X.pn++pins,p.1≠b) :
   Inv X pins σ H' { s with heap:=h',gens:=g',drawn:=d',toks:=t' }:=by
 obtain⟨m,⟨o,es,ep,ho,r⟩,_⟩:=id I.loc;obtain⟨sl,hL⟩:=u.any ho I.free fun z=>(hch _ z).2.1 rfl
 exact I.step (ch:=ch) hch (fun b o hL hb hc e n=>u.keep b o e n (fun z=>(List.mem_cons.mp (I.stkSub b z)).elim hL hb) hc) (fun b o _ _ hc e n=>u.any e n hc) (fun b o hc e n=>u.free b o e n hc) (fun b o hc e=>u.there b o e hc) u.tups u.frzs u.tbls (fun m' hm=>by
   obtain⟨o',es',ep',ho',r'⟩:=hm;rw[ho]at ho';cases ho'
   exact⟨_,es',ep',hL,r'⟩) hok hg
theorem Inv.turned {t':Nat}{it:Addr} (I:Inv X pins σ H s) (k:∀ b o,b≠it->s.heap.get? b=some o->h'.get? b=some o) (hn:H it=none) (hL:it≠X.env.locals)
   (h1:it∈X.ex∨X.s₀.heap.objs.size≤it) (h2:∀ x c,X.env.cells.lookup x=some c->c≠it) (h3:∀ p∈X.pn++pins,p.1≠it):Inv X pins σ H { s with heap:=h',toks:=t' }:=by
 have nit:∀ b u,H b=some u->b≠it:=fun b u e z=>by rw[z,hn]at e;cases e
 refine I.step (g':=s.gens) (d':=s.drawn) (ch:=[it]) (fun b hb=>?_) (fun b o _ _ hc e _=>k b o (fun z=>hc (by simp[z])) e) (fun b o _ _ hc e _=>⟨o.slots,k b o (fun z=>hc (by simp[z])) e⟩) (fun _ _ _ _ n=>n)
   (fun b o hc e=>⟨o,k b o (fun z=>hc (by simp[z])) e⟩) (fun _ _ e=>e) (fun _ _ _ e=>e) (fun b ps e=>⟨#[],by rw[e];simp⟩) (fun m hm=>?_) (fun b u e=>?_) I.bare
 · have e:b=it:=by simpa using hb
   subst e;exact⟨h1,hL,h2,h3⟩
 · obtain⟨o,es,ep,ho,r⟩:=hm;exact⟨o,es,ep,k _ o (Ne.symm hL) ho,r⟩
 · refine(I.hok b u e).stay (fun c v hc q=>k c v ?_ q) (fun _ q=>q) fun _ _ q=>q;rcases hc with z|z
   · rw[z];exact nit b u e
   · exact nit c _ z
theorem Inv.tok (I:Inv X pins σ H s) (t:Nat):Inv X pins σ H { s with toks:=t }:=I.un (h':=s.heap) (t':=t) Un.refl I.hok
theorem Inv.kept {t':Nat} (I:Inv X pins σ H s) (k:∀ b u,s.heap.get? b=some u->h'.get? b=some u):Inv X pins σ H { s with heap:=h',toks:=t' }:=I.un (Un.kept k) (I.hok.kept k)
theorem Inv.laid {a:Addr}{o:HO}{t':Nat} (I:Inv X pins σ H s) (k:∀ b u,s.heap.get? b=some u->h'.get? b=some u) (hp:s.heap.objs.size≤a) (new:ObjOk X.prog X.w (upd H a o) h' a o) :
   Inv X pins σ (upd H a o) { s with heap:=h',toks:=t' }:=I.un (Un.laid k hp (I.hok.fresh hp)) (I.hok.laid k hp new)
theorem Inv.write {x e:Addr}{o:HO}{t':Nat} (I:Inv X pins σ H s) (mu:Mut (H x)) (he:e=x∨H e=some (.own x)) (k:∀ b u,b≠e->s.heap.get? b=some u->h'.get? b=some u) (heo:∃ u,h'.get? e=some u)
   (new:ObjOk X.prog X.w (upd H x o) h' x o):Inv X pins σ (upd H x o) { s with heap:=h',toks:=t' }:=I.un (Un.write mu he k heo) (I.hok.write mu he k heo new)
theorem Inv.pins_of {pins':List (Addr×Obj)} (I:Inv X pins σ H s) (h:∀ p∈pins',s.heap.get? p.1=some p.2∧H p.1=none∧p.1≠X.env.locals∧p.1∉X.fs∧∀ v,p.2.data≠.cell v):Inv X pins' σ H s :=
 ⟨I.ok,I.os,I.bare,I.base,I.loc,I.cell,I.free,I.freeC,fun p hp=>(List.mem_append.mp hp).elim (fun z=>I.pin p (List.mem_append_left _ z)) (h p),I.hok,I.len⟩
theorem qbe {N:List Str} (hN:N.Nodup) {i j:Nat}{x:Str} (a:N[i]?=some x) (b:N[j]?=some x):i=j:=by
 obtain⟨h1,e1⟩:=List.getElem?_eq_some_iff.mp a;obtain⟨h2,e2⟩:=List.getElem?_eq_some_iff.mp b;exact(List.getElem_inj hN).mp (e1.trans e2.symm)
theorem qeq {M:Model}{A:Around}{E:Value->Shared->Prop}{i:Nat}{x:Str}{v:V}{u:Value}{Q:Unit->Shared->Prop} (I:Inv X pins σ H s) (hN:X.N.Nodup) (hi:X.N[i]?=some x) (hx:Loc X.env.scope x) (r:RelV v u)
   (h:∀ s',Inv X pins (σ.set i (some v)) H s'->(∃ a,Heap.SameBut a s.heap s'.heap∧(a=X.env.locals∨X.env.cells.lookup x=some a))->Q () s') (hf:X.fn x=true∨X.env.scope.names.lookup x=some .local:=by first|exact .inl rfl|exact .inr rfl|assumption):wpAny M A (storeName X.env x u) Q E s:=by
 obtain⟨m,hn,hl⟩:=id I.loc;have hcls:(X.env.scope.kind == .class || (X.env.scope.kind == .module && X.env.locals != X.env.globals))=false:=by rw[I.ok.kind];rfl
 have hiσ:i < σ.length:=by rw[I.len];exact(List.getElem?_eq_some_iff.mp hi).1
 have cne:=I.cne
 have tracked:∀ {a:Addr}{h':Heap},(∃ o,s.heap.get? a=some o∧H a=none)->Heap.SameBut a s.heap h'->HOk X.prog X.w H h':=fun {a h'} ha hs b ob e=>by
   obtain⟨_,_,hfree⟩:=ha;refine(I.hok b ob e).stay (fun c w' hc q=>(hs.2 c ?_).trans q) (fun _ q=>q) fun _ _ q=>q;rintro rfl;rcases hc with rfl|hc
   · rw[hfree]at e;cases e
   · rw[hfree]at hc;cases hc
 rcases hx with hk|hk
 · refine wpAny_storeName_local hk hn (fun h' hn' hs=>?_) hcls;obtain⟨oL,_,_,hoL,_⟩:=id hn;refine h _ ⟨I.ok,I.os,I.bare,⟨fun b o e n hb hx=>?_,fun b o e n hb hx=>?_,I.base.free,fun b o e hx=>?_,I.base.tups,I.base.frzs,I.base.tbls⟩,⟨_,hn',fun j y v' e1 e2 e3=>?_⟩,fun y c e=>?_,I.free,I.freeC,fun p hp=>?_,tracked ⟨oL,hoL,I.free⟩ hs,by simpa using I.len⟩ ⟨_,hs,.inl rfl⟩
   · exact(hs.2 b (Nat.ne_of_lt (Nat.lt_of_lt_of_le (Heap.lt_size e) I.ok.above))).trans (I.base.keep b o e n hb hx)
   · obtain⟨sl,e1⟩:=I.base.slot b o e n hb hx;exact⟨sl,(hs.2 b (Nat.ne_of_lt (Nat.lt_of_lt_of_le (Heap.lt_size e) I.ok.above))).trans e1⟩
   · obtain⟨o',e1⟩:=I.base.there b o e hx;exact⟨o',(hs.2 b (Nat.ne_of_lt (Nat.lt_of_lt_of_le (Heap.lt_size e) I.ok.above))).trans e1⟩
   · by_cases hj:j=i
     · subst hj;rw[hi]at e1;cases e1;rw[List.getElem?_set_self hiσ]at e2;cases e2;exact⟨u,r,.inl ⟨hk,by simp⟩⟩
     · rw[List.getElem?_set_ne (Ne.symm hj)]at e2;obtain⟨u',r',q⟩:=hl j y v' e1 e2 e3;refine⟨u',r',?_⟩;rcases q with ⟨k,e⟩|⟨k,c,e,z⟩
       · refine .inl ⟨k,?_⟩
         have:y≠x:=fun e=>hj (qbe hN e1 (e▸hi))
         simp[this,e]
       · exact .inr ⟨k,c,e,z.sameBut hs (cne y c e)⟩
   · obtain⟨w',z⟩:=I.cell y c e;exact⟨w',z.sameBut hs (cne y c e)⟩
   · obtain⟨e,n,ne,nf,d⟩:=I.pin p hp;exact⟨(hs.2 p.1 ne).trans e,n,ne,nf,d⟩
 · have hfn:X.fn x=true:=by
     rcases hf with z|z
     · exact z
     · rw[z]at hk;cases hk
   obtain⟨c,hc⟩:=I.ok.has x (.inl hk);obtain⟨w',z⟩:=I.cell x c hc;refine wpAny_storeName_cell I.ok.kind hk hc z (fun h' hc' hs=>?_);obtain⟨oc,hoc,hocd⟩:=id z;refine h { s with heap:=h' } ⟨I.ok,I.os,I.bare,⟨fun b o e n hb hx=>?_,fun b o e n hb hx=>?_,I.base.free,fun b o e hx=>?_,I.base.tups,I.base.frzs,I.base.tbls⟩,⟨m,hn.sameBut hs (Ne.symm (cne x c hc)),fun j y v' e1 e2 e3=>?_⟩,fun y c' e=>?_,I.free,I.freeC,fun p hp=>?_,tracked ⟨oc,hoc,I.freeC x c hc⟩ hs,by simpa using I.len⟩ ⟨c,hs,.inr hc⟩
   · exact(hs.2 b (Nat.ne_of_lt (Nat.lt_of_lt_of_le (Heap.lt_size e) (I.ok.cab x c hfn hc)))).trans (I.base.keep b o e n hb hx)
   · obtain⟨sl,e1⟩:=I.base.slot b o e n hb hx;exact⟨sl,(hs.2 b (Nat.ne_of_lt (Nat.lt_of_lt_of_le (Heap.lt_size e) (I.ok.cab x c hfn hc)))).trans e1⟩
   · obtain⟨o',e1⟩:=I.base.there b o e hx;exact⟨o',(hs.2 b (Nat.ne_of_lt (Nat.lt_of_lt_of_le (Heap.lt_size e) (I.ok.cab x c hfn hc)))).trans e1⟩
   · by_cases hj:j=i
     · subst hj;rw[hi]at e1;cases e1;rw[List.getElem?_set_self hiσ]at e2;cases e2;exact⟨u,r,.inr ⟨.inl hk,c,hc,hc'⟩⟩
     · rw[List.getElem?_set_ne (Ne.symm hj)]at e2;obtain⟨u',r',q⟩:=hl j y v' e1 e2 e3;refine⟨u',r',?_⟩;rcases q with q|⟨k,c',e,z'⟩
       · exact .inl q
       · refine .inr ⟨k,c',e,z'.sameBut hs ?_⟩;rintro rfl;exact hj (qbe hN e1 (I.ok.inj _ _ _ e hc▸hi))
   · by_cases hcc:c'=c
     · subst hcc;exact⟨_,hc'⟩
     · obtain⟨w2,z2⟩:=I.cell y c' e;exact⟨w2,z2.sameBut hs hcc⟩
   · obtain⟨e,n,ne,nf,d⟩:=I.pin p hp;refine⟨(hs.2 p.1 ?_).trans e,n,ne,nf,d⟩;intro q;rw[q,hoc]at e;have q':oc=p.2:=Option.some.inj e;exact d w' (by rw[← q'];exact hocd)
theorem Zv {M:Model}{A:Around}{E:Value->Shared->Prop}{i:Nat}{x:Str}{v:V}{u:Value}{Q:Unit->Shared->Prop} (I:Inv X pins σ H s) (hN:X.N.Nodup) (hi:X.N[i]?=some x) (hx:Loc X.env.scope x) (r:RelV v u)
   (h:∀ s',Inv X pins (σ.set i (some v)) H s'->Q () s') (hf:X.fn x=true∨X.env.scope.names.lookup x=some .local:=by first|exact .inl rfl|exact .inr rfl|assumption):wpAny M A (storeName X.env x u) Q E s :=
 qeq I hN hi hx r (fun s' I' _=>h s' I') hf
theorem Inv.call' {s':Shared}{ch:List Addr} (I:Inv X pins σ H s) (ho:s'.os=s.os) (u:Un (frs X.stack) ch H H' s.heap s'.heap) (hok:HOk X.prog X.w H' s'.heap) (hg:AllBare s'.gens)
   (hch:∀ b∈ch,(b∈X.ex∨X.s₀.heap.objs.size≤b)∧b≠X.env.locals∧(∀ x c,X.env.cells.lookup x=some c->c≠b)∧∀ p∈X.pn++pins,p.1≠b):Inv X pins σ H' s':=by
 obtain⟨h',g',d',t',o'⟩:=s';have e:o'=s.os:=ho;subst e;exact I.call (g':=g') (t':=t') (d':=d') u hok hg hch
end
abbrev XK:=Value->Option Addr->Hp->Prop
abbrev St:=List (Option V)
abbrev VK:=V->Hp->Prop
abbrev TE:=St->Hp->VK->Prop
abbrev TT:=St->Hp->(Bool->Hp->Prop)->Prop
abbrev TA:=St->Hp->(List V->Hp->Prop)->Prop
structure qd9 where
 nx:St->Hp->Prop
 rt:VK
 bk:St->Hp->Prop:=fun _ _=>False
 ct:St->Hp->Prop:=fun _ _=>False
abbrev TS:=qd9->St->Hp->Prop
inductive qlA (X:Cx) (pins:List (Addr×Obj)) (σ:St) (Q:VK) (u:Value) (s':Shared):Prop
 | mk (v H':_) (h1:Inv X pins σ H' s') (h2:RelV v u) (h3:Q v H'):qlA X pins σ Q u s'
def EP (X:Cx) (pins:List (Addr×Obj)) (σ:St) (Q:VK) (u:Value) (s':Shared):Prop:=qlA X pins σ Q u s'
def TP (X:Cx) (pins:List (Addr×Obj)) (σ:St) (Q:Bool->Hp->Prop) (b:Bool) (s':Shared):Prop:=∃ H',Inv X pins σ H' s'∧Q b H'
inductive qlC (X:Cx) (pins:List (Addr×Obj)) (σ:St) (Q:List V->Hp->Prop) (us:List Value) (s':Shared):Prop
 | mk (vs H':_) (h1:Inv X pins σ H' s') (h2:Vals vs us) (h3:Q vs H'):qlC X pins σ Q us s'
def AP (X:Cx) (pins:List (Addr×Obj)) (σ:St) (Q:List V->Hp->Prop) (us:List Value) (s':Shared):Prop:=qlC X pins σ Q us s'
def SP (X:Cx) (pins:List (Addr×Obj)) (D:qd9) (f:Flow) (s':Shared):Prop :=
 match f with
 | .next=>∃ σ' H',Inv X pins σ' H' s'∧D.nx σ' H'
 | .brk=>∃ σ' H',Inv X pins σ' H' s'∧D.bk σ' H'
 | .cont=>∃ σ' H',Inv X pins σ' H' s'∧D.ct σ' H'
 | .ret u=>∃ v σ' H',Inv X pins σ' H' s'∧RelV v u∧D.rt v H'
def PE (X:Cx) (e:Expr) (t:TE):Prop :=
 ∀ (pins:List (Addr×Obj)) (s:Shared) (σ:St) (H:Hp) (Q:VK),Inv X pins σ H s->t σ H Q->wpAny (model X.prog X.w) X.A (eval e X.env) (EP X pins σ Q) X.xe s
def PT (X:Cx) (e:Expr) (t:TT):Prop :=
 ∀ (pins:List (Addr×Obj)) (s:Shared) (σ:St) (H:Hp) (Q:Bool->Hp->Prop),Inv X pins σ H s->t σ H Q->wpAny (model X.prog X.w) X.A (isTrue e X.env (eval e X.env)) (TP X pins σ Q) X.xe s
def PW (X:Cx) (e:Expr) (t:TT):Prop :=
 ∀ (whole:Sem Value) (pins:List (Addr×Obj)) (s:Shared) (σ:St) (H:Hp) (Q:Bool->Hp->Prop),Inv X pins σ H s->t σ H Q->wpAny (model X.prog X.w) X.A (isTrue e X.env whole) (TP X pins σ Q) X.xe s
theorem PW.pt {X:Cx}{e:Expr}{t:TT} (h:PW X e t):PT X e t:=h _
def PA (X:Cx) (es:List Expr) (t:TA):Prop :=
 ∀ (pos:Pos) (pins:List (Addr×Obj)) (s:Shared) (σ:St) (H:Hp) (Q:List V->Hp->Prop),Inv X pins σ H s->t σ H Q->wpAny (model X.prog X.w) X.A (spliced (backTo pos (starEach es X.env))) (AP X pins σ Q) X.xe s
def PS (X:Cx) (st:Stmt) (t:TS):Prop :=
 ∀ (pins:List (Addr×Obj)) (s:Shared) (σ:St) (H:Hp) (D:qd9),Inv X pins σ H s->t D σ H->wpAny (model X.prog X.w) X.A (exec st X.env) (SP X pins D) X.xe s
def PSs (X:Cx) (st:List Stmt) (t:TS):Prop :=
 ∀ (pins:List (Addr×Obj)) (s:Shared) (σ:St) (H:Hp) (D:qd9),Inv X pins σ H s->t D σ H->wpAny (model X.prog X.w) X.A (execs st X.env) (SP X pins D) X.xe s
theorem thn {α:Type}{t:Sem α}{Q Q':α->Shared->Prop}{M:Model}{A:Around}{E:Value->Shared->Prop}{s:Shared} (h:wpAny M A t Q E s) (hQ:∀ a s,Q a s->Q' a s):wpAny M A t Q' E s:=wpAny_mono h hQ fun _ _ x=>x
section
variable {X:Cx}
inductive qht (i:Nat) (σ:St) (H:Hp) (Q:VK):Prop
 | mk (v:_) (h1:σ[i]?=some (some v)) (h2:Q v H):qht i σ H Q
def qjl (i:Nat):TE:=fun σ H Q=>qht i σ H Q
def tC (v:V):TE:=fun _ H Q=>Q v H
theorem qjF {i:Nat}{x:Str}{pos:Pos} (hN:X.N[i]?=some x) (hv:Vis X.env.scope x) (hd:(x == ("__debug__":Str))=false:=by decide) (hcd:(x == ("__classdict__":Str))=false:=by decide):PE X (.Name x pos) (qjl i):=by
 intro pins s σ H Q I h;obtain⟨v,e,h⟩:=h;obtain⟨m,hn,hl⟩:=I.loc;obtain⟨u,r,l⟩:=hl i x v hN e hv;have fin:EP X pins σ Q u s:=⟨v,H,I,r,h⟩
 rcases l with ⟨hk,hm⟩|⟨hk,c,hc,hcell⟩
 · exact wpAny_Name (wpAny_loadName_local I.ok.kind hk hn hm fin) hd
 · rcases hk with hk|hk
   · exact wpAny_Name (wpAny_loadName_cell I.ok.kind hk hc hcell fin) hd
   · exact wpAny_Name (wpAny_loadName_free I.ok.kind hk hc hcell fin hcd) hd
theorem qd {i j pos}:PE X (.Constant (.int i) j pos) (tC (.int i)):=fun _ _ _ H _ I h=>wpAny_Constant_int ⟨.int i,H,I.tok _,⟨_,rfl⟩,h⟩
theorem ZT {b j pos}:PE X (.Constant (.bool b) j pos) (tC (.bl b)):=fun _ _ _ H _ I h=>Constant_bool ⟨.bl b,H,I,rfl,h⟩
theorem qH {x j pos}:PE X (.Constant (.str x) j pos) (tC (.str x)):=fun _ _ _ H _ I h=>Calls.Constant_str ⟨.str x,H,I.tok _,⟨_,rfl⟩,h⟩
def Gl (X:Cx) (x:Str):Prop:=X.env.kindOf x=some .globalImplicit
theorem jy {E:Value->Shared->Prop}{pins:List (Addr×Obj)}{s:Shared}{σ:St}{H:Hp}{x:Str}{u:Value}{pos:Pos}{Q:Value->Shared->Prop} (I:Inv X pins σ H s) (hg:Gl X x) (hm:X.mg x=some u) (h:Q u s)
   (hd:(x == ("__debug__":Str))=false:=by decide):wpAny (model X.prog X.w) X.A (eval (.Name x pos) X.env) Q E s :=
 Calls.Name_function_global I.ok.kind hg (Calls.loadGlobal_global (by rw[I.ok.glob];exact I.mod.glob.keeps I.bk) hm h) hd
theorem Q0 {E:Value->Shared->Prop}{pins:List (Addr×Obj)}{s:Shared}{σ:St}{H:Hp}{x:Str}{u:Value}{pos:Pos}{Q:Value->Shared->Prop} (I:Inv X pins σ H s) (hg:Gl X x) (hm:X.mg x=none) (hv:bootBuiltins x=some u) (h:Q u s)
   (hn:x≠"__name__":=by decide) (hd:(x == ("__debug__":Str))=false:=by decide):wpAny (model X.prog X.w) X.A (eval (.Name x pos) X.env) Q E s:=by
 obtain⟨mb,h1,h2⟩:=I.mod.blt;exact Calls.Name_function_global I.ok.kind hg (Calls.loadGlobal_builtin (by rw[I.ok.glob];exact I.mod.glob.keeps I.bk) hm (by rw[I.ok.blt];exact h1.keeps I.bk) ((h2 x hn).trans hv) h) hd
theorem qY {x:Str}{v:V}{u:Value}{pos:Pos} (hg:Gl X x) (hm:X.mg x=some u) (r:RelV v u) (hd:(x == ("__debug__":Str))=false:=by decide):PE X (.Name x pos) (tC v) :=
 fun _ _ _ H _ I h=>jy I hg hm ⟨v,H,I,r,h⟩ hd
theorem Qe {x:Str}{v:V}{u:Value}{pos:Pos} (hg:Gl X x) (hm:X.mg x=none) (hv:bootBuiltins x=some u) (r:RelV v u) (hn:x≠"__name__":=by decide) (hd:(x == ("__debug__":Str))=false:=by decide):PE X (.Name x pos) (tC v) :=
 fun _ _ _ H _ I h=>Q0 I hg hm hv ⟨v,H,I,r,h⟩ hn hd
variable {a b:Expr}{ta tb:TE}{pos:Pos}
inductive qle (Q:(Bool->Hp->Prop)) (x:V) (H1:Hp):Prop
 | mk (c:_) (h1:x=.bl c) (h2:Q c H1):qle Q x H1
def tB (t:TE):TT:=fun σ H Q=>t σ H fun x H1=>qle Q x H1
theorem qP {e:Expr}{t:TE} (h:PE X e t) (he:∀ whole,isTrue e X.env whole=(do let v ← whole;standAt e.pos;holding [v] (truthy v)):=by intro _;rfl):PT X e (tB t):=by
 intro pins s σ H Q I hw;refine isTrue_plain (thn (h pins s σ H _ I hw) fun v s1 zz_=>?_) (he _);obtain⟨x,H1,I1,r1,q1⟩:=zz_;obtain⟨d,rfl,q⟩:=q1;cases r1;exact wpAny_truthy_bool ⟨H1,I1,q⟩
variable {tA tB':TT}{rest:List Expr}
def qlK (t u:TT):TT:=fun σ H Q=>t σ H fun c H1=>if c=true then u σ H1 Q else Q false H1
def tOr (t u:TT):TT:=fun σ H Q=>t σ H fun c H1=>if c=true then Q true H1 else u σ H1 Q
def qlG (t:TT):TT:=fun σ H Q=>t σ H fun c H1=>Q (!c) H1
theorem qcq (ha:PT X a tA):PW X (.BoolOp .And [a] pos) tA:=by
 intro wh pins s σ H Q I h;refine isTrue_and (thn (ha pins s σ H Q I h) fun c s1 e=>?_)
 cases c with
 | true=>exact isTrue_and_nil e
 | false=>exact e
theorem Zk (ha:PT X a tA):PW X (.BoolOp .Or [a] pos) tA:=by
 intro wh pins s σ H Q I h;refine isTrue_or (thn (ha pins s σ H Q I h) fun c s1 e=>?_)
 cases c with
 | false=>exact isTrue_or_nil e
 | true=>exact e
theorem qdg (ha:PT X a tA) (hb:PW X (.BoolOp .And (b::rest) pos) tB'):PW X (.BoolOp .And (a::b::rest) pos) (qlK tA tB'):=by
 intro wh pins s σ H Q I h;refine isTrue_and (thn (ha pins s σ H _ I h) fun c s1 zz_=>?_);obtain⟨H1,I1,q1⟩:=zz_
 cases c with
 | true=>exact hb wh pins s1 σ H1 Q I1 q1
 | false=>exact⟨H1,I1,q1⟩
theorem jv (ha:PT X a tA) (hb:PW X (.BoolOp .Or (b::rest) pos) tB'):PW X (.BoolOp .Or (a::b::rest) pos) (tOr tA tB'):=by
 intro wh pins s σ H Q I h;refine isTrue_or (thn (ha pins s σ H _ I h) fun c s1 zz_=>?_);obtain⟨H1,I1,q1⟩:=zz_
 cases c with
 | true=>exact⟨H1,I1,q1⟩
 | false=>exact hb wh pins s1 σ H1 Q I1 q1
theorem qX (ha:PT X a tA):PT X (.UnaryOp .Not a pos) (qlG tA):=by
 intro pins s σ H Q I h;exact isTrue_not (ha pins s σ H (fun c H1=>Q (!c) H1) I h)
def qkD (ta tb:TE):TE:=fun σ H Q=>ta σ H fun x H1=>∃ c,x=.bl c∧if c=true then tb σ H1 Q else Q (.bl false) H1
def qlF (ta tb:TE):TE:=fun σ H Q=>ta σ H fun x H1=>∃ c,x=.bl c∧if c=true then Q (.bl true) H1 else tb σ H1 Q
inductive qem (Q:VK) (x:V) (H1:Hp):Prop
 | mk (c:_) (h1:x=.bl c) (h2:Q (.bl (!c)) H1):qem Q x H1
def qku (ta:TE):TE:=fun σ H Q=>ta σ H fun x H1=>qem Q x H1
theorem qaG {op}{t:TE} (h:PE X a t):PE X (.BoolOp op [a] pos) t:=fun pins s σ H Q I hw=>BoolOp_one (h pins s σ H Q I hw)
theorem qaH (ha:PE X a ta) (hb:PE X (.BoolOp .And (b::rest) pos) tb):PE X (.BoolOp .And (a::b::rest) pos) (qkD ta tb):=by
 intro pins s σ H Q I h;refine BoolOp_and (thn (ha pins s σ H _ I h) fun v s1 zz_=>?_);obtain⟨x,H1,I1,r1,q1⟩:=zz_;obtain⟨c,rfl,q1⟩:=q1;cases r1;refine wpAny_truthy_bool ?_
 cases c with
 | true=>exact hb pins s1 σ H1 Q I1 q1
 | false=>exact⟨.bl false,H1,I1,rfl,q1⟩
theorem qjG (ha:PE X a ta) (hb:PE X (.BoolOp .Or (b::rest) pos) tb):PE X (.BoolOp .Or (a::b::rest) pos) (qlF ta tb):=by
 intro pins s σ H Q I h;refine BoolOp_or (thn (ha pins s σ H _ I h) fun v s1 zz_=>?_);obtain⟨x,H1,I1,r1,q1⟩:=zz_;obtain⟨c,rfl,q1⟩:=q1;cases r1;refine wpAny_truthy_bool ?_
 cases c with
 | false=>exact hb pins s1 σ H1 Q I1 q1
 | true=>exact⟨.bl true,H1,I1,rfl,q1⟩
theorem qhJ (ha:PE X a ta):PE X (.UnaryOp .Not a pos) (qku ta):=by
 intro pins s σ H Q I h;refine UnaryOp_ (thn (ha pins s σ H _ I h) fun v s1 zz_=>?_);obtain⟨x,H1,I1,r1,q1⟩:=zz_;obtain⟨c,rfl,q1⟩:=q1;cases r1;exact not_of (wpAny_truthy_bool ⟨.bl (!c),H1,I1,rfl,q1⟩)
end
def SqL (K:Frag) (H:Hp) (a:Addr) (xs:List V):Prop :=
 Rd H a (.lst xs) ∨
   ∃ (o:Obj) (its:Array Value) (n:Nat),K.lookup a=some o∧o.cls=.type "list"∧o.dict=none∧o.data=.seq its n∧its.size≤sizeLine∧Vals xs its.toList
def SqT (K:Frag) (H:Hp) (a:Addr) (xs:List V):Prop :=
 Rd H a (.tup xs) ∨
   ∃ (o:Obj) (its:Array Value) (n:Nat),K.lookup a=some o∧o.cls=.type "tuple"∧o.data=.seq its n∧its.size≤sizeLine∧Vals xs its.toList
def qlY:Value->Option V
 | .none=>some .non
 | .bool b=>some (.bl b)
 | .int i _=>some (.int i)
 | .str x _=>some (.str x)
 | .bytes b _=>some (.byt b)
 | .float b _=>some (.flt b)
 | .ref a=>some (.ref a)
 | .type n=>some (.ty n)
 | _=>none
theorem RelV.abs {x:V}{u:Value} (r:RelV x u):qlY u=some x:=by
 cases x with
 | non=>cases r;rfl
 | bl _=>cases r;rfl
 | int _=>obtain⟨t,rfl⟩:=r;rfl
 | str _=>obtain⟨t,rfl⟩:=r;rfl
 | byt _=>obtain⟨t,rfl⟩:=r;rfl
 | flt _=>obtain⟨t,rfl⟩:=r;rfl
 | ref _=>cases r;rfl
 | ty _=>cases r;rfl
theorem RelV.inj {x y:V}{u:Value} (r:RelV x u) (q:RelV y u):x=y:=Option.some.inj (r.abs.symm.trans q.abs)
theorem Vals.inj:∀ {xs ys:List V}{us:List Value},Vals xs us->Vals ys us->xs=ys
 | _,_,_,.nil,.nil=>rfl
 | _,_,_,.cons r t,.cons r' t'=>by rw[r.inj r',Vals.inj t t']
section
variable {X:Cx}{pins:List (Addr×Obj)}{σ:St}{H:Hp}{s:Shared}{a:Addr}{xs ys:List V}
theorem SqL.of {K:Frag} (h:H a=some (.lst xs)):SqL K H a xs:=.inl (.inl h)
theorem SqT.of {K:Frag} (h:H a=some (.tup xs)):SqT K H a xs:=.inl (.inl h)
theorem Inv.list (I:Inv X pins σ H s) (h:SqL X.K H a xs):∃ its:List Value,Vals xs its∧PlainL s.heap a its.toArray∧xs.length≤sizeLine:=by
 rcases h with h|⟨o,its,n,hk,hc,hd,hs,hz,r⟩
 · obtain⟨z,its,n,r,e⟩:=h.ok I.hok;exact⟨its,r,⟨_,n,e,rfl,rfl,rfl⟩,z⟩
 · refine⟨its.toList,r,⟨o,n,I.kIn a o hk,hc,hd,by simpa using hs⟩,?_⟩;have e:=r.length;simp only[Array.length_toList]at e;omega
theorem Inv.tuple (I:Inv X pins σ H s) (h:SqT X.K H a xs):∃ its:List Value,Vals xs its∧IsTup s.heap a its.toArray∧xs.length≤sizeLine:=by
 rcases h with h|⟨o,its,n,hk,hc,hs,hz,r⟩
 · obtain⟨z,its,r,p⟩:=h.ok I.hok;exact⟨its,r,p,z⟩
 · refine⟨its.toList,r,⟨o,I.kIn a o hk,hc,n,by simpa using hs⟩,?_⟩;have e:=r.length;simp only[Array.length_toList]at e;omega
theorem Inv.list_inj (I:Inv X pins σ H s) (h:SqL X.K H a xs) (h':SqL X.K H a ys):xs=ys:=by
 obtain⟨its,r,⟨o,n,e,_,_,d⟩,_⟩:=I.list h;obtain⟨its',r',⟨o',n',e',_,_,d'⟩,_⟩:=I.list h';rw[e]at e';cases e';rw[d]at d';injection d' with d1 _
 have:its=its':=by simpa using congrArg Array.toList d1
 subst this;exact r.inj r'
theorem Inv.tuple_inj (I:Inv X pins σ H s) (h:SqT X.K H a xs) (h':SqT X.K H a ys):xs=ys:=by
 obtain⟨its,r,⟨o,e,_,n,d⟩,_⟩:=I.tuple h;obtain⟨its',r',⟨o',e',_,n',d'⟩,_⟩:=I.tuple h';rw[e]at e';cases e';rw[d]at d';injection d' with d1 _
 have:its=its':=by simpa using congrArg Array.toList d1
 subst this;exact r.inj r'
end
abbrev Cx.wish (X:Cx) (E:Value->Shared->Prop):Cx:={ X with xe:=E }
abbrev Cx.nox (X:Cx):Cx:=X.wish fun _ _=>False
theorem Cx.Ok.wish {X:Cx} (ok:X.Ok) (E:Value->Shared->Prop):(X.wish E).Ok :=
 ⟨ok.mod,ok.kind,ok.glob,ok.blt,ok.above,ok.inj,ok.has,ok.cab,ok.hd,ok.frames,ok.stk,ok.exf,ok.bs,ok.bsz,ok.noex,ok.exfs,ok.funs,ok.frf⟩
theorem Cx.Ok.unwish {X:Cx}{E:Value->Shared->Prop} (ok:(X.wish E).Ok):X.Ok :=
 ⟨ok.mod,ok.kind,ok.glob,ok.blt,ok.above,ok.inj,ok.has,ok.cab,ok.hd,ok.frames,ok.stk,ok.exf,ok.bs,ok.bsz,ok.noex,ok.exfs,ok.funs,ok.frf⟩
section
variable {X:Cx}{pins:List (Addr×Obj)}{σ:St}{H:Hp}{s:Shared}{E:Value->Shared->Prop}
theorem Inv.wish (I:Inv X pins σ H s) (E:Value->Shared->Prop):Inv (X.wish E) pins σ H s:=⟨I.ok.wish E,I.os,I.bare,I.base,I.loc,I.cell,I.free,I.freeC,I.pin,I.hok,I.len⟩
theorem Inv.unwish (I:Inv (X.wish E) pins σ H s):Inv X pins σ H s:=⟨I.ok.unwish,I.os,I.bare,I.base,I.loc,I.cell,I.free,I.freeC,I.pin,I.hok,I.len⟩
theorem SP.unwish {D:qd9}{f:Flow}{s':Shared} (h:SP (X.wish E) pins D f s'):SP X pins D f s':=by
 cases f with
 | next=>obtain⟨σ',H',I,q⟩:=h;exact⟨σ',H',I.unwish,q⟩
 | brk=>obtain⟨σ',H',I,q⟩:=h;exact⟨σ',H',I.unwish,q⟩
 | cont=>obtain⟨σ',H',I,q⟩:=h;exact⟨σ',H',I.unwish,q⟩
 | ret u=>obtain⟨v,σ',H',I,r,q⟩:=h;exact⟨v,σ',H',I.unwish,r,q⟩
theorem PSs.nox {st:List Stmt}{t:TS} (h:PSs X.nox st t):PSs X st t:=fun pins s σ H D I hw =>
 wpAny_mono (h pins s σ H D (I.wish _) hw) (fun _ _ q=>q.unwish) fun _ _ z=>False.elim z
end
section
variable {X:Cx}{st:Stmt}{rest:List Stmt}{t u:TS}{e:Expr}{te:TE}{pos:Pos}
def qE:TS:=fun D σ H=>D.nx σ H
def qld (t u:TS):TS:=fun D σ H=>t { D with nx:=u D } σ H
theorem qw:PSs X [] qE:=fun _ _ σ H _ I h=>wpAny_execs_nil ⟨σ,H,I,h⟩
theorem qf (h1:PS X st t) (h2:PSs X rest u):PSs X (st::rest) (qld t u):=by
 intro pins s σ H D I h;refine wpAny_execs_cons (thn (h1 pins s σ H { D with nx:=u D } I h) fun f s1 q=>?_)
 cases f with
 | next =>
   obtain⟨σ',H',I',q⟩:=q;exact h2 pins s1 σ' H' D I' q
 | ret v=>exact q
 | brk=>exact q
 | cont=>exact q
theorem qg (h1:PS X st t):PSs X [st] t:=by
 intro pins s σ H D I h;refine wpAny_execs_cons (thn (h1 pins s σ H D I h) fun f s1 q=>?_)
 cases f with
 | next=>exact wpAny_execs_nil q
 | ret v=>exact q
 | brk=>exact q
 | cont=>exact q
theorem Inv.quiet {pins:List (Addr×Obj)}{σ:St}{H:Hp}{s:Shared} (I:Inv X pins σ H s):interactive X.env=false:=by simp[interactive,I.ok.kind]
def qky (te:TE):TS:=fun D σ H=>te σ H fun _ H1=>D.nx σ H1
theorem qJ (he:PE X e te) (hs:swapsWith e none pos.line X.env=pure false:=by rfl):PS X (.Expr e pos) (qky te):=by
 intro pins s σ H D I h;exact wpAny_Expr_any (thn (he pins s σ H _ I h) fun v s1 ⟨x,H1,I1,r1,q1⟩=>⟨σ,H1,I1,q1⟩) I.quiet hs
def qh6 (te:TE):TS:=fun D σ H=>te σ H D.rt
theorem qv (he:PE X e te):PS X (.Return (some e) pos) (qh6 te):=by
 intro pins s σ H D I h;exact wpAny_Return_some (thn (he pins s σ H _ I h) fun v s1 ⟨x,H1,I1,r1,q1⟩=>⟨x,σ,H1,I1,r1,q1⟩)
def qks:TS:=fun D _ H=>D.rt .non H
theorem qiq:PS X (.Return none pos) qks:=fun _ _ σ H _ I h=>wpAny_Return_none ⟨.non,σ,H,I,rfl,h⟩
def qkg (c:TT) (t u:TS):TS:=fun D σ H=>c σ H fun b H1=>if b=true then t D σ H1 else u D σ H1
theorem qK {c:Expr}{a b:List Stmt}{tc:TT} (hc:PT X c tc) (ha:PSs X a t) (hb:PSs X b u):PS X (.If c a b pos) (qkg tc t u):=by
 intro pins s σ H D I h;refine wpAny_If (thn (hc pins s σ H _ I h) fun d s1 zz_=>?_);obtain⟨H1,I1,q1⟩:=zz_
 cases d with
 | true=>exact ha pins s1 σ H1 D I1 q1
 | false=>exact hb pins s1 σ H1 D I1 q1
def qjp:TS:=fun _ _ _=>False
theorem zi:PS X st qjp:=fun _ _ _ _ _ _ h=>h.elim
end
abbrev TG:=V->St->Hp->(St->Hp->Prop)->Prop
abbrev TGs:=List V->St->Hp->(St->Hp->Prop)->Prop
def PG (X:Cx) (target:Expr) (t:TG):Prop :=
 ∀ (pins:List (Addr×Obj)) (s:Shared) (σ:St) (H:Hp) (v:V) (u:Value) (Q:St->Hp->Prop),Inv X pins σ H s->RelV v u->t v σ H Q ->
   wpAny (model X.prog X.w) X.A (assign target X.env u) (fun _ s'=>∃ σ' H',Inv X pins σ' H' s'∧Q σ' H') X.xe s
def PGs (X:Cx) (ts:List Expr) (t:TGs):Prop :=
 ∀ (pins:List (Addr×Obj)) (s:Shared) (σ:St) (H:Hp) (vs:List V) (us:List Value) (Q:St->Hp->Prop),Inv X pins σ H s->Vals vs us->t vs σ H Q ->
   wpAny (model X.prog X.w) X.A (assignInOrder ((assignEach ts X.env).map (·.2)) us) (fun _ s'=>∃ σ' H',Inv X pins σ' H' s'∧Q σ' H') X.xe s
abbrev qk8:=V->V->V->Hp->(Hp->Prop)->Prop
def qly (X:Cx) (t:qk8):Prop :=
 ∀ (pins:List (Addr×Obj)) (s:Shared) (σ:St) (H:Hp) (o i v:V) (ov iv u:Value) (Q:Hp->Prop),Inv X pins σ H s->RelV o ov->RelV i iv->RelV v u->t o i v H Q ->
   wpAny (model X.prog X.w) X.A (setItem ov iv u) (fun _ s'=>∃ H',Inv X pins σ H' s'∧Q H') X.xe s
section
variable {X:Cx}{pos:Pos}
def qiO (i:Nat):TG:=fun v σ H Q=>Q (σ.set i (some v)) H
theorem qm {i:Nat}{x:Str} (hN:X.N.Nodup) (hi:X.N[i]?=some x) (hx:Loc X.env.scope x) (hf:X.fn x=true∨X.env.scope.names.lookup x=some .local:=by first|exact .inl rfl|exact .inr rfl|assumption):PG X (.Name x pos) (qiO i):=by
 intro pins s σ H v u Q I r h;exact wpAny_assign_Name (Zv I hN hi hx r (fun s' I'=>⟨_,H,I',h⟩) hf)
def qlX:TGs:=fun vs σ H Q=>vs=[]∧Q σ H
inductive qfD (t:TG) (u:TGs) (vs:List V) (σ:St) (H:Hp) (Q:(St->Hp->Prop)):Prop
 | mk (v r:_) (h1:vs=v::r) (h2:t v σ H fun σ' H'=>u r σ' H' Q):qfD t u vs σ H Q
def qk3 (t:TG) (u:TGs):TGs:=fun vs σ H Q=>qfD t u vs σ H Q
theorem qR:PGs X [] qlX:=by
 intro pins s σ H vs us Q I r h;obtain⟨e,h⟩:=h;subst e;cases r;exact assignInOrder_nil ⟨σ,H,I,h⟩
theorem qq {e:Expr}{es:List Expr}{t:TG}{u:TGs} (h1:PG X e t) (h2:PGs X es u)
   (hs:(assignEach (e::es) X.env).map (·.2)=assign e X.env::(assignEach es X.env).map (·.2):=by rfl):PGs X (e::es) (qk3 t u):=by
 intro pins s σ H vs us Q I r h;obtain⟨v,vr,e1,h⟩:=h;subst e1
 cases r with
 | cons r rr =>
   rw[hs];refine assignInOrder_cons (thn (h1 pins s σ H _ _ _ I r h) fun _ s1 zz_=>?_);obtain⟨σ1,H1,I1,q1⟩:=zz_;exact h2 pins s1 σ1 H1 _ _ Q I1 rr q1
inductive qhS (K:Frag) (n:Nat) (t:TGs) (v:V) (σ:St) (H:Hp) (Q:(St->Hp->Prop)):Prop
 | mk (a xs:_) (h1:v=.ref a) (h2:SqT K H a xs) (h3:xs.length=n) (h4:t xs σ H Q):qhS K n t v σ H Q
def qiN (K:Frag) (n:Nat) (t:TGs):TG:=fun v σ H Q=>qhS K n t v σ H Q
theorem zu {es:List Expr}{k:Nat}{t:TGs}{n:Nat} (hc:X.calm=true) (h:PGs X es t)
   (hn:(assignEach es X.env).length=n:=by rfl) (hst:(assignEach es X.env).findIdx? (·.1)=none:=by rfl):PG X (.Tuple es k pos) (qiN X.K n t):=by
 intro pins s σ H v u Q I r hw;obtain⟨a,xs,e1,hq,hl,hw⟩:=hw;subst e1;cases r;obtain⟨its,rv,ht,hz⟩:=I.tuple hq;refine assign_Tuple_tuple (I.ok.hd hc) ht (by simp[hn,← hl,rv.length]) hst fun h' hx=>?_;have I1:Inv X pins σ H { s with heap:=h' }:=I.kept (t':=s.toks) fun b o e=>hx b o (Nat.ne_of_lt (Heap.lt_size e)) e;exact h pins _ σ H xs _ Q I1 (by simpa using rv) hw
def qlW (to ti:TE) (t:qk8):TG:=fun v σ H Q=>to σ H fun o H1=>ti σ H1 fun i H2=>t o i v H2 fun H3=>Q σ H3
theorem qbN {o i:Expr}{to ti:TE}{t:qk8} (ho:PE X o to) (hi:PE X i ti) (hs:qly X t)
   (ha:∀ v,assign (.Subscript o i pos) X.env v=(do
     let ov ← holding [v] (eval o X.env);let iv ← holding [v,ov] (eval i X.env)
     standAt pos
     holding [v,ov,iv] (setItem ov iv v)
     release [v,ov,iv] []):=by intro _;rfl):PG X (.Subscript o i pos) (qlW to ti t):=by
 intro pins s σ H v u Q I r h;rw[ha];refine wpAny_bind (wpAny_holding (thn (ho pins s σ H _ I h) fun ov s1 zz_=>?_));obtain⟨x,H1,I1,r1,q1⟩:=zz_;refine wpAny_bind (wpAny_holding (thn (hi pins s1 σ H1 _ I1 q1) fun iv s2 zz_=>?_));obtain⟨y,H2,I2,r2,q2⟩:=zz_;refine wpAny_bind (wpAny_standAt (wpAny_bind (wpAny_holding (thn (hs pins s2 σ H2 x y v ov iv u _ I2 r1 r2 r q2) fun _ s3 zz_=>?_))));obtain⟨H3,I3,q3⟩:=zz_;exact wpAny_release ⟨σ,H3,I3,q3⟩
def qkC (te:TE) (g:TG):TS:=fun D σ H=>te σ H fun x H1=>g x σ H1 D.nx
theorem Zn {tg e:Expr}{te:TE}{g:TG} (he:PE X e te) (hg:PG X tg g) (hs:swapsWithSole [tg] e pos.line X.env=pure false:=by rfl) (hw:swappedStores [tg] e X.env=pure none:=by rfl)
   (h1:(assignEach [tg] X.env).map (·.2)=[assign tg X.env]:=by rfl):PS X (.Assign [tg] e pos) (qkC te g):=by
 intro pins s σ H D I h;refine wpAny_Assign_stores (thn (he pins s σ H _ I h) fun v s1 zz_=>?_) hs hw;obtain⟨x,H1,I1,r1,q1⟩:=zz_;rw[h1];exact thn (hg pins s1 σ H1 x v _ I1 r1 q1) fun _ s2 q=>q
theorem qA {i:Nat}{x:Str}{e:Expr}{te:TE}{pos':Pos} (hN:X.N.Nodup) (hi:X.N[i]?=some x) (hx:Loc X.env.scope x) (he:PE X e te) (hs:swapsWith e (some (.Name x pos')) pos.line X.env=pure false:=by rfl) (hf:X.fn x=true∨X.env.scope.names.lookup x=some .local:=by first|exact .inl rfl|exact .inr rfl|assumption) :
   PS X (.Assign [.Name x pos'] e pos) (qkC te (qiO i)):=by
 intro pins s σ H D I h;refine wpAny_Assign_Name (thn (he pins s σ H _ I h) fun v s1 zz_=>?_) hs;obtain⟨y,H1,I1,r1,q1⟩:=zz_;exact Zv I1 hN hi hx r1 (fun s2 I2=>⟨_,H1,I2,q1⟩) hf
end
structure It where
 go:Nat->Hp->Prop
 yld:Nat->Hp->V->Hp->Prop
 stop:Nat->Hp->Prop
def qd8 (X:Cx) (pins:List (Addr×Obj)) (H:Hp) (b:Addr):Prop :=
 H b=none∧b≠X.env.locals∧b∉X.fs∧(b∈X.ex∨X.s₀.heap.objs.size≤b)∧(∀ x c,X.env.cells.lookup x=some c->c≠b)∧∀ p∈X.pn++pins,p.1≠b
theorem Inv.fpOk {X:Cx}{pins:List (Addr×Obj)}{σ:St}{H H':Hp}{s:Shared}{b:Addr} (I:Inv X pins σ H s) (hb:s.heap.objs.size≤b) (hn:H' b=none):qd8 X pins H' b:=by
 refine⟨hn,Nat.ne_of_gt (Nat.lt_of_lt_of_le I.lt hb),I.nofs hb,.inr (Nat.le_trans I.sz hb),fun x c e z=>?_,fun p hp z=>?_⟩
 · obtain⟨v,q⟩:=I.cell x c e;exact absurd (Nat.lt_of_lt_of_le q.lt (by rw[z];exact hb)) (Nat.lt_irrefl _)
 · exact absurd (Nat.lt_of_lt_of_le (Heap.lt_size (I.pin p hp).1) (by rw[z];exact hb)) (Nat.lt_irrefl _)
structure qiZ (P:Program) (w:World) (K:Frag) (tg:Expr) (J:It) (fp:List Addr) (it:Addr) (tn:Nat->Heap->Prop):Prop where
 mem:it∈fp
 obj:∀ i h,tn i h->∀ b∈fp,∃ o,h.get? b=some o∧∀ v,o.data≠.cell v
 keep:∀ i h h',tn i h->(∀ b∈fp,∀ o,h.get? b=some o->h'.get? b=some o)->tn i h'
 item:∀ (X:Cx),X.prog=P->X.w=w->X.K=K->X.calm=true->∀ (i:Nat) (pins:List (Addr×Obj)) (s:Shared) (σ:St) (H:Hp) (E:Value->Shared->Prop),Inv X pins σ H s->(∀ b∈fp,qd8 X pins H b)->tn i s.heap->J.go i H ->
   wpAny (model P w) X.A (pyNext (.ref it)) (fun r s1=>∃ u,r=some u ∧
     wpAny (model P w) X.A (letOwnedTupleGo tg (.ref it) u) (fun _ s2=>∃ x H',Inv X pins σ H' s2∧RelV x u∧J.yld i H x H'∧tn (i+1) s2.heap∧∀ b∈fp,H' b=none) E s1) E s
 done:∀ (X:Cx),X.prog=P->X.w=w->X.K=K->X.calm=true->∀ (i:Nat) (pins:List (Addr×Obj)) (s:Shared) (σ:St) (H:Hp) (E:Value->Shared->Prop),Inv X pins σ H s->(∀ b∈fp,qd8 X pins H b)->tn i s.heap->J.stop i H ->
   wpAny (model P w) X.A (pyNext (.ref it)) (fun r s1=>r=none∧Inv X pins σ H s1) E s
 self:∀ (A:Around) (i:Nat) (s:Shared) (Q:Value->Shared->Prop) (E:Value->Shared->Prop),tn i s.heap->Q (.ref it) s->wpAny (model P w) A (pyIter (.ref it)) Q E s
abbrev TI:=St->Hp->(It->Hp->Prop)->Prop
def PIE (X:Cx) (pins:List (Addr×Obj)) (σ:St) (tg:Expr) (R:It->Hp->Prop) (itv:Value) (s2:Shared):Prop :=
 ∃ (it:Addr) (fp:List Addr) (tn:Nat->Heap->Prop) (J:It) (H':Hp),itv=.ref it∧Inv X pins σ H' s2∧qiZ X.prog X.w X.K tg J fp it tn∧tn 0 s2.heap∧(∀ b∈fp,qd8 X pins H' b)∧R J H'
def PI (X:Cx) (tg iter:Expr) (wi:TI):Prop :=
 ∀ (pins:List (Addr×Obj)) (s:Shared) (σ:St) (H:Hp) (R:It->Hp->Prop),Inv X pins σ H s->wi σ H R ->
   wpAny (model X.prog X.w) X.A (eval iter X.env) (fun v s1=>wpAny (model X.prog X.w) X.A (pyIter v) (PIE X pins σ tg R) X.xe s1) X.xe s
theorem qiL {M:Model}{A:Around}{E:Value->Shared->Prop}{s:Shared}{tg:Expr}{it:Addr}{u:Value}{o:Obj}{n:String}{vs:Array Value}{Q:Unit->Shared->Prop} (ho:s.heap.get? it=some o) (hc:o.cls=.type n) (hd:o.data=.fields vs)
   (hn:["enumerate","zip","dict_itemiterator","dict_reverseitemiterator","odict_iterator","itertools.zip_longest","itertools.pairwise"].contains n=false) (hQ:Q () s):wpAny M A (letOwnedTupleGo tg (.ref it) u) Q E s:=by
 unfold letOwnedTupleGo;cases tg<;>first
   | exact wpAny_pure hQ
   | (cases u<;>first
       | exact wpAny_pure hQ
       | (refine wpAny_bind (wpAny_load ho ?_)
          rw[hc,hd];show wpAny M A (if (["enumerate","zip","dict_itemiterator","dict_reverseitemiterator","odict_iterator","itertools.zip_longest","itertools.pairwise"].contains n && vs[0]? == some (rawInt _))=true then _ else _) Q E s;rw[if_neg (by intro h;rw[hn,Bool.false_and]at h;cases h)]
          exact wpAny_pure hQ))
def Itl (K:Frag) (a:Addr):It :=
 ⟨fun i H=>∃ xs x,SqL K H a xs∧xs[i]?=some x,fun i H x H'=>H'=H∧∀ xs,SqL K H a xs->xs[i]?=some x,fun i H=>∃ xs,SqL K H a xs∧xs.length≤i⟩
def Itt (K:Frag) (a:Addr):It :=
 ⟨fun i H=>∃ xs x,SqT K H a xs∧xs[i]?=some x,fun i H x H'=>H'=H∧∀ xs,SqT K H a xs->xs[i]?=some x,fun i H=>∃ xs,SqT K H a xs∧xs.length≤i⟩
def Itr (lo:Int) (n:Nat):It:=⟨fun i _=>i < n,fun i H x H'=>H'=H∧x=.int (lo+i),fun i _=>n≤i⟩
theorem qed {P:Program}{w:World}{K:Frag}{tg:Expr} (a it:Addr):qiZ P w K tg (Itl K a) [it] it (fun i h=>h.IsListIter it a i) where
 mem:=by simp
 obj:=fun i h st b hb=>by
   have e:b=it:=by simpa using hb
   subst e;obtain⟨o,e,c,d⟩:=st;exact⟨o,e,fun v z=>by rw[d]at z;cases z⟩
 keep:=fun i h h' st k=>st.at fun o e=>k it (by simp) o e
 item:=by
   intro X hP hw hK hc i pins s σ H E I hf st hg;subst hP hw hK;obtain⟨xs,x,hq,hx⟩:=hg;obtain⟨its,rv,p,hz⟩:=I.list hq;obtain⟨u,hu,ru⟩:=rv.get hx;obtain⟨f0,f1,f2,f3,f4,f5⟩:=hf it (by simp);refine wpAny_pyNext_list_item st p.isList (x:=u) (by simpa using hu) fun h' st' sb=>?_;have I1:Inv X pins σ H { s with heap:=h' }:=I.turned (t':=s.toks) (fun b o hb e=>(sb.2 b hb).trans e) f0 f1 f3 f4 f5;obtain⟨o,e,c,d⟩:=id st';exact⟨u,rfl,qiL (s:={ s with heap:=h' }) e c d (by decide) ⟨x,H,I1,ru,⟨rfl,fun ys hy=>by rw[I.list_inj hy hq];exact hx⟩,st',fun b hb=>(hf b hb).1⟩⟩
 done:=by
   intro X hP hw hK hc i pins s σ H E I hf st hg;subst hP hw hK;obtain⟨xs,hq,hx⟩:=hg;obtain⟨its,rv,p,hz⟩:=I.list hq;obtain⟨f0,f1,f2,f3,f4,f5⟩:=hf it (by simp);have hl:=rv.length;exact wpAny_pyNext_list_end (I.ok.hd hc) st p.isList (by simp;omega) fun h' eb=>⟨rfl,I.turned (t':=s.toks) (fun b o hb e=>eb b o hb e) f0 f1 f3 f4 f5⟩
 self:=fun _ _ _ _ _ st h=>wpAny_pyIter_listiter st h
theorem qdI {P:Program}{w:World}{K:Frag}{tg:Expr} (a it:Addr):qiZ P w K tg (Itt K a) [it] it (fun i h=>h.IsTupleIter it a i) where
 mem:=by simp
 obj:=fun i h st b hb=>by
   have e:b=it:=by simpa using hb
   subst e;obtain⟨o,e,c,d⟩:=st;exact⟨o,e,fun v z=>by rw[d]at z;cases z⟩
 keep:=fun i h h' st k=>st.at fun o e=>k it (by simp) o e
 item:=by
   intro X hP hw hK hc i pins s σ H E I hf st hg;subst hP hw hK;obtain⟨xs,x,hq,hx⟩:=hg;obtain⟨its,rv,p,hz⟩:=I.tuple hq;obtain⟨u,hu,ru⟩:=rv.get hx;obtain⟨f0,f1,f2,f3,f4,f5⟩:=hf it (by simp);refine wpAny_pyNext_tuple_item st (show s.heap.IsTuple a its.toArray from p) (x:=u) (by simpa using hu) fun h' st' sb=>?_;have I1:Inv X pins σ H { s with heap:=h' }:=I.turned (t':=s.toks) (fun b o hb e=>(sb.2 b hb).trans e) f0 f1 f3 f4 f5;obtain⟨o,e,c,d⟩:=id st';exact⟨u,rfl,qiL (s:={ s with heap:=h' }) e c d (by decide) ⟨x,H,I1,ru,⟨rfl,fun ys hy=>by rw[I.tuple_inj hy hq];exact hx⟩,st',fun b hb=>(hf b hb).1⟩⟩
 done:=by
   intro X hP hw hK hc i pins s σ H E I hf st hg;subst hP hw hK;obtain⟨xs,hq,hx⟩:=hg;obtain⟨its,rv,p,hz⟩:=I.tuple hq;obtain⟨f0,f1,f2,f3,f4,f5⟩:=hf it (by simp);have hl:=rv.length;exact wpAny_pyNext_tuple_end (I.ok.hd hc) st (show s.heap.IsTuple a its.toArray from p) (by simp;omega) fun h' eb=>⟨rfl,I.turned (t':=s.toks) (fun b o hb e=>eb b o hb e) f0 f1 f3 f4 f5⟩
 self:=fun _ _ _ _ _ st h=>wpAny_pyIter_tupleiter st h
theorem qdJ {P:Program}{w:World}{K:Frag}{tg:Expr} (it:Addr) (lo:Int) (n:Nat):qiZ P w K tg (Itr lo n) [it] it (fun i h=>IsRangeIter h it (lo+(i:Nat) * 1) ((n:Int) - (i:Nat)) 1) where
 mem:=by simp
 obj:=fun i h st b hb=>by
   have e:b=it:=by simpa using hb
   subst e
   exact⟨_,st,fun v z=>by
     have z':Data.fields _=Data.cell v:=z
     cases z'⟩
 keep:=fun i h h' st k=>k it (by simp) _ st
 item:=by
   intro X hP hw hK hc i pins s σ H E I hf st hg;subst hP hw hK;obtain⟨f0,f1,f2,f3,f4,f5⟩:=hf it (by simp);have W:=Walks.range (prog:=X.prog) (w:=X.w) (I.ok.hd hc) it lo 1 n;refine W.item i s _ _ hg st fun v h' tk hv st' kk=>?_;obtain⟨t,rfl⟩:=hv;have I1:Inv X pins σ H { s with heap:=h',toks:=tk }:=I.turned (fun b o hb e=>kk b o (by simpa using hb) e) f0 f1 f3 f4 f5;refine⟨_,rfl,qiL (s:={ s with heap:=h',toks:=tk }) (n:="range_iterator") st' rfl rfl (by decide) ⟨.int (lo+i),H,I1,⟨t,?_⟩,⟨rfl,rfl⟩,st',fun b hb=>(hf b hb).1⟩⟩;rw[Int.mul_one]
 done:=by
   intro X hP hw hK hc i pins s σ H E I hf st hg;subst hP hw hK;obtain⟨f0,f1,f2,f3,f4,f5⟩:=hf it (by simp);exact wpAny_pyNext_range_end (I.ok.hd hc) st (by have:n≤i:=hg;omega) fun h' eb=>⟨rfl,I.turned (t':=s.toks) (fun b o hb e=>eb b o hb e) f0 f1 f3 f4 f5⟩
 self:=fun _ _ _ _ _ st h=>wpAny_pyIter_rangeiter st h
section
variable {X:Cx}{tg:Expr}
inductive qfA (K:Frag) (R:(It->Hp->Prop)) (x:V) (H1:Hp):Prop
 | mk (a:_) (h1:x=.ref a) (h2:(∃ xs,SqL K H1 a xs)) (h3:R (Itl K a) H1):qfA K R x H1
def qk1 (K:Frag) (tl:TE):TI:=fun σ H R=>tl σ H fun x H1=>qfA K R x H1
def qlU (K:Frag) (tl:TE):TI:=fun σ H R=>tl σ H fun x H1=>∃ a,x=.ref a∧(∃ xs,SqT K H1 a xs)∧R (Itt K a) H1
theorem zl {l:Expr}{tl:TE} (hl:PE X l tl):PI X tg l (qk1 X.K tl):=by
 intro pins s σ H R I h;refine thn (hl pins s σ H _ I h) fun v s1 zz_=>?_;obtain⟨x,H1,I1,r1,q1⟩:=zz_;obtain⟨a,e,⟨xs,hq⟩,q⟩:=q1;subst e;cases r1;obtain⟨its,rv,p,hz⟩:=I1.list hq;refine wpAny_pyIter_list p.isList ?_;refine⟨s1.heap.objs.size,[s1.heap.objs.size],_,_,H1,rfl,I1.kept (t':=s1.toks) fun b o e=>Heap.get?_push_of_some _ e,qed a _,⟨_,Heap.get?_push_size _ rfl,rfl,rfl⟩,fun b hb=>?_,q⟩;have e:b=s1.heap.objs.size:=by simpa using hb
 subst e;exact I1.fpOk (Nat.le_refl _) (I1.hok.fresh (Nat.le_refl _))
theorem qjD {l:Expr}{tl:TE} (hl:PE X l tl):PI X tg l (qlU X.K tl):=by
 intro pins s σ H R I h;refine thn (hl pins s σ H _ I h) fun v s1 zz_=>?_;obtain⟨x,H1,I1,r1,q1⟩:=zz_;obtain⟨a,e,⟨xs,hq⟩,q⟩:=q1;subst e;cases r1;obtain⟨its,rv,p,hz⟩:=I1.tuple hq;refine wpAny_pyIter_tuple (show s1.heap.IsTuple a its.toArray from p) ?_;refine⟨s1.heap.objs.size,[s1.heap.objs.size],_,_,H1,rfl,I1.kept (t':=s1.toks) fun b o e=>Heap.get?_push_of_some _ e,qdI a _,⟨_,Heap.get?_push_size _ rfl,rfl,rfl⟩,fun b hb=>?_,q⟩;have e:b=s1.heap.objs.size:=by simpa using hb
 subst e;exact I1.fpOk (Nat.le_refl _) (I1.hok.fresh (Nat.le_refl _))
theorem qdd {pins:List (Addr×Obj)}{σ:St}{H:Hp}{s:Shared}{R:It->Hp->Prop}{E:Value->Shared->Prop}{lo hi:Int}{t u v:Tok}{tk:Nat} (I:Inv X pins σ H s) (h1:-(2 ^ 62)≤lo) (h2:lo < 2 ^ 62) (h3:-(2 ^ 62)≤hi) (h4:hi < 2 ^ 62)
   (q:R (Itr lo (hi - lo).toNat) H):wpAny (model X.prog X.w) X.A (pyIter (.ref s.heap.objs.size)) (PIE X pins σ tg R) E { s with heap:=s.heap.push { cls:=.type "range",data:=.fields #[.int lo t,.int hi u,.int 1 v] },toks:=tk }:=by
 refine wpAny_pyIter_range (IsRange.new ..) (small_one h1 h2 h3 h4) ?_;have I1:Inv X pins σ H { s with heap:=s.heap.push { cls:=.type "range",data:=.fields #[.int lo t,.int hi u,.int 1 v] },toks:=tk }:=I.kept fun b o e=>Heap.get?_push_of_some _ e
 refine⟨(s.heap.push { cls:=.type "range",data:=.fields #[.int lo t,.int hi u,.int 1 v] }).objs.size,[(s.heap.push { cls:=.type "range",data:=.fields #[.int lo t,.int hi u,.int 1 v] }).objs.size],_,_,H,rfl,
   I1.kept (t':=tk) fun b o e=>Heap.get?_push_of_some _ e,qdJ _ lo (hi - lo).toNat,?_,fun b hb=>?_,q⟩
 · have e1:lo+((0:Nat):Int) * 1=lo:=by simp
   have e2:(((hi - lo).toNat:Nat):Int) - ((0:Nat):Int)=Builtin.Range.rangeSize lo hi 1:=by rw[rangeSize_one];split<;>omega
   show IsRangeIter _ _ (lo+((0:Nat):Int) * 1) ((((hi - lo).toNat:Nat):Int) - ((0:Nat):Int)) 1;rw[e1,e2];exact Heap.get?_push_size _ rfl
 · have e:b=(s.heap.push { cls:=.type "range",data:=.fields #[.int lo t,.int hi u,.int 1 v] }).objs.size:=by simpa using hb
   subst e;exact I1.fpOk (Nat.le_refl _) (I1.hok.fresh (Nat.le_refl _))
inductive qfz (R:(It->Hp->Prop)) (vs:List V) (H1:Hp):Prop
 | mk (j:Int) (h1:vs=[.int j]) (h2:-(2 ^ 62)≤j) (h3:j < 2 ^ 62) (h4:R (Itr 0 j.toNat) H1):qfz R vs H1
def qk0 (ta:TA):TI:=fun σ H R=>ta σ H fun vs H1=>qfz R vs H1
inductive qfy (R:(It->Hp->Prop)) (vs:List V) (H1:Hp):Prop
 | mk (i j:Int) (h1:vs=[.int i,.int j]) (h2:(-(2 ^ 62)≤i∧i < 2 ^ 62∧-(2 ^ 62)≤j∧j < 2 ^ 62)) (h3:R (Itr i (j - i).toNat) H1):qfy R vs H1
def qkZ (ta:TA):TI:=fun σ H R=>ta σ H fun vs H1=>qfy R vs H1
theorem jc {a:Expr}{ta:TA}{p pos:Pos} (hg:Gl X "range") (hm:X.mg "range"=none) (ha:PA X [a] ta) (hs:starEach [a] X.env=[(false,eval a X.env)]:=by rfl):PI X tg (.Call (.Name "range" p) [a] [] pos) (qk0 ta):=by
 intro pins s σ H R I h;refine Call_ (Q0 I hg hm boot_range (PyProof.Rows.callWith_type1 (thn (ha pos pins s σ H _ I h) fun us s1 zz_=>?_) hs rfl));obtain⟨vs,H1,I1,r1,q1⟩:=zz_;obtain⟨j,e,q1,q2,q⟩:=q1;subst e
 cases r1 with
 | cons r rr =>
   cases rr;obtain⟨t,rfl⟩:=r;exact call_range_1 (qdd I1 (by omega) (by omega) q1 q2 (by simpa using q))
theorem qeR {a b:Expr}{ta:TA}{p pos:Pos} (hg:Gl X "range") (hm:X.mg "range"=none) (ha:PA X [a,b] ta) (hs:starEach [a,b] X.env=[(false,eval a X.env),(false,eval b X.env)]:=by rfl) (hs2:starEach [b] X.env=[(false,eval b X.env)]:=by rfl) :
   PI X tg (.Call (.Name "range" p) [a,b] [] pos) (qkZ ta):=by
 intro pins s σ H R I h;refine Call_ (Q0 I hg hm boot_range (PyProof.Rows.callWith_type1 (thn (ha pos pins s σ H _ I h) fun us s1 zz_=>?_) (by rw[hs,hs2]) (by rw[hs2];rfl)));obtain⟨vs,H1,I1,r1,q1⟩:=zz_;obtain⟨i,j,e,⟨q1,q2,q3,q4⟩,q⟩:=q1;subst e
 cases r1 with
 | cons r rr =>
   cases rr with
   | cons r' rr =>
     cases rr;obtain⟨t,rfl⟩:=r;obtain⟨t',rfl⟩:=r';exact call_range_2 (qdd I1 q1 q2 q3 q4 q)
def qi4 (wi:TI) (g:TG) (tb:TS):TS:=fun D σ H=>wi σ H fun J H1=>∃ W:Nat->Nat->St->Hp->Prop,(∃ m,W 0 m σ H1)∧∀ i m σ H,W i m σ H ->
 (J.stop i H∧D.nx σ H)∨(J.go i H∧∃ N:St->Hp->Prop,(∀ σ' H',N σ' H'->∃ m',m' < m∧W (i+1) m' σ' H')∧∀ x H',J.yld i H x H'->g x σ H' fun σ2 H2=>tb { D with nx:=N,ct:=N,bk:=D.nx } σ2 H2)
def qaF (fp:List Addr) (h:Heap):List (Addr×Obj):=fp.filterMap fun b=>(h.get? b).map fun o=>(b,o)
theorem zE {fp:List Addr}{h:Heap}{b:Addr}{o:Obj} (hb:b∈fp) (e:h.get? b=some o):(b,o)∈qaF fp h:=List.mem_filterMap.mpr ⟨b,hb,by rw[e];rfl⟩
theorem qe8 {fp:List Addr}{h:Heap}{p:Addr×Obj} (hp:p∈qaF fp h):p.1∈fp∧h.get? p.1=some p.2:=by
 obtain⟨b,hb,e⟩:=List.mem_filterMap.mp hp
 cases q:h.get? b with
 | none=>rw[q]at e;cases e
 | some o =>
   rw[q]at e;have e':(b,o)=p:=Option.some.inj e;subst e';exact⟨hb,q⟩
theorem Inv.pinned {pins:List (Addr×Obj)}{σ:St}{H:Hp}{s:Shared}{fp:List Addr} (I:Inv X pins σ H s) (hf:∀ b∈fp,qd8 X pins H b) (ho:∀ b∈fp,∃ o,s.heap.get? b=some o∧∀ v,o.data≠.cell v):Inv X (pins++qaF fp s.heap) σ H s :=
 I.pins_of fun p hp=>(List.mem_append.mp hp).elim (fun z=>I.pin p (List.mem_append_right _ z)) fun z=>by
   obtain⟨hb,e⟩:=qe8 z;obtain⟨f0,f1,f2,_⟩:=hf p.1 hb;obtain⟨o,e',d⟩:=ho p.1 hb;rw[e]at e';cases e';exact⟨e,f0,f1,f2,d⟩
theorem Inv.unpinned {pins pl:List (Addr×Obj)}{σ:St}{H:Hp}{s:Shared} (I:Inv X (pins++pl) σ H s):Inv X pins σ H s:=I.pins_of fun p hp=>I.pin p (List.mem_append_right _ (List.mem_append_left _ hp))
theorem QZ {iter:Expr}{body:List Stmt}{wi:TI}{g:TG}{tb:TS}{pos:Pos} (hp:PassesOwn (model X.prog X.w) X.A X.env X.xe) (hc:X.calm=true) (hi:PI X tg iter wi) (hg:PG X tg g) (hb:PSs X body tb)
   (hs:∀ x,foldedSetIterable iter X.env x=pure x:=by intro _;rfl):PS X (.For tg iter body [] pos) (qi4 wi g tb):=by
 intro pins s σ H D I h;refine wpAny_For (thn (hi pins s σ H _ I h) fun v s1 h1=>thn h1 fun itv s2 h2=>?_) hs;obtain⟨it,fp,tn,J,H2,e,I2,T,st2,f2,W,⟨m0,w0⟩,turn⟩:=h2;subst e
 -- what stays true of the iterator's objects through the loop
 have stat:∀ {H':Hp},(∀ b∈fp,H' b=none)->∀ b∈fp,qd8 X pins H' b:=fun hn b hb=>⟨hn b hb,(f2 b hb).2⟩
 refine codeAny_forLoop_any (fun n s'=>∃ i σ' H',Inv X pins σ' H' s'∧tn i s'.heap∧(∀ b∈fp,H' b=none)∧W i n σ' H') ?_ m0 ⟨0,σ,H2,I2,st2,fun b hb=>(f2 b hb).1,w0⟩;rintro n s3 ⟨i,σ3,H3,I3,st3,fr3,w3⟩;rcases turn i n σ3 H3 w3 with ⟨stop,qn⟩|⟨go,N,hN,step⟩
 · refine wpAny_passesOwn hp (thn (T.done X rfl rfl rfl hc i pins s3 σ3 H3 X.xe I3 (stat fr3) st3 stop) fun r s4 ⟨hr,I4⟩=>?_);subst hr;exact wpAny_execs_nil ⟨σ3,H3,I4,qn⟩
 · refine wpAny_passesOwn hp (thn (T.item X rfl rfl rfl hc i pins s3 σ3 H3 X.xe I3 (stat fr3) st3 go) fun r s4 ⟨u,hr,h4⟩=>?_);subst hr;refine wpAny_passesOwn hp (thn h4 fun _ s5 zz_=>?_);obtain⟨x,H5,I5,r5,y5,st5,fr5⟩:=zz_;have I5':=I5.pinned (stat fr5) (T.obj _ _ st5);refine wpAny_passesOwn hp (thn (hg _ s5 σ3 H5 x u _ I5' r5 (step x H5 y5)) fun _ s6 zz_=>?_);obtain⟨σ6,H6,I6,q6⟩:=zz_;refine wpAny_passesOwn hp (thn (hb _ s6 σ6 H6 _ I6 q6) fun f s7 q7=>?_)
   have again:∀ {σ7:St}{H7:Hp},Inv X (pins++qaF fp s5.heap) σ7 H7 s7->N σ7 H7->∃ m,m < n∧∃ i σ' H',Inv X pins σ' H' s7∧tn i s7.heap∧(∀ b∈fp,H' b=none)∧W i m σ' H':=fun {σ7 H7} I7 n7=>by
     obtain⟨m',hm,w7⟩:=hN σ7 H7 n7;refine⟨m',hm,i+1,σ7,H7,I7.unpinned,T.keep _ _ _ st5 fun b hb o e=>(I7.pin (b,o) (List.mem_append_right _ (List.mem_append_right _ (zE hb e)))).1,fun b hb=>?_,w7⟩;obtain⟨o,e,d⟩:=T.obj _ _ st5 b hb;exact(I7.pin (b,o) (List.mem_append_right _ (List.mem_append_right _ (zE hb e)))).2.1
   cases f with
   | next=>obtain⟨σ7,H7,I7,n7⟩:=q7;exact again I7 n7
   | cont=>obtain⟨σ7,H7,I7,n7⟩:=q7;exact again I7 n7
   | brk=>obtain⟨σ7,H7,I7,q7⟩:=q7;exact⟨σ7,H7,I7.unpinned,q7⟩
   | ret v=>obtain⟨x7,σ7,H7,I7,r7,q7⟩:=q7;exact⟨x7,σ7,H7,I7.unpinned,r7,q7⟩
end
theorem ZB {K:Frag}{a:Addr}{xs:List V}{g:TG}{tb:TS}{D:qd9}{σ:St}{H:Hp} (Pv:Nat->St->Hp->Prop) (h0:Pv 0 σ H) (hl:∀ i σ H,i≤xs.length->Pv i σ H->SqL K H a xs)
   (hs:∀ i x σ H,xs[i]?=some x->Pv i σ H->g x σ H fun σ2 H2=>tb { D with nx:=Pv (i+1),ct:=Pv (i+1),bk:=D.nx } σ2 H2) (hd:∀ σ H,Pv xs.length σ H->D.nx σ H) :
   ∃ W:Nat->Nat->St->Hp->Prop,(∃ m,W 0 m σ H)∧∀ i m σ H,W i m σ H ->
     ((Itl K a).stop i H∧D.nx σ H)∨((Itl K a).go i H∧∃ N:St->Hp->Prop,(∀ σ' H',N σ' H'->∃ m',m' < m∧W (i+1) m' σ' H')∧∀ x H',(Itl K a).yld i H x H'->g x σ H' fun σ2 H2=>tb { D with nx:=N,ct:=N,bk:=D.nx } σ2 H2):=by
 refine⟨fun i m σ H=>m=xs.length - i∧i≤xs.length∧Pv i σ H,⟨xs.length,by simp,Nat.zero_le _,h0⟩,?_⟩;rintro i m σ H ⟨rfl,hi,p⟩;have q:=hl i σ H hi p;by_cases hlt:i < xs.length
 · refine .inr ⟨⟨xs,xs[i],q,by simp[hlt]⟩,Pv (i+1),fun σ' H' p'=>⟨xs.length - (i+1),by omega,rfl,hlt,p'⟩,fun x H' y=>?_⟩;obtain⟨e,y⟩:=y;subst e;exact hs i x σ _ (y xs q) p
 · have e:i=xs.length:=by omega
   subst e;exact .inl ⟨⟨xs,q,Nat.le_refl _⟩,hd σ H p⟩
theorem JZ {lo:Int}{n:Nat}{g:TG}{tb:TS}{D:qd9}{σ:St}{H:Hp} (Pv:Nat->St->Hp->Prop) (h0:Pv 0 σ H)
   (hs:∀ i σ H,i < n->Pv i σ H->g (.int (lo+i)) σ H fun σ2 H2=>tb { D with nx:=Pv (i+1),ct:=Pv (i+1),bk:=D.nx } σ2 H2) (hd:∀ σ H,Pv n σ H->D.nx σ H) :
   ∃ W:Nat->Nat->St->Hp->Prop,(∃ m,W 0 m σ H)∧∀ i m σ H,W i m σ H ->
     ((Itr lo n).stop i H∧D.nx σ H)∨((Itr lo n).go i H∧∃ N:St->Hp->Prop,(∀ σ' H',N σ' H'->∃ m',m' < m∧W (i+1) m' σ' H')∧∀ x H',(Itr lo n).yld i H x H'->g x σ H' fun σ2 H2=>tb { D with nx:=N,ct:=N,bk:=D.nx } σ2 H2):=by
 refine⟨fun i m σ H=>m=n - i∧i≤n∧Pv i σ H,⟨n,by simp,Nat.zero_le _,h0⟩,?_⟩;rintro i m σ H ⟨rfl,hi,p⟩;by_cases hlt:i < n
 · refine .inr ⟨hlt,Pv (i+1),fun σ' H' p'=>⟨n - (i+1),by omega,rfl,hlt,p'⟩,fun x H' y=>?_⟩;obtain⟨e,y⟩:=y;subst e y;exact hs i σ _ hlt p
 · have e:i=n:=by omega
   subst e;exact .inl ⟨Nat.le_refl _,hd σ H p⟩
abbrev R2:=V->V->Hp->VK->Prop
def OpR (X:Cx) (f:Value->Value->Sem Value) (r:R2):Prop :=
 ∀ (pins:List (Addr×Obj)) (s:Shared) (σ:St) (H:Hp) (x y:V) (v u:Value) (Q:VK),Inv X pins σ H s->RelV x v->RelV y u->r x y H Q ->
   wpAny (model X.prog X.w) X.A (f v u) (EP X pins σ Q) X.xe s
def UnR (X:Cx) (f:Value->Sem Value) (r:V->Hp->VK->Prop):Prop :=
 ∀ (pins:List (Addr×Obj)) (s:Shared) (σ:St) (H:Hp) (x:V) (v:Value) (Q:VK),Inv X pins σ H s->RelV x v->r x H Q ->
   wpAny (model X.prog X.w) X.A (f v) (EP X pins σ Q) X.xe s
def CallR (X:Cx) (f:Value) (r:List V->Hp->VK->Prop):Prop :=
 ∀ (pins:List (Addr×Obj)) (s:Shared) (σ:St) (H:Hp) (xs:List V) (us:List Value) (Q:VK),Inv X pins σ H s->Vals xs us->r xs H Q ->
   wpAny (model X.prog X.w) X.A (call f us) (EP X pins σ Q) X.xe s
def qlZ (X:Cx) (r:V->Hp->(Bool->Hp->Prop)->Prop):Prop :=
 ∀ (pins:List (Addr×Obj)) (s:Shared) (σ:St) (H:Hp) (x:V) (v:Value) (Q:Bool->Hp->Prop),Inv X pins σ H s->RelV x v->r x H Q ->
   wpAny (model X.prog X.w) X.A (truthy v) (TP X pins σ Q) X.xe s
def tOp (r:R2) (ta tb:TE):TE:=fun σ H Q=>ta σ H fun x H1=>tb σ H1 fun y H2=>r x y H2 Q
def tUn (r:V->Hp->VK->Prop) (ta:TE):TE:=fun σ H Q=>ta σ H fun x H1=>r x H1 Q
inductive qlp (C:Int->Int->Prop) (g:Int->Int->V) (x:V) (y:V) (H:Hp) (Q:VK):Prop
 | mk (i j:_) (h1:x=.int i) (h2:y=.int j) (h3:C i j) (h4:Q (g i j) H):qlp C g x y H Q
def rI (C:Int->Int->Prop) (g:Int->Int->V):R2:=fun x y H Q=>qlp C g x y H Q
inductive qjC (g:Int->Int->V) (x:V) (y:V) (H:Hp) (Q:VK):Prop
 | mk (i j:_) (h1:x=.int i) (h2:y=.int j) (h3:Q (g i j) H):qjC g x y H Q
def rI0 (g:Int->Int->V):R2:=fun x y H Q=>qjC g x y H Q
inductive qlh (g:Int->V) (x:V) (H:Hp) (Q:VK):Prop
 | mk (i:_) (h1:x=.int i) (h2:Q (g i) H):qlh g x H Q
def rU (g:Int->V):V->Hp->VK->Prop:=fun x H Q=>qlh g x H Q
section
variable {X:Cx}{a b c:Expr}{ta tb tc:TE}{pos:Pos}
theorem qk5 (ha:PE X a ta) (hb:PE X b tb) {pins:List (Addr×Obj)}{s:Shared}{σ:St}{H:Hp}{R:V->V->Hp->Prop} (I:Inv X pins σ H s)
   (h:ta σ H fun x H1=>tb σ H1 fun y H2=>R x y H2) {Q:Value->Shared->Prop}{f:Value->Value->Sem Value}
   (hf:∀ v u s2 x y H2,Inv X pins σ H2 s2->RelV x v->RelV y u->R x y H2->wpAny (model X.prog X.w) X.A (f v u) Q X.xe s2) :
   wpAny (model X.prog X.w) X.A (eval a X.env) (fun v s₁=>wpAny (model X.prog X.w) X.A (eval b X.env) (fun u s₂=>wpAny (model X.prog X.w) X.A (f v u) Q X.xe s₂) X.xe s₁) X.xe s:=by
 refine thn (ha pins s σ H _ I h) fun v s1 zz_=>?_;obtain⟨x,H1,I1,r1,q1⟩:=zz_;refine thn (hb pins s1 σ H1 _ I1 q1) fun u s2 zz_=>?_;obtain⟨y,H2,I2,r2,q2⟩:=zz_;exact hf v u s2 x y H2 I2 r1 r2 q2
theorem qo {op:Operator}{r:R2} (ho:OpR X (binaryOp op) r) (ha:PE X a ta) (hb:PE X b tb):PE X (.BinOp a op b pos) (tOp r ta tb):=by
 intro pins s σ H Q I h;exact wpAny_BinOp (qk5 ha hb I h fun v u s2 x y H2 I2 rx ry q=>ho pins s2 σ H2 x y v u Q I2 rx ry q)
theorem jd {op:UnaryOp}{r:V->Hp->VK->Prop} (ho:UnR X (unaryOp op) r) (ha:PE X a ta):PE X (.UnaryOp op a pos) (tUn r ta):=by
 intro pins s σ H Q I h;exact UnaryOp_ (thn (ha pins s σ H _ I h) fun v s1 ⟨x,H1,I1,r1,q1⟩=>ho pins s1 σ H1 x v Q I1 r1 q1)
theorem opI {f:Value->Value->Sem Value}{C:Int->Int->Prop}{g:Int->Int->Int}
   (rule:∀ (i j:Int) (t u:Tok) (s:Shared) (Q:Value->Shared->Prop) (E:Value->Shared->Prop),C i j->Q (.int (g i j) s.toks) { s with toks:=s.toks+1 }->wpAny (model X.prog X.w) X.A (f (.int i t) (.int j u)) Q E s) :
   OpR X f (rI C fun i j=>.int (g i j)):=by
 intro pins s σ H x y v u Q I rx ry h;obtain⟨i,j,rfl,rfl,hc,q⟩:=h;obtain⟨t,rfl⟩:=rx;obtain⟨t',rfl⟩:=ry;exact rule i j t t' s _ _ hc ⟨.int (g i j),H,I.tok _,⟨_,rfl⟩,q⟩
theorem qls {f:Value->Value->Sem Value}{g:Int->Int->Int}
   (rule:∀ (i j:Int) (t u:Tok) (s:Shared) (Q:Value->Shared->Prop) (E:Value->Shared->Prop),Q (.int (g i j) s.toks) { s with toks:=s.toks+1 }->wpAny (model X.prog X.w) X.A (f (.int i t) (.int j u)) Q E s) :
   OpR X f (rI0 fun i j=>.int (g i j)):=by
 intro pins s σ H x y v u Q I rx ry h;obtain⟨i,j,rfl,rfl,q⟩:=h;obtain⟨t,rfl⟩:=rx;obtain⟨t',rfl⟩:=ry;exact rule i j t t' s _ _ ⟨.int (g i j),H,I.tok _,⟨_,rfl⟩,q⟩
theorem qkj {f:Value->Value->Sem Value}{g:Int->Int->Bool}
   (rule:∀ (i j:Int) (t u:Tok) (s:Shared) (Q:Value->Shared->Prop) (E:Value->Shared->Prop),Q (.bool (g i j)) s->wpAny (model X.prog X.w) X.A (f (.int i t) (.int j u)) Q E s) :
   OpR X f (rI0 fun i j=>.bl (g i j)):=by
 intro pins s σ H x y v u Q I rx ry h;obtain⟨i,j,rfl,rfl,q⟩:=h;obtain⟨t,rfl⟩:=rx;obtain⟨t',rfl⟩:=ry;exact rule i j t t' s _ _ ⟨.bl (g i j),H,I,rfl,q⟩
def qlB (i j:Int):Prop:=0 < j∧j < 1073741824
def ql2 (i j:Int):Prop:=0≤j∧j≤1000000∧i.natAbs < 2 ^ 64
def CMul (i j:Int):Prop:=(-(2 ^ 64) < i∧i < 2 ^ 64)∨(-(2 ^ 64) < j∧j < 2 ^ 64)
theorem CMul.ok {i j:Int} (h:CMul i j):IntMulOk i j:=by
 rcases h with ⟨h1,h2⟩|⟨h1,h2⟩
 · exact .of_left (intBits_le_64 h1 h2)
 · exact .of_right (intBits_le_64 h1 h2)
theorem op_add:OpR X (binaryOp .Add) (rI0 fun i j=>.int (i+j)):=qls fun _ _ _ _ _ _ _ q=>add_int q
theorem zI:OpR X (binaryOp .Sub) (rI0 fun i j=>.int (i - j)):=qls fun _ _ _ _ _ _ _ q=>sub_int q
theorem zJ:OpR X (binaryOp .Mult) (rI CMul fun i j=>.int (i * j)):=opI fun _ _ _ _ _ _ _ hc q=>mul_int q hc.ok
theorem qa9:OpR X (binaryOp .FloorDiv) (rI qlB fun i j=>.int (i / j)):=opI fun i j _ _ _ _ _ hc q=>by
 have h1:(0:Int) < j:=hc.1;have h2:j < 1073741824:=hc.2;exact floordiv_int (by omega) (by rw[Int.fdiv_eq_ediv_of_nonneg i (by omega)];exact q) (.inl (PyProof.noPylong_small (by omega)))
theorem za:OpR X (binaryOp .Mod) (rI (fun _ j=>0 < j) fun i j=>.int (i % j)):=opI fun i j _ _ _ _ _ hc q=>by
 have h1:(0:Int) < j:=hc;exact mod_int' (by omega) (by rw[Int.fmod_eq_emod_of_nonneg i (by omega)];exact q)
theorem Zp:OpR X (binaryOp .Pow) (rI ql2 fun i j=>.int (i ^ j.toNat)):=opI fun _ _ _ _ _ _ _ hc q=>pow_int_small hc.1 hc.2.1 hc.2.2 q
theorem unI {f:Value->Sem Value}{g:Int->Int}
   (rule:∀ (i:Int) (t:Tok) (s:Shared) (Q:Value->Shared->Prop) (E:Value->Shared->Prop),Q (.int (g i) s.toks) { s with toks:=s.toks+1 }->wpAny (model X.prog X.w) X.A (f (.int i t)) Q E s) :
   UnR X f (rU fun i=>.int (g i)):=by
 intro pins s σ H x v Q I rx h;obtain⟨i,rfl,q⟩:=h;obtain⟨t,rfl⟩:=rx;exact rule i t s _ _ ⟨.int (g i),H,I.tok _,⟨_,rfl⟩,q⟩
theorem Qi:UnR X (unaryOp .USub) (rU fun i=>.int (-i)):=unI fun _ _ _ _ _ q=>neg_int q
end
def qlg:V->V->Bool
 | .non,.non=>true|.non,.int _=>true|.int _,.non=>true|.non,.bl _=>true|.bl _,.non=>true|.non,.str _=>true|.str _,.non=>true
 | .int _,.int _=>true|.bl _,.bl _=>true|.str _,.str _=>true|.byt _,.byt _=>true
 | .int _,.str _=>true|.str _,.int _=>true|.bl _,.str _=>true|.str _,.bl _=>true
 | _,_=>false
def rEq:R2:=fun x y H Q=>qlg x y=true∧Q (.bl (decide (x=y))) H
def rNe:R2:=fun x y H Q=>qlg x y=true∧Q (.bl (!decide (x=y))) H
theorem qfI {i j:Int}:decide (V.int i=V.int j)=(i == j):=by
 rw[Bool.eq_iff_iff];simp
theorem qhT {i j:Bool}:decide (V.bl i=V.bl j)=(i == j):=by
 rw[Bool.eq_iff_iff];simp
theorem qfH {i j:Str}:decide (V.str i=V.str j)=(i == j):=by
 rw[Bool.eq_iff_iff];simp
theorem qfJ {i j:Array UInt8}:decide (V.byt i=V.byt j)=(i.toList == j.toList):=by
 rw[Bool.eq_iff_iff];cases i;cases j;simp
section
variable {X:Cx}{a b c:Expr}{ta tb tc:TE}{pos:Pos}
theorem qI {pins:List (Addr×Obj)}{σ:St}{H:Hp}{s:Shared}{Q:VK}{k k':Bool} (I:Inv X pins σ H s) (q:Q (.bl k) H) (e:k=k'):EP X pins σ Q (.bool k') s:=by
 subst e;exact⟨.bl k,H,I,rfl,q⟩
theorem op_eq:OpR X (compareOp .Eq) rEq:=by
 intro pins s σ H x y v u Q I rx ry h;obtain⟨hs,q⟩:=h
 cases x with
 | non =>
   cases rx
   cases y with
   | non=>cases ry;exact PySem.EqNone.eq_none_none (qI I q (by simp))
   | bl j=>cases ry;exact PySem.EqNone.eq_none_bool (qI I q (by simp))
   | int j=>obtain⟨t',rfl⟩:=ry;exact PySem.EqNone.eq_none_int (qI I q (by simp))
   | str j=>obtain⟨t',rfl⟩:=ry;exact PySem.EqNone.eq_none_str (qI I q (by simp))
   | _=>exact absurd (show false=true from hs) Bool.false_ne_true
 | bl i =>
   cases rx
   cases y with
   | non=>cases ry;exact PySem.EqNone.eq_bool_none (qI I q (by simp))
   | bl j=>cases ry;exact eq_bool (qI I q qhT)
   | str j=>obtain⟨t',rfl⟩:=ry;exact PySem.EqMixed.eq_bool_str (qI I q (by simp))
   | _=>exact absurd (show false=true from hs) Bool.false_ne_true
 | int i =>
   obtain⟨t,rfl⟩:=rx
   cases y with
   | non=>cases ry;exact PySem.EqNone.eq_int_none (qI I q (by simp))
   | int j=>obtain⟨t',rfl⟩:=ry;exact eq_int (qI I q qfI)
   | str j=>obtain⟨t',rfl⟩:=ry;exact PySem.EqMixed.eq_int_str (qI I q (by simp))
   | _=>exact absurd (show false=true from hs) Bool.false_ne_true
 | str i =>
   obtain⟨t,rfl⟩:=rx
   cases y with
   | non=>cases ry;exact PySem.EqNone.eq_str_none (qI I q (by simp))
   | bl j=>cases ry;exact PySem.EqMixed.eq_str_bool (qI I q (by simp))
   | int j=>obtain⟨t',rfl⟩:=ry;exact PySem.EqMixed.eq_str_int (qI I q (by simp))
   | str j=>obtain⟨t',rfl⟩:=ry;exact eq_str (qI I q qfH)
   | _=>exact absurd (show false=true from hs) Bool.false_ne_true
 | byt i =>
   obtain⟨t,rfl⟩:=rx
   cases y with
   | byt j=>obtain⟨t',rfl⟩:=ry;exact PySem.W.eq_bytes (qI I q qfJ)
   | _=>exact absurd (show false=true from hs) Bool.false_ne_true
 | _=>cases y<;>exact absurd (show false=true from hs) Bool.false_ne_true
theorem op_ne:OpR X (compareOp .NotEq) rNe:=by
 intro pins s σ H x y v u Q I rx ry h;obtain⟨hs,q⟩:=h
 cases x with
 | non =>
   cases rx
   cases y with
   | non=>cases ry;exact PySem.EqNone.ne_none_none (qI I q (by simp))
   | bl j=>cases ry;exact PySem.EqNone.ne_none_bool (qI I q (by simp))
   | int j=>obtain⟨t',rfl⟩:=ry;exact PySem.EqNone.ne_none_int (qI I q (by simp))
   | str j=>obtain⟨t',rfl⟩:=ry;exact PySem.EqNone.ne_none_str (qI I q (by simp))
   | _=>exact absurd (show false=true from hs) Bool.false_ne_true
 | bl i =>
   cases rx
   cases y with
   | non=>cases ry;exact PySem.EqNone.ne_bool_none (qI I q (by simp))
   | bl j=>cases ry;exact ne_bool (qI I q (congrArg not qhT))
   | str j=>obtain⟨t',rfl⟩:=ry;exact PySem.EqMixed.ne_bool_str (qI I q (by simp))
   | _=>exact absurd (show false=true from hs) Bool.false_ne_true
 | int i =>
   obtain⟨t,rfl⟩:=rx
   cases y with
   | non=>cases ry;exact PySem.EqNone.ne_int_none (qI I q (by simp))
   | int j=>obtain⟨t',rfl⟩:=ry;exact ne_int (qI I q (congrArg not qfI))
   | str j=>obtain⟨t',rfl⟩:=ry;exact PySem.EqMixed.ne_int_str (qI I q (by simp))
   | _=>exact absurd (show false=true from hs) Bool.false_ne_true
 | str i =>
   obtain⟨t,rfl⟩:=rx
   cases y with
   | non=>cases ry;exact PySem.EqNone.ne_str_none (qI I q (by simp))
   | bl j=>cases ry;exact PySem.EqMixed.ne_str_bool (qI I q (by simp))
   | int j=>obtain⟨t',rfl⟩:=ry;exact PySem.EqMixed.ne_str_int (qI I q (by simp))
   | str j=>obtain⟨t',rfl⟩:=ry;exact ne_str (qI I q (congrArg not qfH))
   | _=>exact absurd (show false=true from hs) Bool.false_ne_true
 | byt i =>
   obtain⟨t,rfl⟩:=rx
   cases y with
   | byt j=>obtain⟨t',rfl⟩:=ry;exact PySem.W.ne_bytes (qI I q (congrArg not qfJ))
   | _=>exact absurd (show false=true from hs) Bool.false_ne_true
 | _=>cases y<;>exact absurd (show false=true from hs) Bool.false_ne_true
theorem qjI:OpR X (compareOp .Lt) (rI0 fun i j=>.bl (decide (i < j))):=qkj fun _ _ _ _ _ _ _ q=>lt_int q
theorem Qt:OpR X (compareOp .LtE) (rI0 fun i j=>.bl (decide (i≤j))):=qkj fun _ _ _ _ _ _ _ q=>le_int q
theorem qeX:OpR X (compareOp .Gt) (rI0 fun i j=>.bl (decide (j < i))):=qkj fun _ _ _ _ _ _ _ q=>gt_int q
theorem qjJ:OpR X (compareOp .GtE) (rI0 fun i j=>.bl (decide (j≤i))):=qkj fun _ _ _ _ _ _ _ q=>ge_int q
theorem OpR.or {f:Value->Value->Sem Value}{r r':R2} (h:OpR X f r) (h':OpR X f r'):OpR X f (fun x y H Q=>r x y H Q∨r' x y H Q):=by
 intro pins s σ H x y v u Q I rx ry q;rcases q with q|q
 · exact h pins s σ H x y v u Q I rx ry q
 · exact h' pins s σ H x y v u Q I rx ry q
theorem qz (b:Expr) {op:CmpOp} (h:op≠.In:=by decide) (h2:op≠.NotIn:=by decide):behindInMarks op b=false:=by
 have e1:(op == CmpOp.In)=false:=by cases op<;>first|rfl|exact absurd rfl h
 have e2:(op == CmpOp.NotIn)=false:=by cases op<;>first|rfl|exact absurd rfl h2
 cases b<;>simp[behindInMarks,e1,e2]
theorem zv {op:CmpOp}{r:R2} (ho:OpR X (compareOp op) r) (ha:PE X a ta) (hb:PE X b tb) (hm:behindInMarks op b=false):PE X (.Compare a [op] [b] pos) (tOp r ta tb):=by
 intro pins s σ H Q I h;exact wpAny_Compare1 (qk5 ha hb I h fun v u s2 x y H2 I2 rx ry q=>ho pins s2 σ H2 x y v u Q I2 rx ry q) hm
inductive qej (Q:(Bool->Hp->Prop)) (x:V) (H':Hp):Prop
 | mk (k:_) (h1:x=.bl k) (h2:Q k H'):qej Q x H'
def qjn (t:TE):TT:=fun σ H Q=>t σ H fun x H'=>qej Q x H'
theorem qy {op:CmpOp}{r:R2} (ho:OpR X (compareOp op) r) (ha:PE X a ta) (hb:PE X b tb) (hm:behindInMarks op b=false):PT X (.Compare a [op] [b] pos) (qjn (tOp r ta tb)):=by
 intro pins s σ H Q I h
 refine wpAny_isTrue_Compare1 (thn (ha pins s σ H _ I h) fun v s1 ⟨x,H1,I1,r1,q1⟩=>thn (hb pins s1 σ H1 _ I1 q1) fun u s2 ⟨y,H2,I2,r2,q2⟩ =>
   thn (ho pins s2 σ H2 x y v u _ I2 r1 r2 q2) fun c s3 ⟨z,H3,I3,r3,k,e,q3⟩=>?_) hm
 subst e;cases r3;exact wpAny_truthy_bool ⟨H3,I3,q3⟩
def qhw (r r':R2) (ta tb tc:TE):TE:=fun σ H Q=>ta σ H fun x H1=>tb σ H1 fun y H2=>r x y H2 fun z H3=>∃ k,z=.bl k ∧
 (if k=true then tc σ H3 fun w' H4=>r' y w' H4 Q else Q (.bl false) H3)
theorem Zx {op op':CmpOp}{r r':R2} (ho:OpR X (compareOp op) r) (ho':OpR X (compareOp op') r') (ha:PE X a ta) (hb:PE X b tb) (hc:PE X c tc)
   (hm:lastMarks [op,op'] [b,c]=false:=by with_unfolding_all rfl):PE X (.Compare a [op,op'] [b,c] pos) (qhw r r' ta tb tc):=by
 intro pins s σ H Q I h
 refine Compare_chain (thn (ha pins s σ H _ I h) fun v s1 ⟨x,H1,I1,r1,q1⟩=>chain_link (thn (hb pins s1 σ H1 _ I1 q1) fun u s2 ⟨y,H2,I2,r2,q2⟩ =>
   thn (ho pins s2 σ H2 x y v u _ I2 r1 r2 q2) fun d s3 ⟨z,H3,I3,r3,k,e,q3⟩=>?_)) hm
 subst e;cases r3;refine wpAny_truthy_bool ?_
 cases k with
 | false=>exact ite_ff ⟨.bl false,H3,I3,rfl,q3⟩
 | true=>exact ite_tt (chain_last (thn (hc pins s3 σ H3 _ I3 q3) fun w' s4 ⟨z',H4,I4,r4,q4⟩=>ho' pins s4 σ H4 y z' u w' Q I4 r2 r4 q4))
theorem qgq {op op':CmpOp}{r r':R2} (ho:OpR X (compareOp op) r) (ho':OpR X (compareOp op') r') (ha:PE X a ta) (hb:PE X b tb) (hc:PE X c tc)
   (hm:lastMarks [op,op'] [b,c]=false:=by with_unfolding_all rfl):PT X (.Compare a [op,op'] [b,c] pos) (qjn (qhw r r' ta tb tc)):=by
 intro pins s σ H Q I h
 refine isTrue_chain (thn (ha pins s σ H _ I h) fun v s1 ⟨x,H1,I1,r1,q1⟩=>test_link (thn (hb pins s1 σ H1 _ I1 q1) fun u s2 ⟨y,H2,I2,r2,q2⟩ =>
   thn (ho pins s2 σ H2 x y v u _ I2 r1 r2 q2) fun d s3 ⟨z,H3,I3,r3,k,e,q3⟩=>?_)) hm
 subst e;cases r3;refine wpAny_truthy_bool ?_
 cases k with
 | false =>
   obtain⟨k',e',q'⟩:=q3;cases e';exact ite_ff ⟨H3,I3,q'⟩
 | true =>
   refine ite_tt (test_last (thn (hc pins s3 σ H3 _ I3 q3) fun w' s4 ⟨z',H4,I4,r4,q4⟩=>thn (ho' pins s4 σ H4 y z' u w' _ I4 r2 r4 q4) fun d' s5 zz_=>?_));obtain⟨z2,H5,I5,r5,k2,e2,q5⟩:=zz_;subst e2;cases r5;exact wpAny_truthy_bool ⟨H5,I5,q5⟩
def qlv (K:Frag) (x:V) (H:Hp) (k:Bool):Prop :=
 match x with
 | .non=>k=false
 | .bl b=>k=b
 | .int i=>k=(i != 0)
 | .str y=>y.length≤sizeLine∧k=((y.length:Int) != 0)
 | .byt y=>y.size≤sizeLine∧k=((y.size:Int) != 0)
 | .ref p=>(∃ xs,SqL K H p xs∧k=!xs.isEmpty)∨(∃ xs,SqT K H p xs∧k=!xs.isEmpty)∨∃ kvs,H p=some (.dK kvs)∧k=!kvs.isEmpty
 | _=>False
theorem qd4 {κ:Type}{kvs:List (κ×V)}{vs:List (κ×Value)} (r:KV kvs vs):(!vs.isEmpty)=!kvs.isEmpty:=by
 cases r<;>rfl
theorem qaM {xs:List V}{its:List Value} (r:Vals xs its):(!its.toArray.isEmpty)=!xs.isEmpty:=by
 cases r<;>simp
theorem qaL:(sizeLine:Nat) < 2 ^ 63:=by rw[sizeLine_eq];decide
theorem qjf:qlZ X (fun x H Q=>∃ k,qlv X.K x H k∧Q k H):=by
 intro pins s σ H x v Q I rx h;obtain⟨k,e,q⟩:=h;have hl:=qaL;have hs:sizeLine=16777216:=sizeLine_eq
 cases x with
 | non =>
   cases rx;have e':k=false:=e;subst e';exact truthy_none ⟨H,I,q⟩
 | bl b =>
   cases rx;have e':k=b:=e;subst e';exact wpAny_truthy_bool ⟨H,I,q⟩
 | int i =>
   obtain⟨t,rfl⟩:=rx;have e':k=(i != 0):=e;subst e';exact PySem.P.truthy_int ⟨H,I,q⟩
 | str y =>
   obtain⟨t,rfl⟩:=rx;obtain⟨hy,e'⟩:y.length≤sizeLine∧k=((y.length:Int) != 0):=e;subst e';exact PySem.P.truthy_str (by omega) ⟨H,I.tok _,q⟩
 | byt y =>
   obtain⟨t,rfl⟩:=rx;obtain⟨hy,e'⟩:y.size≤sizeLine∧k=((y.size:Int) != 0):=e;subst e';exact PySem.W.truthy_bytes (by omega) ⟨H,I.tok _,q⟩
 | ref p =>
   cases rx;have e':(∃ xs,SqL X.K H p xs∧k=!xs.isEmpty)∨(∃ xs,SqT X.K H p xs∧k=!xs.isEmpty)∨∃ kvs,H p=some (.dK kvs)∧k=!kvs.isEmpty:=e;rcases e' with ⟨xs,hx,e'⟩|⟨xs,hx,e'⟩|⟨kvs,hx,e'⟩
   · subst e';obtain⟨its,r,pl,hz⟩:=I.list hx;have hlen:=r.length;exact wpAny_truthy_list pl.isList (by simp only[List.size_toArray];omega) ⟨H,I.tok _,by rw[qaM r];exact q⟩
   · subst e';obtain⟨its,r,pl,hz⟩:=I.tuple hx;have hlen:=r.length;exact truthy_tuple pl (by simp only[List.size_toArray];omega) ⟨H,I.tok _,by rw[qaM r];exact q⟩
   · subst e';obtain⟨hz,hS,vs,r,m⟩:kvs.length≤sizeLine∧(p == sysModules)=false∧∃ vs,KV kvs vs∧s.heap.DictOf (zm X.prog X.w) p vs:=I.hok p _ hx;have hlen:kvs.length=vs.length:=Paired.length r;exact wpAny_truthy_dict hS m (by omega) ⟨H,I.tok _,by rw[qd4 r];exact q⟩
 | _=>exact(show False from e).elim
theorem qdh (ha:PE X a ta) (he:∀ whole,isTrue a X.env whole=(do let v ← whole;standAt a.pos;holding [v] (truthy v))) :
   PT X a (fun σ H Q=>ta σ H fun x H'=>∃ k,qlv X.K x H' k∧Q k H'):=by
 intro pins s σ H Q I h;exact isTrue_plain (thn (ha pins s σ H _ I h) fun v s1 ⟨x,H1,I1,r1,q1⟩=>qjf pins s1 σ H1 x v Q I1 r1 q1) (he _)
theorem qdR:OpR X (binaryOp .Add) (fun x y H Q=>∃ i j,x=.str i∧y=.str j∧i.length+j.length≤sizeLine∧Q (.str (i++j)) H):=by
 intro pins s σ H x y v u Q I rx ry h;obtain⟨i,j,rfl,rfl,hz,q⟩:=h;obtain⟨t,rfl⟩:=rx;obtain⟨t',rfl⟩:=ry;exact add_str (fun t' tk=>⟨.str (i++j),H,I.tok _,⟨_,rfl⟩,q⟩) hz
theorem Ji {x:V}{us:List Value} (r:Vals [x] us):∃ u,us=[u]∧RelV x u:=by
 cases r with
 | cons r1 r2=>cases r2;exact⟨_,rfl,r1⟩
theorem qcj {x y:V}{us:List Value} (r:Vals [x,y] us):∃ u w',us=[u,w']∧RelV x u∧RelV y w':=by
 cases r with
 | cons r1 r2 =>
   cases r2 with
   | cons r3 r4=>cases r4;exact⟨_,_,rfl,r1,r3⟩
theorem zg (hc:X.calm=true):CallR X (.builtin "max") (fun xs H Q=>∃ i j,xs=[.int i,.int j]∧Q (.int (if j > i then j else i)) H):=by
 intro pins s σ H xs us Q I r h;obtain⟨i,j,rfl,q⟩:=h;obtain⟨u,w',rfl,⟨t,rfl⟩,⟨t',rfl⟩⟩:=qcj r;refine max_two_ints (I.ok.hd hc) fun h' tk k=>⟨_,H,I.kept k,?_,q⟩
 by_cases hj:j > i
 · rw[if_pos hj,if_pos hj];exact⟨_,rfl⟩
 · rw[if_neg hj,if_neg hj];exact⟨_,rfl⟩
theorem zL (hc:X.calm=true):CallR X (.builtin "min") (fun xs H Q=>∃ i j,xs=[.int i,.int j]∧Q (.int (if j < i then j else i)) H):=by
 intro pins s σ H xs us Q I r h;obtain⟨i,j,rfl,q⟩:=h;obtain⟨u,w',rfl,⟨t,rfl⟩,⟨t',rfl⟩⟩:=qcj r;refine min_two_ints (I.ok.hd hc) fun h' tk k=>⟨_,H,I.kept k,?_,q⟩
 by_cases hj:j < i
 · rw[if_pos hj,if_pos hj];exact⟨_,rfl⟩
 · rw[if_neg hj,if_neg hj];exact⟨_,rfl⟩
theorem qb8:CallR X (.type "int") (fun xs H Q=>(∃ i,xs=[.int i]∧Q (.int i) H)∨∃ k,xs=[.bl k]∧Q (.int (if k then 1 else 0)) H):=by
 intro pins s σ H xs us Q I r h;rcases h with ⟨i,rfl,q⟩|⟨k,rfl,q⟩
 · obtain⟨u,rfl,t,rfl⟩:=Ji r;exact call_int_int ⟨.int i,H,I,⟨_,rfl⟩,q⟩
 · obtain⟨u,rfl,r1⟩:=Ji r;cases r1;exact call_int_bool ⟨.int (if k then 1 else 0),H,I.tok _,⟨_,rfl⟩,q⟩
def ql1 (K:Frag) (x:V) (H:Hp) (n:Nat):Prop :=
 match x with
 | .str y=>y.length≤sizeLine∧n=y.length
 | .byt y=>y.size≤sizeLine∧n=y.size
 | .ref p=>(∃ xs,SqL K H p xs∧n=xs.length)∨∃ xs,SqT K H p xs∧n=xs.length
 | _=>False
theorem zx:CallR X (.builtin "len") (fun xs H Q=>∃ x n,xs=[x]∧ql1 X.K x H n∧Q (.int n) H):=by
 intro pins s σ H xs us Q I r h;obtain⟨x,n,rfl,e,q⟩:=h;obtain⟨u,rfl,rx⟩:=Ji r;have hl:=qaL;have hs:sizeLine=16777216:=sizeLine_eq
 cases x with
 | str y =>
   obtain⟨t,rfl⟩:=rx;obtain⟨hy,e'⟩:y.length≤sizeLine∧n=y.length:=e;subst e';exact len_str (by omega) ⟨.int _,H,I.tok _,⟨_,rfl⟩,q⟩
 | byt y =>
   obtain⟨t,rfl⟩:=rx;obtain⟨hy,e'⟩:y.size≤sizeLine∧n=y.size:=e;subst e';exact PySem.W.len_bytes (by omega) ⟨.int _,H,I.tok _,⟨_,rfl⟩,q⟩
 | ref p =>
   cases rx;have e':(∃ xs,SqL X.K H p xs∧n=xs.length)∨∃ xs,SqT X.K H p xs∧n=xs.length:=e;rcases e' with ⟨xs,hx,e'⟩|⟨xs,hx,e'⟩
   · subst e';obtain⟨its,r',pl,hz⟩:=I.list hx;have hlen:=r'.length;exact Calls.call_len_list pl.isList (by simp only[List.size_toArray];omega) ⟨.int xs.length,H,I.tok _,⟨_,by simp only[List.size_toArray];rw[hlen]⟩,q⟩
   · subst e';obtain⟨its,r',pl,hz⟩:=I.tuple hx;have hlen:=r'.length;exact len_tuple pl (by simp only[List.size_toArray];omega) ⟨.int xs.length,H,I.tok _,⟨_,by simp only[List.size_toArray];rw[hlen]⟩,q⟩
 | _=>exact(show False from e).elim
theorem qcJ:CallR X (.builtin "divmod") (fun xs H Q=>∃ i j,xs=[.int i,.int j]∧qlB i j∧∀ p,H p=none->Q (.ref p) (upd H p (.tup [.int (i / j),.int (i % j)]))):=by
 intro pins s σ H xs us Q I r h;obtain⟨i,j,rfl,⟨h1,h2⟩,q⟩:=h;obtain⟨u,w',rfl,⟨t,rfl⟩,⟨t',rfl⟩⟩:=qcj r;refine divmod_int (by omega) ?_ (.inl (PyProof.noPylong_small (by omega)));rw[Int.fdiv_eq_ediv_of_nonneg i (by omega),Int.fmod_eq_emod_of_nonneg i (by omega)];have hn:H s.heap.objs.size=none:=I.hok.fresh (Nat.le_refl _);refine⟨.ref s.heap.objs.size,_,?_,rfl,q _ hn⟩;refine I.laid (fun b o e=>Heap.get?_push_of_some _ e) (Nat.le_refl _) ⟨by simp only[List.length_cons,List.length_nil];rw[sizeLine_eq];decide,[.int (i / j) s.toks,.int (i % j) (s.toks+1)],.cons ⟨_,rfl⟩ (.cons ⟨_,rfl⟩ .nil),?_⟩;exact⟨_,Heap.get?_push_size s.heap rfl,rfl,0,rfl⟩
end
structure ObjM (h:Heap) (x dx C:Addr) (mA:Str->Option Value):Prop where
 obj:h.get? x=some (instObj C dx)
 ns:h.Ns1 dx mA
 ne:dx≠x
theorem qbX {h:Heap}{dx:Addr}{mA:Str->Option Value} (n:h.Ns1 dx mA):∃ od,h.get? dx=some od∧∀ name,lookIn name od=some (mA name):=by
 obtain⟨o,es,ep,ho,hd,hk,_,hm⟩:=n;refine⟨o,ho,fun name=>?_⟩;have e:=hm name;unfold nsFind findBy at e;rw[← Array.find?_toList]at e;unfold lookIn;rw[hd];dsimp only;split
 · rename_i y q
   rw[q]at e;exact congrArg some e
 · rename_i q
   rw[q]at e
   have a:es.toList.any (·.refKey)=false:=by
     rw[List.any_eq_false];intro y hy;obtain⟨z,t,hkey⟩:=hk y (Array.mem_toList_iff.mp hy);simp[DictEntry.refKey,hkey]
   have a':¬ es.toList.any (·.refKey)=true:=by rw[a];exact Bool.false_ne_true
   rw[if_neg a'];exact congrArg some e
theorem ObjM.look {h:Heap}{x dx C:Addr}{mA:Str->Option Value} (I:ObjM h x dx C mA):∃ od,PySem.W.InstAt h x (instObj C dx) C (some od)∧∀ name,lookIn name od=some (mA name) :=
 let ⟨od,ho,hl⟩:=qbX I.ns
 ⟨od,⟨I.obj,rfl,rfl,ho⟩,hl⟩
section
variable {prog:Program}{w:World}{A:Around}{E:Value->Shared->Prop}{s:Shared}{K:Frag}{x dx C f:Addr}{mA:Str->Option Value}{name:Str}{v:Value}
theorem qiM {expr:Bool}{Q:Value->Shared->Prop} (X:K.In s.heap) (I:ObjM s.heap x dx C mA) (hg:plainGet K C name=true) (hh:hasDictIn K C=true)
   (ha:findIn K (.ref C) name=some none) (hv:mA name=some v) (hv':handedIn v=true) (h:Q v { s with toks:=s.toks+1 }) :
   wpAny (model prog w) A (getAttr (.ref x) name expr) Q E s:=by
 obtain⟨od,J,hl⟩:=I.look;exact PySem.W.get_value X J (plainGet_of hg).1 (PySem.W.findObj_own hh ha rfl (by rw[hl,hv])) hv' h
theorem qhb {pl:Sem Bool}{Q:Value×List Value->Shared->Prop} (X:K.In s.heap) (I:ObjM s.heap x dx C mA) (hg:plainGet K C name=true)
   (hf:findIn K (.ref C) name=some (some (.ref f))) (ht:isFn K (.ref f)=true) (hv:mA name=none) (h:Q (.ref f,[.ref x]) s) :
   wpAny (model prog w) A (getMethod (.ref x) name pl) Q E s:=by
 obtain⟨od,J,hl⟩:=I.look;exact PySem.W.method_fn X J (plainGet_of hg).1 (plainGet_of hg).2 hf (beq_iff_eq.mp ht) (by show (lookIn name od).map (·.isSome)=some false;rw[hl,hv];rfl) h
theorem qif {ns:List Str}{Q:Unit->Shared->Prop} (X:K.In s.heap) (I:ObjM s.heap x dx C mA)
   (hs:findIn K (.ref C) "__setattr__"=some (some (.builtin "object.__setattr__"))) (hp:plainOver K C=true) (ht:takerIn K C name=some none) (hh:hasDictIn K C=true)
   (hw:PySem.Within mA ns) (hsz:ns.length≤sizeLine)
   (h:∀ h',ObjM h' x dx C (fun y=>if y=name then some v else mA y)->Heap.SameBut dx s.heap h'->Q () { s with heap:=h',toks:=s.toks+2 }) :
   wpAny (model prog w) A (setAttr (.ref x) name v) Q E s:=by
 obtain⟨od,J,hl⟩:=I.look;refine PySem.W.set_plain X J hs (PySem.W.osa_open (s:={ s with toks:=s.toks+1 }) (r:=none) X J hp ht fun b=>?_);obtain⟨cd,hc,hd'⟩:=PySem.W.any_some hh;have hx:s.heap.get? x=some ⟨.ref C,some dx,.plain,#[]⟩:=I.obj;refine wpAny_bind (wpAny_pure (wpAny_bind (wpAny_bind (wpAny_loadPart hx (wpAny_bind (PySem.W.Looks.here (s:={ s with toks:=s.toks+1 }) (PySem.W.looks_clsIn X hc) ?_))))));rw[hd'];refine wpAny_pure (a:=some dx) (wpAny_bind (wpAny_pure (wpAny_bind ?_)));refine wpAny_nsSet1 (s:={ s with toks:=s.toks+1 }) I.ns fun h' hn2 hs2=>?_;obtain⟨oD,esD,epD,hoD,hdD,hcD⟩:=hn2.count (PySem.Within.cons name v hw);refine wpAny_bind (wpAny_lookBehind hoD (by rw[hdD];exact pastItsLine_dict (Nat.le_trans hcD (by rw[List.length_cons];omega))) ?_);exact wpAny_pure (h _ ⟨(hs2.2 _ (Ne.symm I.ne)).trans I.obj,hn2,I.ne⟩ hs2)
theorem qgM {R:Result->Shared->Prop}{vs:List Value}{kw:List (Str×Value)} (X:K.In s.heap) (hm:makesIn K C=true)
   (hi:findIn K (.ref C) "__init__"=some (some (.ref f))) (hf:PySem.W.typeIn K (.ref f)=some (.type "function"))
   (h:codeAny (model prog w) (A.under (.builtin "type.__call__" ⟨.ref C::vs,kw⟩)) (.call (.ref f) ⟨.ref (s.heap.objs.size+1)::vs,kw⟩) (PySem.W.InitBack (s.heap.objs.size+1) R)
     { s with heap:=(s.heap.push emptyDict).push (instObj C s.heap.objs.size) }) :
   codeAny (model prog w) A (.call (.ref C) ⟨vs,kw⟩) R s:=by
 obtain⟨hh,g,d,t,os⟩:=s;exact PySem.W.make_core (PySem.W.makes_of X hm) (PySem.W.looks_findIn X hi) (fun self=>PySem.W.bind_fn X self hf) (.inl rfl) h
end
def qbM (f:Str) (v:V):List (Str×V)->List (Str×V)
 | []=>[(f,v)]
 | (g,x)::r=>if g=f then (g,v)::r else (g,x)::qbM f v r
theorem QS (f g:Str) (v:V):∀ fs:List (Str×V),(qbM f v fs).lookup g=if g=f then some v else fs.lookup g
 | []=>by
   show List.lookup g [(f,v)]=_;by_cases h:g=f
   · have hb:(g == f)=true:=beq_iff_eq.mpr h;simp only[List.lookup,hb,if_pos h]
   · have hb:(g == f)=false:=beq_eq_false_iff_ne.mpr h;simp only[List.lookup,hb,if_neg h]
 | (k,x)::r=>by
   have ih:=QS f g v r;rw[show qbM f v ((k,x)::r)=(if k=f then (k,v)::r else (k,x)::qbM f v r) from rfl];by_cases hk:k=f
   · rw[if_pos hk];by_cases h:g=k
     · have hb:(g == k)=true:=beq_iff_eq.mpr h;simp only[List.lookup,hb,if_pos (h.trans hk)]
     · have hb:(g == k)=false:=beq_eq_false_iff_ne.mpr h;simp only[List.lookup,hb,if_neg (fun e:g=f=>h (e.trans hk.symm))]
   · rw[if_neg hk];by_cases h:g=k
     · have hb:(g == k)=true:=beq_iff_eq.mpr h;simp only[List.lookup,hb,if_neg (fun e:g=f=>hk (h.symm.trans e))]
     · have hb:(g == k)=false:=beq_eq_false_iff_ne.mpr h;simp only[List.lookup,hb];exact ih
theorem JV (f:Str) (v:V):∀ fs:List (Str×V),f∈(qbM f v fs).map (·.1)∧∀ g,g∈fs.map (·.1)->g∈(qbM f v fs).map (·.1)
 | []=>⟨by simp[qbM],fun g h=>by simp at h⟩
 | (k,x)::r=>by
   obtain⟨i1,i2⟩:=JV f v r;rw[show qbM f v ((k,x)::r)=(if k=f then (k,v)::r else (k,x)::qbM f v r) from rfl];by_cases hk:k=f
   · rw[if_pos hk];subst hk;exact⟨by simp,fun g h=>by simpa using h⟩
   · rw[if_neg hk];refine⟨?_,fun g h=>?_⟩
     · rw[List.map_cons];exact List.mem_cons_of_mem _ i1
     · rw[List.map_cons]at h ⊢;rcases List.mem_cons.mp h with e|e
       · exact List.mem_cons.mpr (.inl e)
       · exact List.mem_cons_of_mem _ (i2 g e)
theorem JT (f:Str) (v:V):∀ fs:List (Str×V),(qbM f v fs).length≤fs.length+1
 | []=>by simp[qbM]
 | (k,x)::r=>by
   have ih:=JT f v r;rw[show qbM f v ((k,x)::r)=(if k=f then (k,v)::r else (k,x)::qbM f v r) from rfl];by_cases hk:k=f
   · rw[if_pos hk,List.length_cons,List.length_cons];omega
   · rw[if_neg hk,List.length_cons,List.length_cons];omega
theorem RelO.some_of {v:V}{o:Option Value} (r:RelO (some v) o):∃ u,o=some u∧RelV v u:=by
 cases o with
 | none=>exact(show False from r).elim
 | some u=>exact⟨u,rfl,r⟩
theorem RelO.none_of {o:Option Value} (r:RelO none o):o=none:=by
 cases o with
 | none=>rfl
 | some u=>exact(show False from r).elim
theorem qb4 {v:V}{u:Value} (r:RelV v u):handedIn u=true:=by
 cases v with
 | non=>cases (show u=Value.none from r);rfl
 | bl b=>cases (show u=Value.bool b from r);rfl
 | int i=>obtain⟨t,e⟩:=(show ∃ t,u=Value.int i t from r);cases e;rfl
 | str x=>obtain⟨t,e⟩:=(show ∃ t,u=Value.str x t from r);cases e;rfl
 | byt b=>obtain⟨t,e⟩:=(show ∃ t,u=Value.bytes b t from r);cases e;rfl
 | flt b=>obtain⟨t,e⟩:=(show ∃ t,u=Value.float b t from r);cases e;rfl
 | ref a=>cases (show u=Value.ref a from r);rfl
 | ty n=>cases (show u=Value.type n from r);rfl
section
variable {P:Program}{w:World}{H H':Hp}{h h':Heap}{a C dx:Addr}{fs fs':List (Str×V)}
theorem JX (hok:HOk P w H h) (e:H a=some (.ins C dx fs)):∃ mA,ObjM h a dx C mA∧(∀ f,RelO (fs.lookup f) (mA f))∧PySem.Within mA (fs.map (·.1))∧fs.length≤1000∧H dx=some (.own a):=by
 obtain⟨d,z,ne,ob,mA,n,r,q⟩:=(show ObjOk P w H h a (.ins C dx fs) from hok a _ e)
 exact⟨mA,⟨ob,n,ne⟩,r,q,z,d⟩
end
structure Cls (K:Frag) (C:Addr):Prop where
 pg:plainGet K C Str.empty=true
 hd:hasDictIn K C=true
 po:plainOver K C=true
 sa:findIn K (.ref C) "__setattr__"=some (some (.builtin "object.__setattr__"))
theorem Cls.get {K:Frag}{C:Addr} (c:Cls K C) (f:Str):plainGet K C f=true:=c.pg
def NoAttr (K:Frag) (C:Addr) (f:Str):Prop:=findIn K (.ref C) f=some none
theorem NoAttr.taker {K:Frag}{C:Addr}{f:Str} (n:NoAttr K C f):takerIn K C f=some none:=by
 unfold takerIn;rw[show findIn K (.ref C) f=some none from n];rfl
structure qf5 (K:Frag) (C:Addr) (m:Str) (f:Addr):Prop where
 at_:findIn K (.ref C) m=some (some (.ref f))
 fn:isFn K (.ref f)=true
 kp:keepIn K (.ref f)=true
section
variable {X:Cx}{pins:List (Addr×Obj)}{σ:St}{H:Hp}{s:Shared}{a C dx:Addr}{fs:List (Str×V)}{f:Str}{v:V}{A:Around}{E:Value->Shared->Prop}
theorem qd7 {b:Bool}{Q:Value->Shared->Prop} (I:Inv X pins σ H s) (e:H a=some (.ins C dx fs)) (c:Cls X.K C) (n:NoAttr X.K C f) (l:fs.lookup f=some v)
   (h:∀ u s',Inv X pins σ H s'->RelV v u->Q u s'):wpAny (model X.prog X.w) A (getAttr (.ref a) f b) Q E s:=by
 obtain⟨mA,O,r,_,_,_⟩:=JX I.hok e;obtain⟨u,hu,ru⟩:=RelO.some_of (v:=v) (o:=mA f) (by rw[← l];exact r f);exact qiM I.kIn O (c.get f) c.hd n hu (qb4 ru) (h u _ (I.tok _) ru)
theorem jA {m:Str}{g:Addr}{pl:Sem Bool}{Q:Value×List Value->Shared->Prop} (I:Inv X pins σ H s) (e:H a=some (.ins C dx fs)) (c:Cls X.K C) (k:qf5 X.K C m g) (l:fs.lookup m=none)
   (h:Q (.ref g,[.ref a]) s):wpAny (model X.prog X.w) A (getMethod (.ref a) m pl) Q E s:=by
 obtain⟨mA,O,r,_,_,_⟩:=JX I.hok e;have hn:mA m=none:=RelO.none_of (by rw[← l];exact r m);exact qhb I.kIn O (c.get m) k.at_ k.fn hn h
theorem qdK {y:V}{u:Value}{Q:Unit->Shared->Prop} (I:Inv X pins σ H s) (e:H a=some (.ins C dx fs)) (c:Cls X.K C) (n:NoAttr X.K C f) (hl:fs.length < 1000) (ry:RelV y u)
   (h:∀ s',Inv X pins σ (upd H a (.ins C dx (qbM f y fs))) s'->Q () s'):wpAny (model X.prog X.w) A (setAttr (.ref a) f u) Q E s:=by
 obtain⟨mA,O,r,wi,_,ho⟩:=JX I.hok e;have hz:(fs.map (·.1)).length≤sizeLine:=by rw[List.length_map,sizeLine_eq];omega
 refine qif I.kIn O c.sa c.po n.taker c.hd wi hz fun h' O' sb=>h _ ?_;have hd:∃ o,h'.get? dx=some o:=let ⟨o,_,_,e',_⟩:=O'.ns;⟨o,e'⟩;refine I.write (x:=a) (e:=dx) (by rw[e];exact True.intro) (.inr ho) (fun b q hb z=>(sb.2 b hb).trans z) hd ?_;refine⟨by rw[qi O.ne];exact ho,?_,O.ne,O'.obj,_,O'.ns,fun g=>?_,fun g hg=>?_⟩
 · have:=JT f y fs;omega
 · show RelO ((qbM f y fs).lookup g) (if g=f then some u else mA g);rw[QS];by_cases q:g=f
   · rw[if_pos q,if_pos q];exact ry
   · rw[if_neg q,if_neg q];exact r g
 · by_cases q:g=f
   · rw[q];exact(JV f y fs).1
   · refine(JV f y fs).2 g (wi g fun z=>hg ?_);show (if g=f then some u else mA g)=none;rw[if_neg q];exact z
theorem Inv.made (I:Inv X pins σ H s):Inv X pins σ (upd (upd H s.heap.objs.size (.own (s.heap.objs.size+1))) (s.heap.objs.size+1) (.ins C s.heap.objs.size []))
   { s with heap:=(s.heap.push emptyDict).push (instObj C s.heap.objs.size) }:=by
 have e1:(s.heap.push emptyDict).get? s.heap.objs.size=some emptyDict:=Heap.get?_push_size s.heap rfl
 have e2:((s.heap.push emptyDict).push (instObj C s.heap.objs.size)).get? (s.heap.objs.size+1)=some (instObj C s.heap.objs.size):=by
   have:=Heap.get?_push_size (s.heap.push emptyDict) (o:=instObj C s.heap.objs.size) rfl
   rwa [Heap.size_push]at this
 have e3:(s.heap.push emptyDict).Ns s.heap.objs.size (fun _=>none):=⟨emptyDict,#[],_,e1,rfl,(fun e he=>absurd he (by simp)),fun _=>rfl⟩
 have I1:=I.laid (a:=s.heap.objs.size) (o:=.own (s.heap.objs.size+1)) (h':=s.heap.push emptyDict) (t':=s.toks) (fun b u q=>Heap.get?_push_of_some _ q) (Nat.le_refl _) ⟨_,e1⟩;refine I1.laid (a:=s.heap.objs.size+1) (o:=.ins C s.heap.objs.size []) (t':=s.toks) (fun b u q=>Heap.get?_push_of_some _ q) (Nat.le_of_eq (Heap.size_push _ _)) ?_;have ne:s.heap.objs.size≠s.heap.objs.size+1:=Nat.ne_of_lt (Nat.lt_succ_self _);refine⟨by rw[qi ne,qb],Nat.zero_le _,ne,e2,fun _=>none,(Heap.Ns1.of_empty e3).at fun o q=>Heap.get?_push_of_some _ q,fun _=>True.intro,fun y hy=>absurd rfl hy⟩
theorem qf1 {prog:Program}{w:World}{env:Env}{e:Expr}{f:Str}{pos:Pos}{s:Shared}{Q:Value->Shared->Prop} (hb:attributeBase e f env (eval e env)=eval e env)
   (h:wpAny (model prog w) A (eval e env) (fun o s₁=>wpAny (model prog w) A (getAttr o f true) Q E s₁) E s):wpAny (model prog w) A (eval (.Attribute e f pos) env) Q E s :=
 Attribute_any_ h (by rw[arm_eval_Attribute,hb])
end
inductive qhv (K:Frag) (f:Str) (Q:VK) (x:V) (H1:Hp):Prop
 | mk (a C dx fs v:_) (h1:x=.ref a) (h2:H1 a=some (.ins C dx fs)) (h3:Cls K C) (h4:NoAttr K C f) (h5:fs.lookup f=some v) (h6:Q v H1):qhv K f Q x H1
def qlI (K:Frag) (ta:TE) (f:Str):TE:=fun σ H Q=>ta σ H fun x H1=>qhv K f Q x H1
def qlL (K:Frag) (ta tv:TE) (f:Str):TS:=fun D σ H=>tv σ H fun y H1=>ta σ H1 fun x H2=>∃ a C dx fs,x=.ref a∧H2 a=some (.ins C dx fs)∧Cls K C∧NoAttr K C f∧fs.length < 1000 ∧
 D.nx σ (upd H2 a (.ins C dx (qbM f y fs)))
section
variable {X:Cx}{o e value:Expr}{f:Str}{pos pos' tpos:Pos}{ta tv:TE}
theorem zc (he:PE X e ta) (hb:attributeBase e f X.env (eval e X.env)=eval e X.env):PE X (.Attribute e f pos) (qlI X.K ta f):=by
 intro pins s σ H Q I h;refine qf1 hb (thn (he pins s σ H _ I h) fun u s1 zz_=>?_);obtain⟨x,H1,I1,rx,a,C,dx,fs,v,ex,ea,c,n,l,q⟩:=zz_;subst ex;obtain rfl:u=Value.ref a:=rx;exact qd7 I1 ea c n l fun u' s2 I2 ru=>⟨v,H1,I2,ru,q⟩
theorem jb (ha:PE X o ta) (hv:PE X value tv) (hs:swapsWith value (some (.Attribute o f pos')) pos.line X.env=pure false):PS X (.Assign [.Attribute o f pos'] value pos) (qlL X.K ta tv f):=by
 intro pins s σ H D I h;refine plainObj_wpAny_Assign_Attribute (thn (hv pins s σ H _ I h) fun u s1 ⟨y,H1,I1,ry,q⟩=>thn (ha pins s1 σ H1 _ I1 q) fun ov s2 zz_=>?_) hs;obtain⟨x,H2,I2,rx,a,C,dx,fs,ex,ea,c,n,l,q2⟩:=zz_;subst ex;obtain rfl:ov=Value.ref a:=rx;exact qdK I2 ea c n l ry fun s3 I3=>⟨σ,_,I3,q2⟩
end
section
variable {X:Cx}{pins:List (Addr×Obj)}{σ:St}{H:Hp}{s:Shared}{A:Around}{E:Value->Shared->Prop}{Q:Value->Shared->Prop}{c:Value}{b:Bool}
inductive qcN (K:Frag) (H:Hp):V->Value->Prop where
 | non:qcN K H .non (.type "NoneType")
 | bl (x:Bool):qcN K H (.bl x) (.type "bool")
 | int (i:Int):qcN K H (.int i) (.type "int")
 | str (x:Str):qcN K H (.str x) (.type "str")
 | flt (x:UInt64):qcN K H (.flt x) (.type "float")
 | lst {a:Addr}{xs:List V} (e:H a=some (.lst xs)):qcN K H (.ref a) (.type "list")
 | frz {a:Addr}{o:Obj}{xs:List V} (e:H a=some (.frz o (.lst xs))):qcN K H (.ref a) (.type "list")
 | tup {a:Addr}{xs:List V} (e:H a=some (.tup xs)):qcN K H (.ref a) (.type "tuple")
 | dK {a:Addr}{kvs:List (Key×V)} (e:H a=some (.dK kvs)):qcN K H (.ref a) (.type "dict")
 | dT {a:Addr}{kvs:List (List Key×V)} (e:H a=some (.dT kvs)):qcN K H (.ref a) (.type "dict")
 | ins {a C dx:Addr}{fs:List (Str×V)} (e:H a=some (.ins C dx fs)) (cl:Cls K C) (ha:findIn K (.ref C) "__class__"=some (some (.builtin "object.__class__")))
     (hn:PySem.W.specialIn K (.builtin "object.__class__") "__get__"=some (some (.builtin "getset_descriptor.__get__"))) (htk:PySem.W.takesIn K (.builtin "object.__class__")=some true)
     (hm:PySem.W.mroIn K C (.type "object")=some true):qcN K H (.ref a) (.ref C)
theorem qb2 {x:V}{u t:Value} (I:Inv X pins σ H s) (rx:RelV x u) (ty:qcN X.K H x t) (e:PySem.W.kitOne X.K t c=some b) (h:∀ tk,Q (.bool b) { s with toks:=tk }) :
   wpAny (model X.prog X.w) A (call (.builtin "isinstance") [u,c]) Q E s:=by
 cases ty with
 | non=>cases (show u=Value.none from rx);exact kia_one PySem.W.kitx_none I.kIn True.intro e (fun z=>nomatch z) h
 | bl y=>cases (show u=Value.bool y from rx);exact kia_one PySem.W.kitx_bool I.kIn True.intro e (fun z=>nomatch z) h
 | int i=>obtain⟨t,q⟩:=(show ∃ t,u=Value.int i t from rx);cases q;exact kia_one PySem.W.kitx_int I.kIn True.intro e (fun z=>nomatch z) h
 | str y=>obtain⟨t,q⟩:=(show ∃ t,u=Value.str y t from rx);cases q;exact kia_one PySem.W.kitx_str I.kIn True.intro e (fun z=>nomatch z) h
 | flt y=>obtain⟨t,q⟩:=(show ∃ t,u=Value.float y t from rx);cases q;exact kia_one PySem.W.kitx_float I.kIn True.intro e (fun z=>nomatch z) h
 | @lst a xs ea =>
   cases (show u=Value.ref a from rx);obtain⟨_,_,n,_,h1⟩:=(show ObjOk X.prog X.w H s.heap a (.lst xs) from I.hok a _ ea)
   exact kia_one kitx_list I.kIn ⟨_,h1,rfl⟩ e (fun z=>nomatch z) h
 | @frz a ob xs ea =>
   cases (show u=Value.ref a from rx);obtain⟨_,_,_,n,_,h1⟩:=(show ObjOk X.prog X.w H s.heap a (.frz ob (.lst xs)) from I.hok a _ ea)
   exact kia_one kitx_list I.kIn ⟨_,h1,rfl⟩ e (fun z=>nomatch z) h
 | @tup a xs ea =>
   cases (show u=Value.ref a from rx);obtain⟨_,_,_,p⟩:=(show ObjOk X.prog X.w H s.heap a (.tup xs) from I.hok a _ ea)
   obtain⟨o,h1,h2,_⟩:=p;exact kia_one PySem.W.kitx_tuple I.kIn ⟨o,h1,h2⟩ e (fun z=>nomatch z) h
 | @dK a kvs ea =>
   cases (show u=Value.ref a from rx);obtain⟨_,_,vs,_,p⟩:=(show ObjOk X.prog X.w H s.heap a (.dK kvs) from I.hok a _ ea)
   obtain⟨o,es,ep,h1,h2,_⟩:=p;exact kia_one kitx_dict I.kIn ⟨o,h1,h2.1⟩ e (fun z=>nomatch z) h
 | @dT a kvs ea =>
   cases (show u=Value.ref a from rx);obtain⟨_,_,xs,_,o,es,ep,h1,h2,_⟩:=(show ObjOk X.prog X.w H s.heap a (.dT kvs) from I.hok a _ ea)
   exact kia_one kitx_dict I.kIn ⟨o,h1,h2.1⟩ e (fun z=>nomatch z) h
 | @ins a C dx fs ea cl ha hn htk hm =>
   cases (show u=Value.ref a from rx);obtain⟨mA,O,_⟩:=JX I.hok ea;obtain⟨od,J,_⟩:=O.look;exact kia_one (PySem.W.kitx_own (cl.get _) cl.hd ha hn htk hm) I.kIn J e (fun z=>nomatch z) h
end
structure Room (k:Nat) (A:Around):Prop where
 hd:A.handled=none
 dp:A.depth+3 * k+5 < recursionLimit
 un:A.units+16 * k+200 < cLine
 gd:A.guards=some []
theorem Room.mono {j k:Nat}{A:Around} (r:Room k A) (h:j≤k):Room j A:=⟨r.hd,by have:=r.dp;omega,by have:=r.un;omega,r.gd⟩
theorem Room.deeper {k:Nat}{A:Around} (r:Room (k+1) A) (env:Env):Room k (A.deeper env) :=
 ⟨r.hd,by have:=r.dp;show A.depth+1+3 * k+5 < _;omega,by have:=r.un;show A.units+3+16 * k+200 < _;omega,r.gd⟩
theorem qdZ {A:Around}{C:Addr}{us:List Value}{kw:List (Str×Value)}:(A.under (.builtin "type.__call__" ⟨.ref C::us,kw⟩)).depth=A.depth+1:=by
 first|rfl|simp[Around.under,Code.weight,Code.isCreation,Code.isGuard,Code.isCaller,Code.frames,Code.isFrame,guardIds]
theorem qdY {A:Around}{C:Addr}{us:List Value}{kw:List (Str×Value)}:(A.under (.builtin "type.__call__" ⟨.ref C::us,kw⟩)).units=A.units+1:=by
 first|rfl|simp[Around.under,Code.cUnits,Code.frames,Code.isFrame]
theorem Room.make {k:Nat}{A:Around} (r:Room (k+1) A) (C:Addr) (us:List Value) (kw:List (Str×Value)):Room k (A.under (.builtin "type.__call__" ⟨.ref C::us,kw⟩)) :=
 ⟨r.hd,by have:=r.dp;rw[qdZ];omega,by have:=r.un;rw[qdY];omega,r.gd⟩
theorem Room.depth {k:Nat}{A:Around} (r:Room k A):A.depth < recursionLimit:=by have:=r.dp;omega
theorem Room.units {k:Nat}{A:Around} (r:Room k A):A.units+64 < cLine:=by have:=r.un;omega
def qhu:TA:=fun _ H Q=>Q [] H
def qkB (ta:TE) (tr:TA):TA:=fun σ H Q=>ta σ H fun x H1=>tr σ H1 fun xs H2=>Q (x::xs) H2
section
variable {X:Cx}{e:Expr}{es:List Expr}{te:TE}{t:TA}{pos:Pos}
theorem qc:PA X [] qhu:=fun _ _ _ _ H Q I h=>Calls.spliced_nil ⟨[],H,I,.nil,h⟩
theorem qa (ha:PE X e te) (hr:PA X es t) (hs:starEach (e::es) X.env=(false,eval e X.env)::starEach es X.env:=by rfl):PA X (e::es) (qkB te t):=by
 intro pos pins s σ H Q I h;rw[hs];show wpAny _ _ (spliced ((false,eval e X.env)::backTo pos (starEach es X.env))) _ _ s;refine Calls.spliced_cons (thn (ha pins s σ H _ I h) fun u s1 zz_=>?_);obtain⟨x,H1,I1,r1,q1⟩:=zz_;exact thn (hr pos pins s1 σ H1 _ I1 q1) fun us s2 ⟨xs,H2,I2,r2,q2⟩=>⟨x::xs,H2,I2,.cons r1 r2,q2⟩
def qlE (t:TA):TE:=fun σ H Q=>t σ H fun xs H1=>xs.length≤sizeLine∧∀ p,H1 p=none->Q (.ref p) (upd H1 p (.tup xs))
def qlH (t:TA):TE:=fun σ H Q=>t σ H fun xs H1=>xs.length≤sizeLine∧∀ p,H1 p=none->Q (.ref p) (upd H1 p (.lst xs))
theorem q9 {x1} (h:PA X es t):PE X (.Tuple es x1 pos) (qlE t):=by
 intro pins s σ H Q I hq;refine wpAny_Tuple_spliced (thn (h pos pins s σ H _ I hq) fun us s1 ⟨xs,H1,I1,r,z,q⟩=>⟨by rw[← r.length];exact z,?_⟩);have hf:H1 s1.heap.objs.size=none:=I1.hok.fresh (Nat.le_refl _);refine⟨.ref s1.heap.objs.size,upd H1 s1.heap.objs.size (.tup xs),I1.laid (t':=s1.toks) (fun b u e=>Heap.get?_push_of_some _ e) (Nat.le_refl _) ?_,rfl,q _ hf⟩;exact⟨z,us,r,⟨_,Heap.get?_push_size _ rfl,rfl,_,rfl⟩⟩
theorem qG (h:PA X es t):PE X (.List es pos) (qlH t):=by
 intro pins s σ H Q I hq;refine wpAny_List_spliced (thn (h pos pins s σ H _ I hq) fun us s1 ⟨xs,H1,I1,r,z,q⟩=>⟨by rw[← r.length];exact z,?_⟩);have hf:H1 s1.heap.objs.size=none:=I1.hok.fresh (Nat.le_refl _);refine⟨.ref s1.heap.objs.size,upd H1 s1.heap.objs.size (.lst xs),I1.laid (t':=s1.toks) (fun b u e=>Heap.get?_push_of_some _ e) (Nat.le_refl _) ?_,rfl,q _ hf⟩;exact⟨z,us,0,r,Heap.get?_push_size _ rfl⟩
end
abbrev Sp:=List V->Hp->VK->XK->Prop
abbrev CXT:=List Env->Hp->Shared->XK->Value->Shared->Prop
structure Env0 (P:Program) (w:World) (K:Frag) (mg:Str->Option Value) (base:Heap) (A:Around) (outer:List Env) (s:Shared) (H:Hp):Prop where
 frames:A.frames=some outer
 mod:Mod K mg base
 bs:∀ b o,base.get? b=some o->s.heap.get? b=some o∧H b=none
 bsz:base.objs.size≤s.heap.objs.size
 funs:s.heap.FunFrames base outer
 frf:∀ b∈frs outer,H b=none
 hok:HOk P w H s.heap
 bare:AllBare s.gens
def CE (outer:List Env) (P:Program) (w:World) (H:Hp) (s:Shared) (Q:VK) (u:Value) (s':Shared):Prop :=
 ∃ v H',s'.os=s.os∧AllBare s'.gens∧Un (frs outer) [] H H' s.heap s'.heap∧HOk P w H' s'.heap∧RelV v u∧Q v H'
def CR (CX:CXT) (outer:List Env) (P:Program) (w:World) (H:Hp) (s:Shared) (Q:VK) (E:XK) (r:Result) (s':Shared):Prop :=
 match r with
 | .ok (.ret u)=>CE outer P w H s Q u s'
 | .ok _=>False
 | .error e=>CX outer H s E e s'
structure qx (P:Program) (w:World) (K:Frag) (mg:Str->Option Value) (base:Heap) (CX:CXT) (k:Nat) (f:Addr) (fd:FuncData) (ps:List Str) (sp:Sp):Prop where
 len:∀ vs H Q E,sp vs H Q E->vs.length=ps.length
 run:∀ (A:Around) (outer:List Env) (s:Shared) (H:Hp) (args:Args) (us:List Value) (vs:List V) (Q:VK) (E:XK),Room k A->Env0 P w K mg base A outer s H->BindsTo s fd args (ps.zip us)->Vals vs us->sp vs H Q E ->
   codeAny (model P w) A (.call (.ref f) args) (CR CX outer P w H s Q E) s
theorem Env0.make {P:Program}{w:World}{K:Frag}{mg:Str->Option Value}{base:Heap}{A:Around}{outer:List Env}{s:Shared}{H:Hp} (e:Env0 P w K mg base A outer s H) (C:Addr) (us:List Value) (kw:List (Str×Value)) :
   Env0 P w K mg base (A.under (.builtin "type.__call__" ⟨.ref C::us,kw⟩)) outer s H:=⟨by first|exact e.frames|(simpa[Around.under,Code.envs,Code.isFrame,pushEnvs] using e.frames),e.mod,e.bs,e.bsz,e.funs,e.frf,e.hok,e.bare⟩
section
variable {X:Cx}{pins:List (Addr×Obj)}{σ:St}{H:Hp}{s s':Shared}
theorem Inv.env0 (I:Inv X pins σ H s):Env0 X.prog X.w X.K X.mg X.base X.A X.stack s H :=
 ⟨I.ok.frames,I.ok.mod,I.bs,Nat.le_trans I.ok.bsz I.sz,I.stack,I.stkFree,I.hok,I.bare⟩
theorem Inv.after {Q:VK}{u:Value} (I:Inv X pins σ H s) (h:CE X.stack X.prog X.w H s Q u s'):EP X pins σ Q u s':=by
 obtain⟨v,H',os,bare,un,hok,r,q⟩:=h;obtain⟨hh,g,d,t,os'⟩:=s';obtain rfl:os'=s.os:=os;exact⟨v,H',I.call (h':=hh) (g':=g) (d':=d) (t':=t) (ch:=[]) un hok bare (fun b z=>absurd z (by simp)),r,q⟩
end
def qjt (sp:Sp) (dvs:List V) (E:XK) (t:TA):TE:=fun σ H Q=>t σ H fun vs H1=>sp (vs++dvs) H1 Q E
inductive qen (C:Addr) (m:Str) (sp:Sp) (dvs:List V) (E:XK) (t:TA) (σ:St) (Q:VK) (x:V) (H1:Hp):Prop
 | mk (a dx fs:_) (h1:x=.ref a) (h2:H1 a=some (.ins C dx fs)) (h3:fs.lookup m=none) (h4:t σ H1 fun vs H2=>sp (x::(vs++dvs)) H2 Q E):qen C m sp dvs E t σ Q x H1
def Jj (C:Addr) (m:Str) (sp:Sp) (dvs:List V) (E:XK) (ta:TE) (t:TA):TE:=fun σ H Q=>ta σ H fun x H1=>qen C m sp dvs E t σ Q x H1
def qkv (C:Addr) (sp:Sp) (dvs:List V) (E:XK) (t:TA):TE:=fun σ H Q=>t σ H fun vs H1=>∀ x dx,H1 x=none->H1 dx=none->dx≠x ->
 sp (.ref x::(vs++dvs)) (upd (upd H1 dx (.own x)) x (.ins C dx [])) (fun v H2=>v=.non∧Q (.ref x) H2) E
def Binds (K:Frag) (fd:FuncData) (ps:List Str) (ds:List Value):Prop :=
 ∀ (s:Shared) (us:List Value),K.In s.heap->(us++ds).length=ps.length->BindsTo s fd ⟨us,[]⟩ (ps.zip (us++ds))
theorem Binds.all {K:Frag}{fd:FuncData}{ps:List Str} (h:∀ us:List Value,us.length=ps.length->bindArgs fd ⟨us,[]⟩=pure (ps.zip us)):Binds K fd ps []:=fun s us _ hl=>by
 rw[List.append_nil]at hl ⊢;exact .of_eq (h us hl)
def jo (CX:CXT) (X:Cx) (E:XK):Prop:=∀ (pins:List (Addr×Obj)) (σ:St) (H:Hp) (s:Shared) (e:Value) (s':Shared),Inv X pins σ H s->CX X.stack H s E e s'->X.xe e s'
section
variable {X:Cx}{CX:CXT}{k:Nat}{f C:Addr}{fd:FuncData}{ps:List Str}{sp:Sp}{dvs:List V}{ds:List Value}{E:XK}{x m:Str}{p pos apos:Pos}{e o:Expr}{es:List Expr}{ta:TE}{t:TA}
theorem qdc {pins:List (Addr×Obj)}{σ:St}{H:Hp}{s:Shared}{Q:VK}{us:List Value}{vs:List V} (F:qx X.prog X.w X.K X.mg X.base CX k f fd ps sp) (hr:Room k X.A) (hb:Binds X.K fd ps ds) (hd:Vals dvs ds) (hx:jo CX X E)
   (I:Inv X pins σ H s) (r:Vals vs us) (h:sp (vs++dvs) H Q E):wpAny (model X.prog X.w) X.A (call (.ref f) us) (EP X pins σ Q) X.xe s:=by
 have r2:Vals (vs++dvs) (us++ds):=r.append hd;have hl:(us++ds).length=ps.length:=by rw[← r2.length];exact F.len _ _ _ _ h
 refine wpAny_call (codeAny_mono (F.run X.A X.stack s H ⟨us,[]⟩ (us++ds) (vs++dvs) Q E hr I.env0 (hb s us I.kIn hl) r2 h) fun r s' hq=>?_)
 cases r with
 | error e=>exact hx pins σ H s e s' I hq
 | ok fl =>
   cases fl with
   | ret u=>exact I.after hq
   | next=>exact False.elim hq
   | brk=>exact False.elim hq
   | cont=>exact False.elim hq
theorem qj (F:qx X.prog X.w X.K X.mg X.base CX k f fd ps sp) (hr:Room k X.A) (hg:Gl X x) (hm:X.mg x=some (.ref f)) (hk:keepIn X.K (.ref f)=true) (hb:Binds X.K fd ps ds) (hd:Vals dvs ds) (hx:jo CX X E)
   (ha:PA X (e::es) t) (hdb:(x == ("__debug__":Str))=false:=by decide) (he:starEach (e::es) X.env=(false,eval e X.env)::starEach es X.env:=by rfl) (hpl:(backTo pos (starEach es X.env)).any (·.1)=false:=by rfl) :
   PE X (.Call (.Name x p) (e::es) [] pos) (qjt sp dvs E t):=by
 intro pins s σ H Q I h;refine wpAny_Call_Name_kw (jy I hg hm ?_ hdb);refine callWith_K (h₀:=X.base) I.ok.mod.kin hk (thn (ha pos pins s σ H _ I h) fun us s1 ⟨vs,H1,I1,r,q⟩=>⟨I1.kIn,?_⟩) he hpl;exact qdc F hr hb hd hx I1 r q
theorem Zo {pl:Sem Bool} (he:PE X o ta) (c:Cls X.K C) (hm:qf5 X.K C m f) (F:qx X.prog X.w X.K X.mg X.base CX k f fd ps sp) (hr:Room k X.A) (hb:Binds X.K fd ps ds) (hd:Vals dvs ds) (hx:jo CX X E) (ha:PA X (e::es) t)
   (hst:starEach (e::es) X.env=(false,eval e X.env)::starEach es X.env:=by rfl) (hpl:(backTo pos (starEach es X.env)).any (·.1)=false:=by rfl)
   (ht:eval (.Call (.Attribute o m apos) (e::es) [] pos) X.env=(do
     let ov ← eval o X.env
     standAt apos.atName
     let (f,first) ← holding [ov] (getMethod ov m pl)
     callWith pos f first (backTo pos (starEach (e::es) X.env)) (backToKw pos (keywordEach [] X.env))):=by rfl) :
   PE X (.Call (.Attribute o m apos) (e::es) [] pos) (Jj C m sp dvs E ta t):=by
 intro pins s σ H Q I h;refine PySem.W.methodCall_KW (pl:=pl) (thn (he pins s σ H _ I h) fun u s1 zz_=>?_) ht;obtain⟨x,H1,I1,rx,a,dx,fs,ex,ea,l,q⟩:=zz_;subst ex;obtain rfl:u=Value.ref a:=rx;refine jA I1 ea c hm l ?_;refine callWith_K (first:=[.ref a]) (h₀:=X.base) I.ok.mod.kin hm.kp (thn (ha pos pins s1 σ H1 _ I1 q) fun us s2 ⟨vs,H2,I2,r,q2⟩=>⟨I2.kIn,?_⟩) hst hpl;exact qdc (us:=.ref a::us) (vs:=.ref a::vs) F hr hb hd hx I2 (.cons rfl r) q2
theorem zU {pl:Sem Bool} (he:PE X o ta) (c:Cls X.K C) (hm:qf5 X.K C m f) (F:qx X.prog X.w X.K X.mg X.base CX k f fd ps sp) (hr:Room k X.A) (hb:Binds X.K fd ps ds) (hd:Vals dvs ds) (hx:jo CX X E)
   (ht:eval (.Call (.Attribute o m apos) [] [] pos) X.env=(do
     let ov ← eval o X.env
     standAt apos.atName
     let (f,first) ← holding [ov] (getMethod ov m pl)
     callWith pos f first (backTo pos (starEach [] X.env)) (backToKw pos (keywordEach [] X.env))):=by rfl) :
   PE X (.Call (.Attribute o m apos) [] [] pos) (Jj C m sp dvs E ta qhu):=by
 intro pins s σ H Q I h;refine PySem.W.methodCall_KW (pl:=pl) (thn (he pins s σ H _ I h) fun u s1 zz_=>?_) ht;obtain⟨x,H1,I1,rx,a,dx,fs,ex,ea,l,q⟩:=zz_;subst ex;obtain rfl:u=Value.ref a:=rx;refine jA I1 ea c hm l ?_;exact PySem.W.callWith_K0 (first:=[.ref a]) I1.kIn hm.kp (qdc (us:=[.ref a]) (vs:=[.ref a]) F hr hb hd hx I1 (.cons rfl .nil) q)
structure Mk (K:Frag) (C f:Addr):Prop where
 makes:makesIn K C=true
 init:findIn K (.ref C) "__init__"=some (some (.ref f))
 fn:isFn K (.ref f)=true
 kp:keepIn K (.ref C)=true
theorem qgp {pins:List (Addr×Obj)}{σ:St}{H:Hp}{s:Shared}{Q:VK}{us:List Value}{vs:List V} (M:Mk X.K C f) (F:qx X.prog X.w X.K X.mg X.base CX k f fd ps sp) (hr:Room (k+1) X.A) (hb:Binds X.K fd ps ds) (hd:Vals dvs ds)
   (hx:jo CX X E) (I:Inv X pins σ H s) (r:Vals vs us)
   (h:∀ x dx,H x=none->H dx=none->dx≠x->sp (.ref x::(vs++dvs)) (upd (upd H dx (.own x)) x (.ins C dx [])) (fun v H2=>v=.non∧Q (.ref x) H2) E) :
   wpAny (model X.prog X.w) X.A (call (.ref C) us) (EP X pins σ Q) X.xe s:=by
 have hq:=h (s.heap.objs.size+1) s.heap.objs.size (I.hok.fresh (Nat.le_succ _)) (I.hok.fresh (Nat.le_refl _)) (Nat.ne_of_lt (Nat.lt_succ_self _));have I2:=Inv.made (C:=C) I;have r2:Vals (V.ref (s.heap.objs.size+1)::(vs++dvs)) (Value.ref (s.heap.objs.size+1)::(us++ds)):=.cons rfl (r.append hd)
 have hl:(Value.ref (s.heap.objs.size+1)::us++ds).length=ps.length:=by
   have e:=r2.length;rw[F.len _ _ _ _ hq]at e;exact e.symm
 refine wpAny_call (qgM (f:=f) I.kIn M.makes M.init (beq_iff_eq.mp M.fn) (codeAny_mono (F.run _ X.stack _ _ ⟨Value.ref (s.heap.objs.size+1)::us,[]⟩ (Value.ref (s.heap.objs.size+1)::(us++ds)) _ _ E (hr.make C us [])
   (I2.env0.make C us []) (hb _ (Value.ref (s.heap.objs.size+1)::us) I2.kIn hl) r2 hq) fun r s' hq'=>?_))
 cases r with
 | error e=>exact hx pins σ _ _ e s' I2 hq'
 | ok fl =>
   cases fl with
   | ret u =>
     obtain⟨v,H',I3,rv,ev,q3⟩:=I2.after hq';subst ev;exact⟨rv,⟨V.ref (s.heap.objs.size+1),H',I3,rfl,q3⟩⟩
   | next=>exact False.elim hq'
   | brk=>exact False.elim hq'
   | cont=>exact False.elim hq'
theorem jw (M:Mk X.K C f) (F:qx X.prog X.w X.K X.mg X.base CX k f fd ps sp) (hr:Room (k+1) X.A) (hg:Gl X x) (hm:X.mg x=some (.ref C)) (hb:Binds X.K fd ps ds) (hd:Vals dvs ds) (hx:jo CX X E)
   (ha:PA X (e::es) t) (hdb:(x == ("__debug__":Str))=false:=by decide) (he:starEach (e::es) X.env=(false,eval e X.env)::starEach es X.env:=by rfl) (hpl:(backTo pos (starEach es X.env)).any (·.1)=false:=by rfl) :
   PE X (.Call (.Name x p) (e::es) [] pos) (qkv C sp dvs E t):=by
 intro pins s σ H Q I h;refine wpAny_Call_Name_kw (jy I hg hm ?_ hdb);refine callWith_K (h₀:=X.base) I.ok.mod.kin M.kp (thn (ha pos pins s σ H _ I h) fun us s1 ⟨vs,H1,I1,r,q⟩=>⟨I1.kIn,?_⟩) he hpl;exact qgp M F hr hb hd hx I1 r q
end
section
variable {X:Cx}{CX:CXT}{k:Nat}{f C:Addr}{fd:FuncData}{ps ks:List Str}{sp:Sp}{E:XK}{x m:Str}{p pos apos kpos:Pos}{e o:Expr}{es:List Expr}{kws:List Keyword}{te ta:TE}{t tk:TA}{nm:Option Str}
variable {g:List Value->List Value->List Value}{gV:List V->List V->List V}
end
structure qk (N P:List Str) (sc:Scope):Prop where
 kind:sc.kind=.function
 co:sc.isCoroutine=false
 gen:sc.isGenerator=false
 nd:N.Nodup
 pre:N.take P.length=P
 par:∀ x∈P,sc.names.lookup x=some .local∨sc.names.lookup x=some .cell
 nofree:∀ y∈sc.names,y.2≠.free
theorem qca {kindOf:Str->Option NameKind}{x:Str}:∀ {binds:List (Str×Value)}{m:Str->Option Value},(∀ v,(x,v)∉binds)->bindL kindOf binds m x=m x
 | [],_,_=>rfl
 | (n,v)::r,m,h=>by
   unfold bindL;rw[qca fun w hw=>h w (List.mem_cons_of_mem _ hw)];split
   · have:x≠n:=by rintro rfl;exact h v List.mem_cons_self
     simp[this]
   · rfl
theorem qcc {kindOf:Str->Option NameKind}{x:Str}:∀ {binds:List (Str×Value)}{m:Str->Option Value},(∀ v,(x,v)∉binds)->bindC kindOf binds m x=m x
 | [],_,_=>rfl
 | (n,v)::r,m,h=>by
   unfold bindC;rw[qcc fun w hw=>h w (List.mem_cons_of_mem _ hw)];split
   · rfl
   · have:x≠n:=by rintro rfl;exact h v List.mem_cons_self
     simp[this]
theorem qcb {kindOf:Str->Option NameKind}{x:Str}{v:Value}:∀ {P:List Str}{vs:List Value}{i:Nat}{m:Str->Option Value},P.Nodup->P[i]?=some x->vs[i]?=some v->kindOf x=some .local ->
   bindL kindOf (P.zip vs) m x=some v
 | [],_,_,_,_,h,_,_=>by simp at h
 | _::_,[],_,_,_,_,h,_=>by simp at h
 | p::P,w::vs,0,m,nd,h1,h2,hk=>by
   simp at h1 h2;subst h1;subst h2;show bindL kindOf ((p,w)::P.zip vs) m p=_;unfold bindL;rw[qca fun v hv=>(List.nodup_cons.mp nd).1 (List.of_mem_zip hv).1,if_pos hk];simp
 | p::P,w::vs,i+1,m,nd,h1,h2,hk=>by
   show bindL kindOf ((p,w)::P.zip vs) m x=_;unfold bindL;exact qcb (i:=i) (List.nodup_cons.mp nd).2 (by simpa using h1) (by simpa using h2) hk
theorem qcd {kindOf:Str->Option NameKind}{x:Str}{v:Value}:∀ {P:List Str}{vs:List Value}{i:Nat}{m:Str->Option Value},P.Nodup->P[i]?=some x->vs[i]?=some v->kindOf x≠some .local ->
   bindC kindOf (P.zip vs) m x=some v
 | [],_,_,_,_,h,_,_=>by simp at h
 | _::_,[],_,_,_,_,h,_=>by simp at h
 | p::P,w::vs,0,m,nd,h1,h2,hk=>by
   simp at h1 h2;subst h1;subst h2;show bindC kindOf ((p,w)::P.zip vs) m p=_;unfold bindC;rw[qcc fun v hv=>(List.nodup_cons.mp nd).1 (List.of_mem_zip hv).1,if_neg hk];simp
 | p::P,w::vs,i+1,m,nd,h1,h2,hk=>by
   show bindC kindOf ((p,w)::P.zip vs) m x=_;unfold bindC;exact qcd (i:=i) (List.nodup_cons.mp nd).2 (by simpa using h1) (by simpa using h2) hk
def jp (N:List Str) (vs:List V):St:=vs.map some++List.replicate (N.length - vs.length) none
def qZ (CX:CXT) (P:Program) (w:World) (K:Frag) (mg:Str->Option Value) (base:Heap) (N:List Str) (qual:Str) (scope:Scope) (f:Addr) (cd:Value) (A:Around) (outer:List Env) (s:Shared) (H:Hp) (E:XK):Cx where
 prog:=P
 w:=w
 K:=K
 mg:=mg
 base:=base
 A:=A.deeper (envOfC qual scope s.heap.objs.size f cd)
 N:=N
 s₀:=s
 H₀:=H
 env:=envOfC qual scope s.heap.objs.size f cd
 outer:=outer
 stack:=envOfC qual scope s.heap.objs.size f cd::outer
 ex:=[]
 calm:=true
 fn:=fun _=>true
 pn:=[]
 xe:=fun e s'=>wpAny (model P w) (A.deeper (envOfC qual scope s.heap.objs.size f cd)) (leaving (envOfC qual scope s.heap.objs.size f cd) e) (fun _ s''=>CX outer H s E e s'') (fun e' s''=>CX outer H s E e' s'') s'
theorem qbl {sc:Scope}{n:Nat}{x:Str} (h:sc.names.lookup x=some .cell):∃ c,(cellsFrom n sc.names []).lookup x=some c:=by
 have q:=PySem.W.cellsFrom_some sc.names n [] (.inl h);exact Option.isSome_iff_exists.mp q
theorem qb3 {CX:CXT}{P:Program}{w:World}{K:Frag}{mg:Str->Option Value}{base:Heap}{N ps:List Str}{qual:Str}{scope:Scope}{f:Addr}{cd:Value}{A:Around}{outer:List Env}{s s1:Shared}{H:Hp}{E:XK}{us:List Value}{vs:List V}
   (S:qk N ps scope) (hd:A.handled=none) (e0:Env0 P w K mg base A outer s H) (hl:vs.length=ps.length) (r:Vals vs us)
   (x:InCallC s s.heap.objs.size (bindL (envOfC qual scope s.heap.objs.size f cd).kindOf (ps.zip us) fun _=>none) (cellsFrom (s.heap.objs.size+1) scope.names []) (bindC (envOfC qual scope s.heap.objs.size f cd).kindOf (ps.zip us) fun _=>none) s1) :
   Inv (qZ CX P w K mg base N qual scope f cd A outer s H E) [] (jp N vs) H s1:=by
 have hpl:ps.length≤N.length:=by have:=congrArg List.length S.pre;rw[List.length_take]at this;omega
 obtain⟨h1,tk,rfl,hk⟩:=x.done;have noA:∀ b:Addr,b∉(qZ CX P w K mg base N qual scope f cd A outer s H E).ex:=fun b z=>absurd (show b∈([]:List Addr) from z) (by simp)
 refine⟨⟨e0.mod,S.kind,rfl,rfl,Nat.le_refl _,fun y z c h1 h2=>?_,fun y hy=>?_,fun y c _ h=>?_,fun _=>hd,Around.frames_deeper e0.frames,.inr ⟨rfl,rfl⟩,fun b z=>absurd z (noA b),e0.bs,e0.bsz,fun b _ _=>noA b,fun b z=>absurd z (noA b),e0.funs,e0.frf⟩,
   rfl,e0.bare,Un.kept hk,⟨_,x.toInCall.ns,fun i y v h1 h2 h3=>?_⟩,fun y c h=>⟨_,x.cell y c h⟩,e0.hok.fresh (Nat.le_refl _),fun y c h=>?_,fun p hp=>absurd (show p∈([]:List (Addr×Obj)) from hp) (by simp),e0.hok.kept hk,?_⟩
 · exact name_of_addr x.apart (PySem.mem_of_lookup h1) (PySem.mem_of_lookup h2)
 · have hy:scope.names.lookup y=some .cell∨scope.names.lookup y=some .free:=hy;rcases hy with hy|hy
   · exact qbl hy
   · exact absurd rfl (S.nofree _ (PySem.mem_of_lookup hy))
 · exact Nat.le_of_lt (x.above y c (PySem.mem_of_lookup h))
 · have hi:i < vs.length:=by
     unfold jp at h2;by_cases hi:i < vs.length
     · exact hi
     · rw[List.getElem?_append_right (by simpa using hi)]at h2;rw[List.getElem?_replicate]at h2;split at h2<;>cases h2
   have ha:vs[i]?=some v:=by
     unfold jp at h2;rw[List.getElem?_append_left (by simpa using hi),List.getElem?_map]at h2
     cases e:vs[i]? with
     | none=>rw[e]at h2;cases h2
     | some a=>rw[e]at h2;cases h2;rfl
   obtain⟨u,hu,rv⟩:=r.get ha
   have hp:ps[i]?=some y:=by
     rw[← S.pre,List.getElem?_take_of_lt (by omega)];exact h1
   have ndP:ps.Nodup:=by rw[← S.pre];exact S.nd.sublist (List.take_sublist _ _)
   refine⟨u,rv,?_⟩;rcases S.par y (List.mem_of_getElem? hp) with k|k
   · exact .inl ⟨k,qcb ndP hp hu k⟩
   · obtain⟨c,e⟩:=qbl (n:=s.heap.objs.size+1) k;refine .inr ⟨.inl k,c,e,?_⟩;have q:=x.cell y c e;rw[qcd ndP hp hu (by show scope.names.lookup y≠_;rw[k];decide)]at q;exact q
 · exact e0.hok.fresh (Nat.le_of_lt (x.above y c (PySem.mem_of_lookup h)))
 · unfold jp;show _=N.length;rw[List.length_append,List.length_map,List.length_replicate];omega
theorem qj5 {CX:CXT}{P:Program}{w:World}{K:Frag}{mg:Str->Option Value}{base:Heap}{k:Nat}{f:Addr}{name qual:Str}{params:Arguments}{body:List Stmt}{scope:Scope}{dV kV doc pm cdv ct oc:Value}{an od:Option Addr}
   {osl:Array (Option Value)}{N ps:List Str}{sp:Sp} (lk:K.lookup f=some ⟨oc,od,.func (fnOf name qual params body scope dV kV doc pm an cdv ct),osl⟩) (hcd:PySem.W.codeIn K cdv qual=true) (S:qk N ps scope)
   (len:∀ vs H Q E,sp vs H Q E->vs.length=ps.length)
   (hbody:∀ (A:Around) (outer:List Env) (s:Shared) (H:Hp) (vs:List V) (Q:VK) (E:XK),Room k (A.deeper (envOfC qual scope s.heap.objs.size f cdv))->sp vs H Q E ->
     ∃ t,PSs (qZ CX P w K mg base N qual scope f cdv A outer s H E) body t∧t { nx:=fun _ H'=>Q .non H',rt:=Q } (jp N vs) H) :
   qx P w K mg base CX (k+1) f (fnOf name qual params body scope dV kV doc pm an cdv ct) ps sp:=by
 refine⟨len,fun A outer s H args us vs Q E hr e0 hb r hsp=>?_⟩;have hl:=len _ _ _ _ hsp;have KX:K.In s.heap:=e0.mod.kin.keeps fun b o e=>(e0.bs b o e).1;have lim:s.heap.NoLimit:=e0.mod.nolimit.keeps fun b o e=>(e0.bs b o e).1
 have hkind:∀ y∈ps.zip us,scope.names.lookup y.1=some .local∨(scope.names.lookup y.1=some .cell∧((cellsFrom (s.heap.objs.size+1) scope.names []).lookup y.1).isSome=true):=fun⟨n,v⟩ hy=>by
   rcases S.par n (List.of_mem_zip hy).1 with q|q
   · exact .inl q
   · exact .inr ⟨q,PySem.W.cellsFrom_some _ _ _ (.inl q)⟩
 refine codeAny_call_function hr.depth (KX _ _ lk) rfl S.co S.gen rfl (PySem.W.codeRec_of KX hcd) (hb _ _ _ _ ?_);refine wpAny_newFunctionEnv_cells S.kind hkind fun env he s1 x=>?_;subst he;refine⟨lim.keeps x.toInCall.keep,codeAny_func ?_⟩;obtain⟨t,ht,hq⟩:=hbody A outer s H vs Q E (hr.deeper _) hsp;have I:Inv (qZ CX P w K mg base N qual scope f cdv A outer s H E) [] (jp N vs) H s1:=qb3 S hr.hd e0 hl r x;refine wpAny_mono (ht [] s1 (jp N vs) H _ I hq) (fun fl s' hs=>?_) fun e s' hs=>hs
 have fin:∀ {σ':St}{H':Hp}{v:V}{u:Value},Inv (qZ CX P w K mg base N qual scope f cdv A outer s H E) [] σ' H' s'->RelV v u->Q v H'->CE outer P w H s Q u s' :=
   fun {σ' H' v u} J rv q=>⟨v,H',J.os,J.bare,J.base,J.hok,rv,q⟩
 cases fl with
 | ret u =>
   obtain⟨v,σ',H',J,rv,q⟩:=hs;exact fin J rv q
 | next =>
   obtain⟨σ',H',J,q⟩:=hs;exact fin (v:=V.non) (u:=Value.none) J rfl q
 | brk =>
   obtain⟨_,_,_,q⟩:=hs;exact False.elim q
 | cont =>
   obtain⟨_,_,_,q⟩:=hs;exact False.elim q
section
variable {X:Cx}{x:Str}{p pos:Pos}{e:Expr}{es:List Expr}{t:TA}{id T:String}{r:List V->Hp->VK->Prop}
def tCB (r:List V->Hp->VK->Prop) (t:TA):TE:=fun σ H Q=>t σ H fun vs H1=>r vs H1 Q
theorem ql (hc:CallR X (.builtin id) r) (hg:Gl X x) (hm:X.mg x=none) (hv:bootBuiltins x=some (.builtin id)) (ha:PA X (e::es) t) (hn:x≠"__name__":=by decide) (hdb:(x == ("__debug__":Str))=false:=by decide)
   (he:starEach (e::es) X.env=(false,eval e X.env)::starEach es X.env:=by rfl) (hpl:(backTo pos (starEach es X.env)).any (·.1)=false:=by rfl):PE X (.Call (.Name x p) (e::es) [] pos) (tCB r t):=by
 intro pins s σ H Q I h;refine wpAny_Call_Name_kw (Q0 I hg hm hv ?_ hn hdb);exact PyProof.Rows.callWith_builtin1 (thn (ha pos pins s σ H _ I h) fun us s1 ⟨vs,H1,I1,r1,q1⟩=>hc pins s1 σ H1 vs us Q I1 r1 q1) he hpl
theorem je (hc:CallR X (.type T) r) (hg:Gl X x) (hm:X.mg x=none) (hv:bootBuiltins x=some (.type T)) (ha:PA X (e::es) t) (hn:x≠"__name__":=by decide) (hdb:(x == ("__debug__":Str))=false:=by decide)
   (he:starEach (e::es) X.env=(false,eval e X.env)::starEach es X.env:=by rfl) (hpl:(backTo pos (starEach es X.env)).any (·.1)=false:=by rfl):PE X (.Call (.Name x p) (e::es) [] pos) (tCB r t):=by
 intro pins s σ H Q I h;refine wpAny_Call_Name_kw (Q0 I hg hm hv ?_ hn hdb);exact PyProof.Rows.callWith_type1 (thn (ha pos pins s σ H _ I h) fun us s1 ⟨vs,H1,I1,r1,q1⟩=>hc pins s1 σ H1 vs us Q I1 r1 q1) he hpl
end
end L2
namespace HT
open PySem PyProof.Rows
section
open PySem.SeqAt
open PySem.AutoSeq1 (wpAny_loadPart')
open PySem.MeetsSeq PySem.MeetsSeq2 PySem.MeetsSeq3
end
section
variable {prog:Program}{w:World}{A:Around}{E:Value->Shared->Prop}{s:Shared}
def sIx (n d:Nat):Option Int->Nat
 | none=>d
 | some v=>if v < 0 then (v+(n:Int)).toNat else min v.toNat n
theorem sIx_none (n d:Nat):sIx n d none=d:=rfl
theorem sIx_nat (n d k:Nat):sIx n d (some (k:Int))=min k n:=by
 show (if (k:Int) < 0 then ((k:Int)+(n:Int)).toNat else min (k:Int).toNat n)=min k n;rw[if_neg (by omega),Int.toNat_natCast]
end
end HT
namespace L2
open PySem PySem.Spec PyProof.Rows
open PySem.W (Frag)
abbrev TO:=St->Hp->(Option Int->Hp->Prop)->Prop
def PO (X:Cx) (e:Option Expr) (t:TO):Prop :=
 ∀ (pins:List (Addr×Obj)) (s:Shared) (σ:St) (H:Hp) (Q:Option Int->Hp->Prop),Inv X pins σ H s->t σ H Q ->
   wpAny (model X.prog X.w) X.A (evalPart e X.env) (fun u s'=>∃ o H',Inv X pins σ H' s'∧IsPart u o∧Q o H') X.xe s
def qh7:TO:=fun _ H Q=>Q none H
inductive qek (Q:(Option Int->Hp->Prop)) (x:V) (H1:Hp):Prop
 | mk (i:_) (h1:x=.int i) (h2:Q (some i) H1):qek Q x H1
def qkt (t:TE):TO:=fun σ H Q=>t σ H fun x H1=>qek Q x H1
theorem qd5 {ns:List Int}:∀ {us:List Value},Vals (ns.map V.int) us->IntsAre us ns:=by
 induction ns with
 | nil=>intro us r;rw[List.map_nil]at r;cases r;exact .nil
 | cons n ns ih =>
   intro us r;rw[List.map_cons]at r
   cases r with
   | cons r1 r2 =>
     obtain⟨t,e⟩:=r1;subst e;exact .cons n t (ih r2)
section
variable {X:Cx}{e:Expr}{te:TE}{lo hi:Option Expr}{tl th:TO}{pos p2:Pos}
theorem qcs:PO X none qh7:=by
 intro pins s σ H Q I h;rw[evalPart_none];exact wpAny_pure ⟨none,H,I,.none,h⟩
theorem JH (h:PE X e te):PO X (some e) (qkt te):=by
 intro pins s σ H Q I hw;rw[evalPart_some];refine thn (h pins s σ H _ I hw) fun u s1 zz_=>?_;obtain⟨x,H1,I1,r1,q1⟩:=zz_;obtain⟨i,rfl,q⟩:=q1;obtain⟨t,rfl⟩:=r1;exact⟨some i,H1,I1,.int i t,q⟩
def SlR (X:Cx) (r:V->Option Int->Option Int->Hp->VK->Prop):Prop :=
 ∀ (pins:List (Addr×Obj)) (s:Shared) (σ:St) (H:Hp) (x:V) (v vl vu:Value) (lo hi:Option Int) (sl:Addr) (Q:VK),Inv X pins σ H s->RelV x v->s.heap.IsSliceOf sl vl vu .none->IsPart vl lo->IsPart vu hi->r x lo hi H Q ->
   ∃ T id,typeLookup (.type T) "__getitem__"=pure (some (.builtin id))∧s.TypeIs v T∧wpAny (model X.prog X.w) X.A (getItem v (.ref sl)) (EP X pins σ Q) X.xe s
theorem SlR.or {r r':V->Option Int->Option Int->Hp->VK->Prop} (h:SlR X r) (h':SlR X r'):SlR X (fun x lo hi H Q=>r x lo hi H Q∨r' x lo hi H Q):=by
 intro pins s σ H x v vl vu lo hi sl Q I rx hs pl pu q;rcases q with q|q
 · exact h pins s σ H x v vl vu lo hi sl Q I rx hs pl pu q
 · exact h' pins s σ H x v vl vu lo hi sl Q I rx hs pl pu q
def tSl (r:V->Option Int->Option Int->Hp->VK->Prop) (te:TE) (tl th:TO):TE:=fun σ H Q=>te σ H fun x H1=>tl σ H1 fun l H2=>th σ H2 fun u H3=>r x l u H3 Q
theorem Je {r:V->Option Int->Option Int->Hp->VK->Prop} (hr:SlR X r) (he:PE X e te) (hl:PO X lo tl) (hu:PO X hi th):PE X (.Subscript e (.Slice lo hi none p2) pos) (tSl r te tl th):=by
 intro pins s σ H Q I h;refine Subscript_ (thn (he pins s σ H _ I h) fun v s1 zz_=>?_);obtain⟨x,H1,I1,r1,q1⟩:=zz_;refine wpAny_Slice (thn (hl pins s1 σ H1 _ I1 q1) fun vl s2 ⟨l,H2,I2,pl,q2⟩=>thn (hu pins s2 σ H2 _ I2 q2) fun vu s3 zz_=>?_);obtain⟨u,H3,I3,pu,q3⟩:=zz_;rw[evalPart_none];refine wpAny_pure ?_;have I4:Inv X pins σ H3 { s3 with heap:=s3.heap.push { cls:=.type "slice",data:=.fields #[vl,vu,.none] } }:=I3.kept (t':=s3.toks) fun b ob q=>Heap.get?_push_of_some _ q;obtain⟨T,id,hT,ht,hg⟩:=hr pins { s3 with heap:=s3.heap.push { cls:=.type "slice",data:=.fields #[vl,vu,.none] } } σ H3 x v vl vu l u s3.heap.objs.size Q I4 r1 (Heap.IsSliceOf.new ..) pl pu q3;show wpAny (model X.prog X.w) X.A (subscriptTail e (.Slice lo hi none p2) v (.ref s3.heap.objs.size)) (EP X pins σ Q) X.xe { s3 with heap:=s3.heap.push { cls:=.type "slice",data:=.fields #[vl,vu,.none] } };exact tail_any (ops:=[.ref s3.heap.objs.size,v]) ht hT hg (by with_unfolding_all rfl)
def qga (xs:List V) (lo hi:Option Int):List V:=(xs.drop (HT.sIx xs.length 0 lo)).take (HT.sIx xs.length xs.length hi - HT.sIx xs.length 0 lo)
theorem qcI (xs:List V) (lo hi:Option Int):(qga xs lo hi).length≤xs.length:=by
 unfold qga;refine Nat.le_trans (List.length_take_le' _ _) ?_;rw[List.length_drop];exact Nat.sub_le _ _
end
def ixN (n:Nat) (i:Int):Option Nat:=if 0≤i then (if i < n then some i.toNat else none) else if -(n:Int)≤i then some (i+n).toNat else none
def atI {α:Type} (xs:List α) (i:Int):Option α:=(ixN xs.length i).bind fun j=>xs[j]?
theorem qfw {n:Nat}{i:Int}{j:Nat} (h:ixN n i=some j):seqIndex? i n=some j∧j < n∧-(n:Int)≤i∧i < n:=by
 unfold ixN at h;by_cases h0:0≤i
 · rw[if_pos h0]at h;by_cases h1:i < n
   · rw[if_pos h1]at h;have e:i.toNat=j:=Option.some.inj h;exact⟨by rw[seqIndex_of h0 h1,e],by omega,by omega,h1⟩
   · rw[if_neg h1]at h;cases h
 · rw[if_neg h0]at h;by_cases h1:-(n:Int)≤i
   · rw[if_pos h1]at h;have e:(i+n).toNat=j:=Option.some.inj h;exact⟨by rw[seqIndex_neg (by omega) h1,e],by omega,h1,by omega⟩
   · rw[if_neg h1]at h;cases h
theorem qcK {α:Type}{xs:List α}{i:Int}{v:α} (h:atI xs i=some v):∃ j,seqIndex? i xs.length=some j∧xs[j]?=some v∧j < xs.length∧-(xs.length:Int)≤i∧i < xs.length:=by
 unfold atI at h
 cases e:ixN xs.length i with
 | none=>rw[e]at h;cases h
 | some j =>
   rw[e]at h;obtain⟨h1,h2,h3,h4⟩:=qfw e;exact⟨j,h1,h,h2,h3,h4⟩
theorem Zu {α:Type}{xs:List α}{j:Nat}{v:α} (h:xs[j]?=some v):atI xs (j:Int)=some v:=by
 have hj:j < xs.length:=(List.getElem?_eq_some_iff.mp h).1
 have e:ixN xs.length (j:Int)=some j:=by
   unfold ixN;rw[if_pos (by omega),if_pos (by omega)];simp
 unfold atI;rw[e];exact h
def qi0 (b:Expr):Prop:=∀ o i,subscripted b false o i=operate [o,i] (getItem o i)
def IxR (X:Cx) (r:R2):Prop :=
 ∀ (value slice:Expr) (pins:List (Addr×Obj)) (s:Shared) (σ:St) (H:Hp) (x y:V) (v u:Value) (Q:VK),Inv X pins σ H s->RelV x v->RelV y u->r x y H Q ->
   subscripted slice false v u=operate [v,u] (getItem v u)->wpAny (model X.prog X.w) X.A (subscriptTail value slice v u) (EP X pins σ Q) X.xe s
def MtR (X:Cx) (id:String) (r:V->List V->Hp->VK->Prop):Prop :=
 ∀ (pins:List (Addr×Obj)) (s:Shared) (σ:St) (H:Hp) (x:V) (xs:List V) (v:Value) (us:List Value) (Q:VK),Inv X pins σ H s->RelV x v->Vals xs us->r x xs H Q ->
   wpAny (model X.prog X.w) X.A (call (.builtin id) (v::us)) (EP X pins σ Q) X.xe s
section
variable {X:Cx}{a b:Expr}{ta tb:TE}{pos:Pos}
theorem IxR.or {r r':R2} (h:IxR X r) (h':IxR X r'):IxR X (fun x y H Q=>r x y H Q∨r' x y H Q):=by
 intro value slice pins s σ H x y v u Q I rx ry q hs;rcases q with q|q
 · exact h value slice pins s σ H x y v u Q I rx ry q hs
 · exact h' value slice pins s σ H x y v u Q I rx ry q hs
theorem qC {r:R2} (hr:IxR X r) (ha:PE X a ta) (hb:PE X b tb) (hs:qi0 b):PE X (.Subscript a b pos) (tOp r ta tb):=by
 intro pins s σ H Q I h;exact Subscript_ (qk5 ha hb I h fun v u s2 x y H2 I2 rx ry q=>hr a b pins s2 σ H2 x y v u Q I2 rx ry q (hs _ _))
inductive qhE (K:Frag) (x:V) (y:V) (H:Hp) (Q:VK):Prop
 | mk (p xs i v:_) (h1:x=.ref p) (h2:y=.int i) (h3:SqL K H p xs) (h4:atI xs i=some v) (h5:Q v H):qhE K x y H Q
def qlo (K:Frag):R2:=fun x y H Q=>qhE K x y H Q
inductive qhD (K:Frag) (x:V) (y:V) (H:Hp) (Q:VK):Prop
 | mk (p xs i v:_) (h1:x=.ref p) (h2:y=.int i) (h3:SqT K H p xs) (h4:atI xs i=some v) (h5:Q v H):qhD K x y H Q
def qlm (K:Frag):R2:=fun x y H Q=>qhD K x y H Q
def qln:R2:=fun x y H Q=>∃ z i c,x=.str z∧y=.int i∧z.length≤sizeLine∧atI z.cps.toList i=some c∧Q (.str ⟨#[c]⟩) H
theorem ix_list:IxR X (qlo X.K):=by
 intro value slice pins s σ H x y v u Q I rx ry h hs;obtain⟨p,xs,i,z,rfl,rfl,hq,he,q⟩:=h;cases rx;obtain⟨t,rfl⟩:=ry;obtain⟨its,r,pl,hz⟩:=I.list hq;obtain⟨j,h1,h2,h3,h4,h5⟩:=qcK he;obtain⟨w,ew,rw'⟩:=r.get h2;have hl:=r.length;have hn:=qaL;have fin:EP X pins σ Q w s:=⟨z,H,I,rw',q⟩
 by_cases h0:0≤i
 · have hj:i.toNat=j:=by
     rw[seqIndex_of h0 h5]at h1;exact Option.some.inj h1
   exact item_listR pl.isList h0 (by omega) (by rw[hj];simpa using ew) fin hs
 · have hj:(i+(its.toArray.size:Int)).toNat=j:=by
     rw[seqIndex_neg (by omega) h4]at h1;rw[List.size_toArray,← hl];exact Option.some.inj h1
   exact subscriptTail_builtinR (x:=w) pl.isList.typeIs slot_list_getitem.lookup
     (wpAny_getItem_list_neg (Q:=fun r s'=>r=w∧EP X pins σ Q r s') pl.isList (by omega) (by rw[List.size_toArray]<;>omega) (by omega) (by rw[hj];simpa using ew) ⟨rfl,fin⟩) hs
theorem ix_tup:IxR X (qlm X.K):=by
 intro value slice pins s σ H x y v u Q I rx ry h hs;obtain⟨p,xs,i,z,rfl,rfl,hq,he,q⟩:=h;cases rx;obtain⟨t,rfl⟩:=ry;obtain⟨its,r,pl,hz⟩:=I.tuple hq;obtain⟨j,h1,h2,h3,h4,h5⟩:=qcK he;obtain⟨w,ew,rw'⟩:=r.get h2;have hl:=r.length;have hn:=qaL;have fin:EP X pins σ Q w s:=⟨z,H,I,rw',q⟩
 exact subscriptTail_builtinR (x:=w) pl.typeIs slot_tuple_getitem.lookup
   (getItem_tuple (j:=j) (Q:=fun r s'=>r=w∧EP X pins σ Q r s') pl (by omega) (by omega) (by rw[List.size_toArray,← hl];exact h1) (by simpa using ew) ⟨rfl,fin⟩) hs
theorem qj1:IxR X qln:=by
 intro value slice pins s σ H x y v u Q I rx ry h hs;obtain⟨z,i,c,rfl,rfl,hz,he,q⟩:=h;obtain⟨t,rfl⟩:=rx;obtain⟨t',rfl⟩:=ry;obtain⟨j,h1,h2,h3,h4,h5⟩:=qcK he;have hl:z.cps.toList.length=z.length:=by simp[Str.length]
 rw[hl]at h1 h4 h5;have hn:=qaL
 exact tail_any (typeIs_str s z t) slot_str_getitem.lookup (getItem_str (c:=c) (by
   have e1:decide (i < -(2 ^ 63:Int))=false:=decide_eq_false (by omega);have e2:decide (i ≥ 2 ^ 63)=false:=decide_eq_false (by omega)
   rw[e1,e2,Bool.or_false]) (by rw[h1];simpa using h2) ⟨.str ⟨#[c]⟩,H,I.tok _,⟨_,rfl⟩,q⟩) hs
def rIx (K:Frag):R2:=fun x y H Q=>qlo K x y H Q∨qlm K x y H Q∨qln x y H Q
theorem qt:IxR X (rIx X.K):=ix_list.or (ix_tup.or qj1)
theorem qdX (its:List Value) (n j:Nat) (u:Value):Obj.mapSeq (·.setIfInBounds j u) { cls:=.type "list",data:=.seq its.toArray n }={ cls:=.type "list",data:=.seq (its.set j u).toArray n }:=by
 simp[Obj.mapSeq]
theorem Inv.lst {pins:List (Addr×Obj)}{σ:St}{H:Hp}{s:Shared}{p:Addr}{xs:List V} (I:Inv X pins σ H s) (h:H p=some (.lst xs)) :
   ∃ (its:List Value) (n:Nat),Vals xs its∧s.heap.get? p=some { cls:=.type "list",data:=.seq its.toArray n }∧xs.length≤sizeLine:=by
 obtain⟨z,its,n,r,e⟩:=I.hok p _ h;exact⟨its,n,r,e,z⟩
theorem Inv.lstUpd {pins:List (Addr×Obj)}{σ:St}{H:Hp}{s:Shared}{p:Addr}{xs ys:List V}{its its':List Value}{n n':Nat}{f:Obj->Obj} (I:Inv X pins σ H s) (h:H p=some (.lst xs))
   (ho:s.heap.get? p=some { cls:=.type "list",data:=.seq its.toArray n }) (hf:f { cls:=.type "list",data:=.seq its.toArray n }={ cls:=.type "list",data:=.seq its'.toArray n' }) (r:Vals ys its') (hz:ys.length≤sizeLine) (t:Nat) :
   Inv X pins σ (upd H p (.lst ys)) { s with heap:=s.heap.update p f,toks:=t }:=by
 have e:(s.heap.update p f).get? p=some { cls:=.type "list",data:=.seq its'.toArray n' }:=by
   rw[Heap.get?_update_self f ho (by rw[hf]<;>rfl),hf]
 refine I.write (x:=p) (e:=p) (by rw[h];trivial) (.inl rfl) (fun b u hb q=>(Heap.get?_update_other _ _ (Ne.symm hb)).trans q) ⟨_,e⟩ ?_;exact⟨hz,its',n',r,e⟩
inductive qeK (o:V) (i:V) (v:V) (H:Hp) (Q:(Hp->Prop)):Prop
 | mk (p xs k j:_) (h1:o=.ref p) (h2:i=.int k) (h3:H p=some (.lst xs)) (h4:ixN xs.length k=some j) (h5:Q (upd H p (.lst (xs.set j v)))):qeK o i v H Q
def qkH:V->V->V->Hp->(Hp->Prop)->Prop:=fun o i v H Q=>qeK o i v H Q
theorem Z6:qly X qkH:=by
 intro pins s σ H o i v ov iv u Q I ro ri rv h;obtain⟨p,xs,k,j,rfl,rfl,hp,hj,q⟩:=h;cases ro;obtain⟨t,rfl⟩:=ri;obtain⟨its,n,r,ho,hz⟩:=I.lst hp;obtain⟨h1,h2,h3,h4⟩:=qfw hj;have hl:=r.length;have hn:=qaL
 have I':Inv X pins σ (upd H p (.lst (xs.set j v))) { s with heap:=s.heap.update p (Obj.mapSeq (·.setIfInBounds j u)) } :=
   I.lstUpd hp ho (qdX its n j u) (r.set rv j) (by rw[List.length_set];exact hz) s.toks
 by_cases h0:0≤k
 · have hk:k.toNat=j:=by
     rw[seqIndex_of h0 h4]at h1;exact Option.some.inj h1
   exact PySem.W.ki_setAt ho h0 (by omega) (by rw[List.size_toArray,← hl];exact h4) (by rw[hk];exact⟨_,I',q⟩)
 · have hk:(k+(its.toArray.size:Int)).toNat=j:=by
     rw[seqIndex_neg (by omega) h3]at h1;rw[List.size_toArray,← hl];exact Option.some.inj h1
   exact PySem.W.ki_setBack ho (by omega) (by rw[List.size_toArray,← hl];exact h3) (by omega) (by rw[hk];exact⟨_,I',q⟩)
theorem tn_ (n:Nat):((-1:Int)+(n:Int)).toNat=n - 1:=by
 rw[Int.add_comm];exact Int.toNat_sub n 1
theorem qhx (i:Int) (n:Nat):max 0 (min (if i < 0 then i+(n:Int) else i) (n:Int))=((if i < 0 then (i+(n:Int)).toNat else min i.toNat n:Nat):Int):=by
 by_cases h:i < 0
 · have h':i+(n:Int)≤n:=by have:=Int.add_le_add_right (Int.le_of_lt h) n;rwa [Int.zero_add]at this
   rw[if_pos h,if_pos h,Int.min_eq_left h',Int.ofNat_toNat,Int.max_comm]
 · obtain⟨k,rfl⟩:=Int.eq_ofNat_of_zero_le (Int.not_lt.mp h);rw[if_neg h,if_neg h,Int.toNat_natCast];rcases Nat.le_total k n with g|g
   · rw[Nat.min_eq_left g,Int.min_eq_left (Int.ofNat_le.mpr g),Int.max_eq_right (Int.natCast_nonneg _)]
   · rw[Nat.min_eq_right g,Int.min_eq_right (Int.ofNat_le.mpr g),Int.max_eq_right (Int.natCast_nonneg _)]
theorem qby (lo hi:Option Int) (n:Nat):(sliceBounds lo hi none n).1=((HT.sIx n 0 lo:Nat):Int)∧(sliceBounds lo hi none n).2.1=((HT.sIx n n hi:Nat):Int)∧(sliceBounds lo hi none n).2.2=1:=by
 refine⟨?_,?_,rfl⟩
 · cases lo with
   | none=>simp[sliceBounds,HT.sIx]
   | some i =>
     simp only[sliceBounds,HT.sIx,Option.getD_none,show (1:Int) > 0 by decide,if_true];exact qhx i n
 · cases hi with
   | none=>simp[sliceBounds,HT.sIx]
   | some i =>
     simp only[sliceBounds,HT.sIx,Option.getD_none,show (1:Int) > 0 by decide,if_true];exact qhx i n
theorem qaZ (its:List Value) (lo hi:Option Int):slicePick its.toArray lo hi none=((its.drop (HT.sIx its.length 0 lo)).take (HT.sIx its.length its.length hi - HT.sIx its.length 0 lo)).toArray:=by
 obtain⟨h1,h2,h3⟩:=qby lo hi its.toArray.size;unfold slicePick;rw[h1,h2,h3];simp only[sliceRange_one,pick_run,List.size_toArray]<;>rfl
inductive qhB (K:Frag) (x:V) (lo:Option Int) (hi:Option Int) (H:Hp) (Q:VK):Prop
 | mk (a xs:_) (h1:x=.ref a) (h2:SqL K H a xs) (h3:∀ p,H p=none->Q (.ref p) (upd H p (.lst (qga xs lo hi)))):qhB K x lo hi H Q
def qlj (K:Frag):V->Option Int->Option Int->Hp->VK->Prop:=fun x lo hi H Q=>qhB K x lo hi H Q
theorem sl_list:SlR X (qlj X.K):=by
 intro pins s σ H x v vl vu lo hi sl Q I rx hs pl pu h;obtain⟨a,xs,rfl,hx,q⟩:=h;cases rx;obtain⟨its,r,ht,hz⟩:=I.list hx;have hlen:=r.length;refine⟨"list",_,slot_list_getitem.lookup,ht.isList.typeIs,?_⟩;refine wpAny_getItem_list_slice ht.isList hs pl pu .none (by simp) ?_ (by rw[List.size_toArray]<;>omega);rw[qaZ,← hlen];refine⟨.ref s.heap.objs.size,_,I.laid (t':=s.toks) (o:=.lst (qga xs lo hi)) (fun b ob q=>Heap.get?_push_of_some _ q) (Nat.le_refl _) ?_,rfl,q _ (I.hok.fresh (Nat.le_refl _))⟩;exact⟨Nat.le_trans (qcI xs lo hi) hz,_,0,(r.drop (HT.sIx xs.length 0 lo)).take (HT.sIx xs.length xs.length hi - HT.sIx xs.length 0 lo),Heap.get?_push_size _ rfl⟩
theorem CallR.or {f:Value}{r r':List V->Hp->VK->Prop} (h:CallR X f r) (h':CallR X f r'):CallR X f (fun xs H Q=>r xs H Q∨r' xs H Q):=by
 intro pins s σ H xs us Q I rs q;rcases q with q|q
 · exact h pins s σ H xs us Q I rs q
 · exact h' pins s σ H xs us Q I rs q
theorem jW:CallR X (.type "list") (fun xs H Q=>∃ p ys,xs=[.ref p]∧(SqL X.K H p ys∨SqT X.K H p ys)∧∀ l,H l=none->Q (.ref l) (upd H l (.lst ys))):=by
 intro pins s σ H xs us Q I r h;obtain⟨p,ys,rfl,hq,q⟩:=h;obtain⟨u,rfl,rx⟩:=Ji r;cases rx;have fin:∀ (its:List Value),Vals ys its->ys.length≤sizeLine->∀ (h':Heap) (c':Nat),(∀ b o',s.heap.get? b=some o'->h'.get? b=some o') ->
     h'.get? s.heap.objs.size=some { cls:=.type "list",dict:=none,data:=.seq its.toArray c',slots:=#[] }->EP X pins σ Q (.ref s.heap.objs.size) { s with heap:=h' }:=fun its r' hz h' c' kp e =>
   ⟨.ref s.heap.objs.size,_,I.laid (t':=s.toks) kp (Nat.le_refl _) (show ObjOk X.prog X.w _ h' _ (.lst ys) from ⟨hz,its,c',r',e⟩),rfl,q _ (I.hok.fresh (Nat.le_refl _))⟩
 rcases hq with hq|hq
 · obtain⟨its,r',pl,hz⟩:=I.list hq;have hlen:=r'.length;obtain⟨o,ho,hc,n,hd⟩:=pl.isList;exact call_list_seq p (.inl rfl) ho hc hd (fun h' c' kp e=>fin its r' hz h' c' kp e) (by simp only[List.size_toArray]<;>omega)
 · obtain⟨its,r',pl,hz⟩:=I.tuple hq;have hlen:=r'.length;obtain⟨o,ho,hc,n,hd⟩:=pl;exact call_list_seq p (.inr rfl) ho hc hd (fun h' c' kp e=>fin its r' hz h' c' kp e) (by simp only[List.size_toArray]<;>omega)
def tyV (K:Frag) (T:String) (x:V) (H:Hp):Prop:=match x with
 | .str _=>T="str"
 | .int _=>T="int"
 | .ref p=>(T="list"∧∃ xs,SqL K H p xs)∨(T="tuple"∧∃ o,K.lookup p=some o∧o.cls=.type "tuple"∧o.dict=none) ∨
     (T="dict"∧((∃ kvs,H p=some (.dK kvs))∨∃ kvs,H p=some (.dT kvs)))∨(T="set"∧∃ S n,H p=some (.set S n))
 | _=>False
theorem qjd {pins:List (Addr×Obj)}{σ:St}{H:Hp}{s:Shared}{T:String}{x:V}{v:Value} (I:Inv X pins σ H s) (r:RelV x v) (ty:tyV X.K T x H) :
   s.TypeIs v T∧∀ a,v=.ref a->∃ ob,s.heap.get? a=some ob∧ob.dict=none:=by
 cases x with
 | str z =>
   obtain⟨t,rfl⟩:=r;cases (show T="str" from ty);exact⟨typeIs_str s z t,fun _ e=>nomatch e⟩
 | int i =>
   obtain⟨t,rfl⟩:=r;cases (show T="int" from ty);exact⟨typeIs_int s i t,fun _ e=>nomatch e⟩
 | ref p =>
   cases r;rcases ty with ⟨rfl,xs,hq⟩|⟨rfl,o,hk,hc,hd⟩|⟨rfl,hk⟩|⟨rfl,S,n,hk⟩
   · obtain⟨its,_,pl,_⟩:=I.list hq;refine⟨pl.isList.typeIs,fun a e=>?_⟩;cases e;obtain⟨o,n,e,c,hd,_⟩:=pl;exact⟨o,e,hd⟩
   · refine⟨⟨o,I.kIn p o hk,hc⟩,fun a e=>?_⟩;cases e;exact⟨o,I.kIn _ o hk,hd⟩
   · have z:∃ o,s.heap.get? p=some o∧o.ExactDict:=by
       rcases hk with ⟨kvs,hk⟩|⟨kvs,hk⟩
       · obtain⟨_,_,_,_,o,_,_,e,ex,_⟩:=I.hok p _ hk;exact⟨o,e,ex⟩
       · obtain⟨_,_,_,_,o,_,_,e,ex,_⟩:=I.hok p _ hk;exact⟨o,e,ex⟩
     obtain⟨o,e,ex⟩:=z;refine⟨⟨o,e,ex.1⟩,fun a e2=>?_⟩;cases e2;exact⟨o,e,ex.2.1⟩
   · obtain⟨o,_,_,_,e,ex,_⟩:=I.hok p _ hk;refine⟨⟨o,e,ex.1⟩,fun a e2=>?_⟩;cases e2;exact⟨o,e,ex.2.1⟩
 | _=>exact False.elim ty
def tBM (K:Frag) (T:String) (r:V->List V->Hp->VK->Prop) (to:TE) (t:TA):TE:=fun σ H Q=>to σ H fun x H1=>tyV K T x H1∧t σ H1 fun xs H2=>r x xs H2 Q
variable {o e:Expr}{es:List Expr}{to:TE}{t:TA}{name:Str}{apos cpos:Pos}{T id:String}{r:V->List V->Hp->VK->Prop}
theorem qbP (pa:PlainAttrs T) (slot:Slot T name id) (hty:typeOf (.builtin id)=pure (.type "method_descriptor")) (hm:MtR X id r) (ho:PE X o to) (ha:PA X (e::es) t)
   (hbase:attributeBase o name X.env (eval o X.env)=eval o X.env:=by rfl)
   (hfew:((backTo cpos (starEach (e::es) X.env)).all (fun x=>!x.1) && (backToKw cpos (keywordEach [] X.env)).all (fun x=>x.1.isSome)
     && decide ((e::es).length+([]:List Keyword).length+(if ([]:List Keyword).isEmpty then 0 else 1) < 30))=true:=by rfl)
   (hline:(apos.endLine == cpos.line)=true:=by rfl) (hs:starEach (e::es) X.env=(false,eval e X.env)::starEach es X.env:=by rfl) (hplain:(backTo cpos (starEach es X.env)).any (·.1)=false:=by rfl) :
   PE X (.Call (.Attribute o name apos) (e::es) [] cpos) (tBM X.K T r to t):=by
 intro pins s σ H Q I h;refine wpAny_Call_method_late hbase hfew hline rfl (thn (ho pins s σ H _ I h) fun v s1 zz_=>?_);obtain⟨x,H1,I1,r1,ty,q1⟩:=zz_;obtain⟨h1,h2⟩:=qjd I1 r1 ty;refine⟨T,id,pa,slot,hty,h1,h2,?_⟩;have hA:=ha cpos pins s1 σ H1 _ I1 q1;rw[hs]at hA ⊢;refine Calls.callWith_builtin (by show (false || (backTo cpos (starEach es X.env)).any (·.1))=false;rw[hplain]<;>rfl) (Calls.evalArgs_plain ?_);exact thn hA fun us s2 ⟨vs,H2,I2,r2,q2⟩=>hm pins s2 σ H2 x vs v us Q I2 r1 r2 q2
end
def MtM (X:Cx) (id:String) (r:V->List V->Hp->VK->Prop):Prop :=
 ∀ (pins:List (Addr×Obj)) (s:Shared) (σ:St) (H:Hp) (x:V) (xs:List V) (v:Value) (us:List Value) (Q:VK),Inv X pins σ H s->RelV x v->Vals xs us->r x xs H Q ->
   wpAny (model X.prog X.w) X.A (call (.builtin id) (v::us)) (EP X pins σ Q) X.xe s
theorem Vals.one {x:V}{us:List Value} (h:Vals [x] us):∃ u,us=[u]∧RelV x u:=by
 cases h with
 | cons r t=>cases t;exact⟨_,rfl,r⟩
section
variable {X:Cx}{pins:List (Addr×Obj)}{σ:St}{H:Hp}{s:Shared}{l b:Addr}{xs ys zs:List V}
theorem Inv.lset {its its':List Value}{n:Nat}{f:Array Value->Array Value}{t':Nat} (I:Inv X pins σ H s) (hH:H l=some (.lst xs))
   (e:s.heap.get? l=some { cls:=.type "list",data:=.seq its.toArray n }) (hf:f its.toArray=its'.toArray) (hv:Vals ys its') (hz:ys.length≤sizeLine) :
   Inv X pins σ (upd H l (.lst ys)) { s with heap:=s.heap.update l (Obj.mapSeq f),toks:=t' }:=by
 have q:=PySem.IsL.update e f;rw[hf]at q;refine I.write (x:=l) (e:=l) (by rw[hH];exact trivial) (.inl rfl) (fun b' u hb hu=>(Heap.get?_update_other s.heap (Obj.mapSeq f) (Ne.symm hb)).trans hu) ⟨_,q⟩ ?_;exact⟨hz,its',_,hv,q⟩
theorem Inv.lnew {its:List Value}{t':Nat} (I:Inv X pins σ H s) (hv:Vals ys its) (hz:ys.length≤sizeLine) :
   Inv X pins σ (upd H s.heap.objs.size (.lst ys)) { s with heap:=s.heap.push { cls:=.type "list",data:=.seq its.toArray },toks:=t' } :=
 I.laid (fun _ _ q=>Heap.get?_push_of_some _ q) (Nat.le_refl _) ⟨hz,its,0,hv,Heap.get?_push_size _ rfl⟩
theorem Inv.fresh (I:Inv X pins σ H s):H s.heap.objs.size=none:=I.hok.fresh (Nat.le_refl _)
theorem Inv.lstM (I:Inv X pins σ H s) (hH:H l=some (.lst xs)):xs.length≤sizeLine∧∃ (its:List Value) (n:Nat),Vals xs its∧xs.length=its.length∧s.heap.get? l=some { cls:=.type "list",data:=.seq its.toArray n }:=by
 obtain⟨z,its,n,r,e⟩:=I.hok l _ hH;exact⟨z,its,n,r,r.length,e⟩
theorem qgI {n:Nat} (h:n≤sizeLine):Builtin.List.listTooLong n=false:=by
 unfold Builtin.List.listTooLong;exact decide_eq_false (by omega)
end
section
variable {X:Cx}
inductive qbL (x:V) (vs:List V) (H:Hp) (Q:VK):Prop
 | mk (l xs y:_) (h1:x=.ref l) (h2:vs=[y]) (h3:H l=some (.lst xs)) (h4:xs.length < sizeLine) (h5:Q .non (upd H l (.lst (xs++[y])))):qbL x vs H Q
def qim:V->List V->Hp->VK->Prop:=fun x vs H Q=>qbL x vs H Q
theorem Qf:MtM X "list.append" qim:=by
 intro pins s σ H x vs v us Q I rx rv h;obtain⟨l,xs,y,rfl,rfl,hH,hz,q⟩:=h;cases rx;obtain⟨u,rfl,ru⟩:=rv.one;obtain⟨z,its,n,r,hl,e⟩:=I.lstM hH;refine call_meets F.slot_list_append ⟨_,e,rfl⟩ F.entry_list_append (F.args_list_append_2 _ _) (PySem.list_append l its.toArray n u (by rw[List.size_toArray];omega)) ⟨e,?_⟩;refine⟨.non,_,I.lset (its':=its++[u]) hH e (by simp) (r.append (.cons ru .nil)) ?_,rfl,q⟩;rw[List.length_append,List.length_singleton];omega
def qil:V->List V->Hp->VK->Prop:=fun x vs H Q=>∃ l b xs zs,x=.ref l∧vs=[.ref b]∧H l=some (.lst xs)∧H b=some (.lst zs)∧xs.length+zs.length≤sizeLine∧Q .non (upd H l (.lst (xs++zs)))
theorem qfd:MtM X "list.extend" qil:=by
 intro pins s σ H x vs v us Q I rx rv h;obtain⟨l,b,xs,zs,rfl,rfl,hH,hB,hz,q⟩:=h;cases rx;obtain⟨u,rfl,ru⟩:=rv.one;cases ru;obtain⟨z,its,n,r,hl,e⟩:=I.lstM hH;obtain⟨z2,its2,n2,r2,hl2,e2⟩:=I.lstM hB;have hsz:its.toArray.size+its2.toArray.size≤sizeLine:=by rw[List.size_toArray,List.size_toArray];omega
 have hlong:¬ (!its.toArray.isEmpty && Builtin.List.listTooLong (its.toArray.size+its2.toArray.size))=true:=by
   rw[qgI hsz,Bool.and_false];exact Bool.false_ne_true
 refine call_meets F.slot_list_extend ⟨_,e,rfl⟩ F.entry_list_extend (F.args_list_extend_2 _ _)
   (AutoSeq1.list_extend_list_list_0 l its.toArray n b its2.toArray n2 hlong (by rw[List.size_toArray];omega) (by omega)) ⟨e,e2,?_⟩
 refine⟨.non,_,I.lset (its':=its++its2) hH e (by simp) (r.append r2) ?_,rfl,q⟩;rw[List.length_append];omega
inductive qhH (x:V) (y:V) (H:Hp) (Q:VK):Prop
 | mk (l b xs zs:_) (h1:x=.ref l) (h2:y=.ref b) (h3:H l=some (.lst xs)) (h4:H b=some (.lst zs)) (h5:xs.length+zs.length≤sizeLine) (h6:∀ p,H p=none->Q (.ref p) (upd H p (.lst (xs++zs)))):qhH x y H Q
def qlr:R2:=fun x y H Q=>qhH x y H Q
theorem op_cat:OpR X (binaryOp .Add) qlr:=by
 intro pins s σ H x y v u Q I rx ry h;obtain⟨l,b,xs,zs,rfl,rfl,hH,hB,hz,q⟩:=h;cases rx;cases ry;obtain⟨z,its,n,r,hl,e⟩:=I.lstM hH;obtain⟨z2,its2,n2,r2,hl2,e2⟩:=I.lstM hB;refine PySem.P.add_list e e2 ?_ (by rw[List.size_toArray,List.size_toArray];omega);have ea:its.toArray++its2.toArray=(its++its2).toArray:=by simp
 rw[ea];exact⟨.ref _,_,I.lnew (t':=s.toks) (r.append r2) (by rw[List.length_append];omega),rfl,q _ I.fresh⟩
end
section
variable {κ:Type} [DecidableEq κ]
def qdH (kvs:List (κ×V)) (k:κ):Option V:=(kvs.find? fun kv=>decide (kv.1=k)).map (·.2)
def qhI (kvs:List (κ×V)) (k:κ) (v:V):List (κ×V) :=
 if (kvs.any fun kv=>decide (kv.1=k))=true then kvs.map (fun kv=>if kv.1=k then (kv.1,v) else kv) else kvs++[(k,v)]
theorem qcO {p:κ×V}{r:List (κ×V)}{k:κ} (e:p.1=k):qdH (p::r) k=some p.2:=by simp[qdH,List.find?_cons,e]
theorem qcP {p:κ×V}{r:List (κ×V)}{k:κ} (e:¬ p.1=k):qdH (p::r) k=qdH r k:=by simp[qdH,List.find?_cons,e]
theorem qcC (kvs:List (κ×V)) (k:κ) (v:V):(qhI kvs k v).length≤kvs.length+1:=by
 unfold qhI;split
 · rw[List.length_map];omega
 · rw[List.length_append,List.length_cons,List.length_nil];omega
theorem RelO.isSome_eq {o:Option V}{u:Option Value} (r:RelO o u):o.isSome=u.isSome:=by
 cases o with
 | none=>cases u with
   | none=>rfl
   | some _=>exact(show False from r).elim
 | some _=>cases u with
   | none=>exact(show False from r).elim
   | some _=>rfl
theorem KV.val {kvs:List (κ×V)}{vs:List (κ×Value)} (r:KV kvs vs) (k:κ):RelO (qdH kvs k) (valueAt vs k):=by
 unfold KV at r
 induction r with
 | nil=>exact True.intro
 | @cons p q ps qs h t ih =>
   obtain⟨h1,h2⟩:=h;by_cases e:p.1=k
   · have e':q.1=k:=h1.symm.trans e;have b:valueAt (q::qs) k=some q.2:=by simp[valueAt,List.find?_cons,e']
     rw[qcO e,b];exact h2
   · have e':¬ q.1=k:=fun z=>e (h1.trans z);have b:valueAt (q::qs) k=valueAt qs k:=by simp[valueAt,List.find?_cons,e']
     rw[qcP e,b];exact ih
theorem KV.any {kvs:List (κ×V)}{vs:List (κ×Value)} (r:KV kvs vs) (k:κ):(kvs.any fun kv=>decide (kv.1=k))=vs.any fun kv=>decide (kv.1=k):=by
 unfold KV at r
 induction r with
 | nil=>rfl
 | cons h t ih=>rw[List.any_cons,List.any_cons,ih,h.1]
theorem KV.repl {kvs:List (κ×V)}{vs:List (κ×Value)} (r:KV kvs vs) (k:κ) {y:V}{u:Value} (ry:RelV y u) :
   KV (kvs.map fun kv=>if kv.1=k then (kv.1,y) else kv) (vs.map fun kv=>if kv.1=k then (kv.1,u) else kv):=by
 unfold KV at r ⊢
 induction r with
 | nil=>exact .nil
 | @cons p q ps qs h t ih =>
   rw[List.map_cons,List.map_cons];refine .cons ?_ ih;obtain⟨h1,h2⟩:=h;by_cases e:p.1=k
   · rw[if_pos e,if_pos (h1.symm.trans e)];exact⟨h1,ry⟩
   · rw[if_neg e,if_neg (fun z=>e (h1.trans z))];exact⟨h1,h2⟩
theorem KV.put {kvs:List (κ×V)}{vs:List (κ×Value)} (r:KV kvs vs) (k:κ) {y:V}{u:Value} (ry:RelV y u):KV (qhI kvs k y) (stored vs k u):=by
 unfold qhI stored;rw[r.any k];by_cases e:(vs.any fun kv=>decide (kv.1=k))=true
 · rw[if_pos e,if_pos e];exact r.repl k ry
 · rw[if_neg e,if_neg e];exact Paired.snoc r ⟨rfl,ry⟩
end
theorem qg5 {P:Program}{w:World}{k:Key}{u:Value} (r:RelV (kV k) u):(zm P w).is k u=true:=by
 cases k with
 | inl i=>obtain⟨t,e⟩:=(show ∃ t,u=Value.int i t from r);subst e;exact qcy P w i t
 | inr x=>obtain⟨t,e⟩:=(show ∃ t,u=Value.str x t from r);subst e;exact qcx P w x t
theorem qb1 {P:Program}{w:World}:∀ {ks:List Key}{us:List Value},Vals (ks.map kV) us->ItemsAre (zm P w) ks us
 | [],_,r=>by rw[List.map_nil]at r;cases r;exact .nil
 | k::ks,_,r=>by
   rw[List.map_cons]at r
   cases r with
   | cons h t=>exact .cons (qg5 h) (qb1 t)
abbrev KT (H:Hp):List (List Key×V)->List (List Key×Addr×Value)->Prop:=Paired fun p q=>p.1=q.1∧H q.2.1=some (.tup (p.1.map kV))∧RelV p.2 q.2.2
theorem KT.val {H:Hp}{kvs:List (List Key×V)}{xs:List (List Key×Addr×Value)} (r:KT H kvs xs) (k:List Key):RelO (qdH kvs k) ((atKey xs k).map (·.2)):=by
 induction r with
 | nil=>exact True.intro
 | @cons p q ps qs h t ih =>
   obtain⟨h1,_,h2⟩:=h;by_cases e:p.1=k
   · have e':q.1=k:=h1.symm.trans e;have b:atKey (q::qs) k=some q.2:=by simp[atKey,List.find?_cons,e']
     rw[qcO e,b];exact h2
   · have e':¬ q.1=k:=fun z=>e (h1.trans z);have b:atKey (q::qs) k=atKey qs k:=by simp[atKey,List.find?_cons,e']
     rw[qcP e,b];exact ih
section
variable {P:Program}{w:World}{H:Hp}{h:Heap}{a:Addr}
theorem qjz {u:HO} (ok:HOk P w H h) (e:Rd H a u):ObjOk P w H h a u:=e.ok ok
theorem qhc {kvs:List (Key×V)} (ok:HOk P w H h) (e:Rd H a (.dK kvs)):kvs.length≤sizeLine∧(a == sysModules)=false∧∃ vs,KV kvs vs∧h.DictOf (zm P w) a vs :=
 show ObjOk P w H h a (.dK kvs) from qjz ok e
theorem qk4 {kvs:List (Key×V)} (ok:HOk P w H h) (e:H a=some (.dK kvs)):kvs.length≤sizeLine∧(a == sysModules)=false∧∃ vs,KV kvs vs∧h.DictOf (zm P w) a vs:=qhc ok (.inl e)
theorem qfs {ks:List Key} (ok:HOk P w H h) (e:H a=some (.tup (ks.map kV))):(tupleKind (zm P w)).is h ks a:=by
 obtain⟨_,its,r,o,h1,h2,n,h3⟩:=(show ObjOk P w H h a (.tup (ks.map kV)) from ok a _ e)
 exact⟨o,its.toArray,n,h1,h2,h3,by simpa using qb1 r⟩
theorem qiS {kvs:List (List Key×V)} (ok:HOk P w H h) (e:Rd H a (.dT kvs)):kvs.length≤sizeLine∧(a == sysModules)=false ∧
   ∃ xs,KT H kvs xs∧h.DictOfH (tupleKind (zm P w)) a xs:=by
 obtain⟨z,y,xs,r,o,es,ep,h1,h2,h3,h4,h5⟩:=(show ObjOk P w H h a (.dT kvs) from qjz ok e)
 refine⟨z,y,xs,r,o,es,ep,h1,h2,h3,h4,fun x hx=>?_,h5⟩
 have all:∀ {l:List (List Key×V)}{m:List (List Key×Addr×Value)},KT H l m->∀ x∈m,(tupleKind (zm P w)).is h x.1 x.2.1:=by
   intro l m q
   induction q with
   | nil=>intro x hx;exact nomatch hx
   | @cons p q ps qs hq t ih =>
     intro x hx;rcases List.mem_cons.mp hx with e|hx
     · subst e;exact qfs ok (by rw[← hq.1];exact hq.2.1)
     · exact ih x hx
 exact all r x hx
end
def qi3 (H:Hp) (a:Addr) (y:V) (r:Option V):Prop :=
 (∃ kvs k,Rd H a (.dK kvs)∧y=kV k∧r=qdH kvs k)∨∃ kvs k b,Rd H a (.dT kvs)∧y=.ref b∧H b=some (.tup (k.map kV))∧r=qdH kvs k
section
variable {X:Cx}{pins:List (Addr×Obj)}{σ:St}{H:Hp}{s:Shared}{a:Addr}{y v:V}{u r:Value}{o:Option V}{A:Around}{E:Value->Shared->Prop}
theorem Inv.big (I:Inv X pins σ H s):sysModules < s.heap.objs.size:=by
 have h:mainGlobals < s.heap.objs.size:=(I.mod.glob.keeps I.bk).lt;exact Nat.lt_trans (by decide) h
theorem qfK {Q:Value->Shared->Prop} (hu:A.units+1 < cLine) (I:Inv X pins σ H s) (g:qi3 H a y (some v)) (ry:RelV y u) (h:∀ w' s',Inv X pins σ H s'->RelV v w'->Q w' s') :
   wpAny (model X.prog X.w) A (getItem (.ref a) u) Q E s:=by
 rcases g with ⟨kvs,k,e,ey,l⟩|⟨kvs,k,b,e,ey,eb,l⟩
 · subst ey;obtain⟨z,hd,vs,rel,dd⟩:=qhc I.hok e;obtain⟨w',hw,rw'⟩:=RelO.some_of (v:=v) (o:=valueAt vs k) (by rw[l];exact rel.val k);exact wpAny_getItem_of (qg5 ry) dd.mapOf hw (h w' _ (I.tok _) rw')
 · subst ey;cases (show u=Value.ref b from ry);obtain⟨z,hd,xs,rel,dd⟩:=qiS I.hok e;obtain⟨w',hw,rw'⟩:=RelO.some_of (v:=v) (o:=(atKey xs k).map (·.2)) (by rw[l];exact rel.val k);obtain⟨p,hp,hp2⟩:=Option.map_eq_some_iff.mp hw;refine wpAny_getItem_heap (tupleKind_room_in1 hu) (qfs I.hok eb) dd hp ?_;rw[hp2];exact h w' _ (I.tok _) rw'
theorem qiU {Q:Value->Shared->Prop} (hu:A.units+1 < cLine) (I:Inv X pins σ H s) (g:qi3 H a y o) (ry:RelV y u) (h:∀ s',Inv X pins σ H s'->Q (.bool (!o.isSome)) s') :
   wpAny (model X.prog X.w) A (compareOp .NotIn u (.ref a)) Q E s:=by
 rcases g with ⟨kvs,k,e,ey,l⟩|⟨kvs,k,b,e,ey,eb,l⟩
 · subst ey;obtain⟨z,hd,vs,rel,dd⟩:=qhc I.hok e;refine wpAny_notIn_of (qg5 ry) hd dd.mapOf ?_;rw[← (rel.val k).isSome_eq,← l];exact h _ (I.tok _)
 · subst ey;cases (show u=Value.ref b from ry);obtain⟨z,hd,xs,rel,dd⟩:=qiS I.hok e;refine wpAny_notIn_heap (tupleKind_room_in1 hu) (qfs I.hok eb) hd dd ?_;have q:=(rel.val k).isSome_eq;rw[Option.isSome_map]at q;rw[← q,← l];exact h _ (I.tok _)
theorem qiT {h':Heap}{t':Nat}{ob:HO} (I:Inv X pins σ H s) (mu:Mut (H a)) (hs:Heap.SameBut a s.heap h') (he:∃ q,h'.get? a=some q) (new:ObjOk X.prog X.w (upd H a ob) h' a ob) :
   Inv X pins σ (upd H a ob) { s with heap:=h',toks:=t' } :=
 I.write (x:=a) (e:=a) mu (.inl rfl) (fun b q hb z=>(hs.2 b hb).trans z) he new
theorem qj7 {P:Program}{w:World}{H':Hp}{h':Heap}{kvs:List (Key×V)}{vs:List (Key×Value)} (z:kvs.length≤sizeLine) (hd:(a == sysModules)=false) (rel:KV kvs vs) (dd:h'.DictOf (zm P w) a vs) :
   ObjOk P w H' h' a (.dK kvs):=⟨z,hd,vs,rel,dd⟩
end
def qlz (i:Expr):Prop:=∀ ov iv,subscripted i false ov iv=operate [ov,iv] (getItem ov iv)
theorem qh8 {prog:Program}{w:World}{A:Around}{E:Value->Shared->Prop}{s:Shared}{env:Env}{value slice:Expr}{pos:Pos}{T id:String}{Q:Value->Shared->Prop}
   (hl:typeLookup (.type T) "__getitem__"=pure (some (.builtin id))) (hs:qlz slice)
   (h:wpAny (model prog w) A (eval value env) (fun o s₁=>wpAny (model prog w) A (eval slice env) (fun i s₂=>s₂.TypeIs o T∧wpAny (model prog w) A (getItem o i) Q E s₂) E s₁) E s) :
   wpAny (model prog w) A (eval (.Subscript value slice pos) env) Q E s:=by
 refine Subscript_ (wpAny_mono h (fun o s₁ h₁=>wpAny_mono h₁ (fun i s₂ h₂=>?_) fun _ _ x=>x) fun _ _ x=>x);obtain⟨hT,h₂⟩:=h₂;unfold subscriptTail;refine wpAny_bind ?_;rw[getitemInPython_of_ne hT.not_modules];refine wpAny_bind (wpAny_specialOf hT hl ?_)
 have fin:wpAny (model prog w) A (subscripted slice false o i) (fun r s₃=>wpAny (model prog w) A (letTemporaryGo value o r >>= fun _=>pure r) Q E s₃) E s₂:=by
   rw[hs o i];exact wpAny_operating (wpAny_mono h₂ (fun r s₃ h₃=>wpAny_bind (wpAny_letTemporaryGo (wpAny_pure h₃))) fun _ _ x=>x)
 first
   | exact wpAny_pure (wpAny_bind fin)
   | exact wpAny_bind (wpAny_pure (wpAny_bind fin))
   | exact wpAny_bind fin
theorem qcH {X:Cx}{pins:List (Addr×Obj)}{σ:St}{H:Hp}{s:Shared}{a:Addr}{y:V}{o:Option V} (I:Inv X pins σ H s) (g:qi3 H a y o):s.TypeIs (.ref a) "dict":=by
 rcases g with ⟨kvs,k,e,_,_⟩|⟨kvs,k,b,e,_,_,_⟩
 · obtain⟨_,_,vs,_,dd⟩:=qhc I.hok e;exact dd.typeIs
 · obtain⟨_,_,xs,_,dd⟩:=qiS I.hok e;exact dd.typeIs
def qkA (td ty:TE):TE:=fun σ H Q=>td σ H fun x H1=>ty σ H1 fun y H2=>∃ a v,x=.ref a∧qi3 H2 a y (some v)∧Q v H2
section
variable {X:Cx}{o i e value:Expr}{pos pos' tpos:Pos}{td ty tv:TE}
theorem qiu (hu:X.A.units+1 < cLine) (ho:PE X o td) (hi:PE X i ty) (hs:qlz i):PE X (.Subscript o i pos) (qkA td ty):=by
 intro pins s σ H Q I h;refine qh8 PySem.F.slot_dict_getitem.lookup hs (thn (ho pins s σ H _ I h) fun u s1 ⟨x,H1,I1,rx,q1⟩=>thn (hi pins s1 σ H1 _ I1 q1) fun iv s2 zz_=>?_);obtain⟨y,H2,I2,ry,a,v,ex,g,q2⟩:=zz_;subst ex;obtain rfl:u=Value.ref a:=rx;exact⟨qcH I2 g,qfK hu I2 g ry fun w' s3 I3 rw'=>⟨v,H2,I3,rw',q2⟩⟩
end
theorem qdE {P:Program}{w:World}{H:Hp} (h:Heap) (hb:sysModules < h.objs.size):ObjOk P w H (h.push { cls:=.type "dict",data:=.dict #[] }) h.objs.size (.dK []) :=
 ⟨Nat.zero_le _,beq_eq_false_iff_ne.mpr (Ne.symm (Nat.ne_of_lt hb)),[],.nil,Heap.DictOf.new h⟩
def qjq:TE:=fun _ H Q=>∀ p,H p=none->Q (.ref p) (upd H p (.dK []))
section
variable {X:Cx}{pos:Pos}
theorem qdk:PE X (.Dict [] [] pos) qjq:=fun pins s σ H Q I h =>
 wpAny_Dict_empty ⟨.ref s.heap.objs.size,_,I.laid (a:=s.heap.objs.size) (o:=.dK []) (t':=s.toks) (fun _ _ q=>Heap.get?_push_of_some _ q) (Nat.le_refl _) (qdE s.heap I.big),rfl,h _ (I.hok.fresh (Nat.le_refl _))⟩
end
def qel:List (TE×TE)->St->Hp->(List (V×V)->Hp->Prop)->Prop
 | [],_,H,Q=>Q [] H
 | (tk,tv)::r,σ,H,Q=>tk σ H fun x H1=>tv σ H1 fun y H2=>qel r σ H2 fun ps H3=>Q ((x,y)::ps) H3
abbrev VV:List (V×V)->List (Value×Value)->Prop:=Paired fun p q=>RelV p.1 q.1∧RelV p.2 q.2
def PPs (X:Cx) (pos:Pos) (keys:List (Option Expr)) (values:List Expr) (trs:List (TE×TE)):Prop :=
 ∀ (pins:List (Addr×Obj)) (s:Shared) (σ:St) (H:Hp) (Q:List (V×V)->Hp->Prop),Inv X pins σ H s->qel trs σ H Q ->
   wpAny (model X.prog X.w) X.A (evalPairs (pairTrees keys values X.env pos)) (fun vs s'=>∃ ps H',Inv X pins σ H' s'∧VV ps vs∧Q ps H') X.xe s
theorem qeO {X:Cx}{pos:Pos}:PPs X pos [] [] []:=fun pins s σ H Q I h=>pairTrees_nil_walk ⟨[],H,I,.nil,h⟩
theorem qdi {X:Cx}{pos:Pos}{k v:Expr}{ks:List (Option Expr)}{vs:List Expr}{tk tv:TE}{trs:List (TE×TE)} (hk:PE X k tk) (hv:PE X v tv) (hr:PPs X pos ks vs trs) :
   PPs X pos (some k::ks) (v::vs) ((tk,tv)::trs):=fun pins s σ H Q I h =>
 pairTrees_cons_walk (thn (hk pins s σ H _ I h) fun u s1 ⟨x,H1,I1,rx,q1⟩=>thn (hv pins s1 σ H1 _ I1 q1) fun w2 s2 ⟨y,H2,I2,ry,q2⟩ =>
   thn (hr pins s2 σ H2 _ I2 q2) fun ws s3 ⟨ps,H3,I3,rel,q3⟩=>⟨(x,y)::ps,H3,I3,.cons ⟨rx,ry⟩ rel,q3⟩)
def JP (kvs more:List (Key×V)):List (Key×V):=more.foldl (fun acc kv=>qhI acc kv.1 kv.2) kvs
theorem KV.merge:∀ {more:List (Key×V)}{rs:List (Key×Value)}{kvs:List (Key×V)}{vs:List (Key×Value)},KV more rs->KV kvs vs->KV (JP kvs more) (merged vs rs):=by
 intro more rs kvs vs r;unfold KV at r
 induction r generalizing kvs vs with
 | nil=>intro q;exact q
 | @cons p q ps qs h t ih =>
   intro r0
   have e:KV (qhI kvs p.1 p.2) (stored vs q.1 q.2):=by
     have:=r0.put p.1 h.2
     rw[← h.1];exact this
   exact ih e
theorem jk:∀ (more kvs:List (Key×V)),(JP kvs more).length≤kvs.length+more.length
 | [],kvs=>by show kvs.length≤kvs.length+0;omega
 | p::r,kvs=>by
   have h1:=jk r (qhI kvs p.1 p.2);have h2:=qcC kvs p.1 p.2;show (JP (qhI kvs p.1 p.2) r).length≤_;rw[List.length_cons];omega
theorem qaQ {P:Program}{w:World}:∀ {kvs:List (Key×V)}{ws:List (Value×Value)},VV (kvs.map fun kv=>(kV kv.1,kv.2)) ws->∃ rs,Carries (zm P w) ws rs∧KV kvs rs
 | [],_,r=>by rw[List.map_nil]at r;cases r;exact⟨[],True.intro,.nil⟩
 | p::kvs,_,r=>by
   rw[List.map_cons]at r
   cases r with
   | @cons a b as bs h t =>
     obtain⟨rs,c,q⟩:=qaQ (P:=P) (w:=w) t;obtain⟨b1,b2⟩:=b;exact⟨(p.1,b2)::rs,⟨qg5 h.1,rfl,c⟩,.cons ⟨rfl,h.2⟩ q⟩
def qkz (trs:List (TE×TE)):TE:=fun σ H Q=>∀ p,H p=none->qel trs σ (upd H p (.dK [])) fun ps H2=>H2 p=some (.dK [])∧∃ kvs:List (Key×V),ps=kvs.map (fun kv=>(kV kv.1,kv.2))∧kvs.length≤15∧Q (.ref p) (upd H2 p (.dK (JP [] kvs)))
theorem qeT {X:Cx}{pos:Pos}{keys:List (Option Expr)}{values:List Expr}{trs:List (TE×TE)} (h:PPs X pos keys values trs) (hall:keys.all (·.isSome)=true) (hl:keys.length=values.length) (h0:keys≠[])
   (h15:keys.length≤15):PE X (.Dict keys values pos) (qkz trs):=by
 intro pins s σ H Q I q;have hn:=I.hok.fresh (Nat.le_refl s.heap.objs.size);have I1:=I.laid (a:=s.heap.objs.size) (o:=.dK []) (h':=s.heap.push { cls:=.type "dict",data:=.dict #[] }) (t':=s.toks) (fun _ _ q=>Heap.get?_push_of_some _ q) (Nat.le_refl _) (qdE s.heap I.big);refine wpAny_Dict_walk (knd:=zm X.prog X.w) hall hl h0 h15 (thn (h pins _ σ _ _ I1 (q _ hn)) fun ws s2 zz_=>?_);obtain⟨ps,H2,I2,rel,e,kvs,ep,lk,q2⟩:=zz_;subst ep;obtain⟨rs,c,rk⟩:=qaQ (P:=X.prog) (w:=X.w) rel;obtain⟨z,hd,vs0,r0,dd⟩:=qk4 I2.hok e;cases r0;refine⟨rs,c,dd,fun h' dd' hs=>⟨.ref s.heap.objs.size,_,?_,rfl,q2⟩⟩
 have hz:(JP [] kvs).length≤sizeLine:=by
   have h1:=jk kvs [];rw[List.length_nil]at h1;rw[sizeLine_eq];omega
 have he:∃ q,h'.get? s.heap.objs.size=some q:=let ⟨q,_,_,hq,_⟩:=dd';⟨q,hq⟩;exact qiT I2 (by rw[e];exact True.intro) hs he (qj7 hz hd (rk.merge .nil) dd')
end L2
namespace Att
open PySem PySem.W PySem.Calls PyProof.Rows
theorem JW {P:Params}{h:Heap}:∀ (ns:List Int) (vs:List Value),WellAll P h vs (ns.map WData.int)->IntsAre vs ns:=by
 intro ns
 induction ns with
 | nil =>
   intro vs w;rw[List.map_nil]at w;cases w;exact .nil
 | cons n ns ih =>
   intro vs w;rw[List.map_cons]at w
   cases w with
   | cons a b =>
     cases a;exact .cons _ _ (ih _ b)
theorem qeu {l:OpenLaw}{n:Nat} (hn:l.most=some n) {P:Params}{h:Heap}{args:List WData}{vals:List Value}
   (hpre:l.row.toRowW.claim.pre args=true) (hwl:WellAll P h vals args) :
   ∃ a vs ns,vals=[Value.ref a]∧args=[WData.list (ns.map WData.int)]∧h.get? a=some { cls:=.type "list",data:=.seq vs.toArray }∧IntsAre vs ns∧ns.length≤n:=by
 have hsh:WShape.hasAll [] args [.list .int]=true:=(pre_splitW hpre).1;have hc:l.pre.holds [] { args:=args }=true:=(pre_splitW hpre).2;obtain⟨d,r,rfl,h1,h2⟩:=hasAllW_cons hsh;obtain rfl:=hasAllW_nil h2;obtain⟨xs,rfl,h3⟩:=hasW_list h1;obtain⟨ns,rfl⟩:=items_int h3
 have hlen:ns.length≤n:=by
   unfold OpenLaw.pre at hc
   have h4:(WTm.not (.lt (.lit (.int (n:Int))) (.len (.arg 0)))).holds [] { args:=[.list (ns.map .int)] }=true:=by
     have h4:=(holds_andW hc).1;rw[hn]at h4;exact h4
   have h5:=condW_of h4 (w_not (w_lt w_lit (w_len_list (w_arg rfl))));rw[List.length_map]at h5;refine Nat.le_of_not_lt fun q=>?_;have q':(n:Int) < ((ns.length:Nat):Int):=by omega
   first
     | (rw[decide_eq_true q']at h5;exact absurd h5 (by decide))
     | (simp at h5;omega)
 cases hwl with
 | cons w1 w2 =>
   cases w2
   cases w1 with
   | list ho hall=>exact⟨_,_,ns,rfl,rfl,ho,JW ns _ hall,hlen⟩
theorem qeP (l:OpenLaw) (args:List WData):l.row.toRowW.claim.post args (.bool true) args=true :=
 postW_of (r:=l.row.toRowW) (X:=(true == true))
   (show WShape.has [] (.bool true) .bool=true by first|rfl|decide|simp[WShape.has,WShape.arms,WShape.armsAll])
   (show (WTm.eq .res (.lit (.bool true))).value [] { args:=args,res:=some (.bool true),after:=args }=some (.bool (true == true)) from w_eq_bool (w_res rfl) w_lit) rfl
theorem attach_call {l:OpenLaw}{n:Nat}{q:Program}{loose:List Str}{XP:(Str->Option Value)->Heap->Prop}{YP:World->Heap->Prop}{d:DefRec}
   (hn:l.most=some n) (hdf:d.params.defaults=[])
   (call:∀ (w:World) (s₀ s₁:Shared) (mg mb:Str->Option Value) (fa:Addr) (o:Obj) (pm cd doc:Value) (a:Addr) (vs:List Value) (ns:List Int),
     Ground q loose [] XP w s₀ mg mb s₁.heap->YP w s₁.heap ->
     s₁.heap.get? fa=some o->o.data=.func (docDef d.name d.params d.body d.scope pm cd doc)->s₁.heap.CodeRec cd d.name->mg d.name=some (.ref fa) ->
     s₁.heap.get? a=some { cls:=.type "list",data:=.seq vs.toArray }->IntsAre vs ns->ns.length≤n->s₁.gens=#[] ->
     codeAny (model l.prog w) callerA (.call (.ref fa) ⟨[.ref a],[]⟩) (fun r s'=>r=.ok (.ret (.bool true))∧OldK s₁.heap s'.heap∧s'.os=s₁.os∧AllBare s'.gens) s₁) :
   WalkO q loose XP YP l.row.toRowW d [] (fun f vs=>PySem.call f vs):=by
 intro w s₀ s₁ mg mb G Y fa o pm cd doc dV kV ho hd hcd hD hmg hg args vals as hpre hlay hrd hwl hlo;obtain rfl:dV=.none:=Dflts.none hD hdf;obtain rfl:kV=.none:=Dflts.noKw hD;obtain⟨a,vs,ns,rfl,rfl,hobj,hints,hlen⟩:=qeu hn hpre hwl;refine enter_call (codeAny_mono (call w s₀ s₁ mg mb fa o pm cd doc a vs ns G Y ho (fd_plain hd) hcd hmg hobj hints hlen hg) fun r s' hq=>?_);obtain⟨rfl,h2,h3,h4⟩:=hq;exact⟨.inl ⟨.bool true,.bool true,[],rfl,fun _=>rfl,.bool true,qeP l _,fun _=>⟨List.Pairwise.nil,fun _ hm=>(nomatch hm)⟩⟩,h2,h3,h4⟩
end Att
namespace L2
open PySem PySem.Spec PyProof.Rows
open PySem.W (Frag keepIn kitOne fnOf codeIn)
theorem qbn:∀ {vs:List Value}{ns:List Int},IntsAre vs ns->Vals (ns.map V.int) vs
 | _,_,.nil=>.nil
 | _,_,.cons n t h=>.cons ⟨t,rfl⟩ (qbn h)
def qF (s:Stmt) (j:Nat):Stmt:=match s with
 | .ClassDef _ _ _ body _ _ _ _ _ _ _=>body.getD j (.Pass ⟨0,0,0,0⟩)
 | _=>.Pass ⟨0,0,0,0⟩
def Qh (s:Stmt):Arguments:=match s with
 | .FunctionDef _ a _ _ _ _ _ _ _ _=>a
 | _=>{ posonlyargs:=[],args:=[],vararg:=none,kwonlyargs:=[],kw_defaults:=[],kwarg:=none,defaults:=[] }
def qM (s:Stmt):List Stmt:=match s with
 | .FunctionDef _ _ b _ _ _ _ _ _ _=>b
 | _=>[]
def qe (s:Stmt):Scope:=match s with
 | .FunctionDef _ _ _ _ _ _ sc _ _ _=>sc
 | _=>{ kind:=.function,names:=[],isGenerator:=false,isCoroutine:=false }
abbrev CX0:CXT:=fun _ _ _ _ _ _=>False
abbrev E0:XK:=fun _ _ _=>False
theorem qr {X:Cx}:jo CX0 X E0:=fun _ _ _ _ _ _ _ h=>h.elim
structure Fun (K:Frag) (x qual:Str) (st:Stmt) (f:Addr) (fd:FuncData):Prop where
 ex:∃ (oc:Value) (od:Option Addr) (kV doc pm:Value) (an:Option Addr) (cdv ct:Value) (osl:Array (Option Value)),
   fd=fnOf x qual (Qh st) (qM st) (qe st) .none kV doc pm an cdv ct∧K.lookup f=some ⟨oc,od,.func fd,osl⟩∧codeIn K cdv qual=true
 kp:keepIn K (.ref f)=true
section
variable {P:Program}{w:World}{K:Frag}{mg:Str->Option Value}{base:Heap}
theorem Fun.ok {x qual:Str}{st:Stmt}{f:Addr}{fd:FuncData}{N ps:List Str}{k:Nat}{sp:Sp} (F:Fun K x qual st f fd) (S:qk N ps (qe st)) (len:∀ vs H Q E,sp vs H Q E->vs.length=ps.length)
   (hbody:∀ (cdv:Value) (A:Around) (outer:List Env) (s:Shared) (H:Hp) (vs:List V) (Q:VK) (E:XK),Room k (A.deeper (envOfC qual (qe st) s.heap.objs.size f cdv))->sp vs H Q E ->
     ∃ t,PSs (qZ CX0 P w K mg base N qual (qe st) f cdv A outer s H E).nox (qM st) t∧t { nx:=fun _ H'=>Q .non H',rt:=Q } (jp N vs) H):qx P w K mg base CX0 (k+1) f fd ps sp:=by
 obtain⟨oc,od,kV,doc,pm,an,cdv,ct,osl,rfl,lk,hcd⟩:=F.ex;refine qj5 lk hcd S len fun A outer s H vs Q E hr hsp=>?_;obtain⟨t,h,q⟩:=hbody cdv A outer s H vs Q E hr hsp;exact⟨t,h.nox,q⟩
theorem Fun.binds {x qual:Str}{st:Stmt}{f:Addr}{fd:FuncData}{ps:List Str} (F:Fun K x qual st f fd)
   (h:∀ (kV doc pm:Value) (an:Option Addr) (cdv ct:Value) (us:List Value),us.length=ps.length->bindArgs (fnOf x qual (Qh st) (qM st) (qe st) .none kV doc pm an cdv ct) ⟨us,[]⟩=pure (ps.zip us)):Binds K fd ps []:=by
 obtain⟨oc,od,kV,doc,pm,an,cdv,ct,osl,rfl,lk,hcd⟩:=F.ex;exact .all (h kV doc pm an cdv ct)
theorem qdy {x qual:Str}{st:Stmt}{f:Addr}{oc:Value}{od an:Option Addr}{osl:Array (Option Value)}{kV doc pm cdv ct:Value} (l:K.lookup f=some ⟨oc,od,.func (fnOf x qual (Qh st) (qM st) (qe st) .none kV doc pm an cdv ct),osl⟩)
   (c:codeIn K cdv qual=true) (k:keepIn K (.ref f)=true):Fun K x qual st f (fnOf x qual (Qh st) (qM st) (qe st) .none kV doc pm an cdv ct):=⟨⟨oc,od,kV,doc,pm,an,cdv,ct,osl,rfl,l,c⟩,k⟩
end
theorem qD {A:Around}{k:Nat} (hr:Room k A):A.units+1 < cLine:=Nat.lt_of_le_of_lt (Nat.add_le_add_left (by decide:1≤64) _) hr.units
theorem qB {n:Nat} (h:n≤1000):n < sizeLine:=Nat.lt_of_le_of_lt h (by decide)
section
variable {X:Cx}
theorem pv (i:Nat) {x:Str}{pos:Pos} (hN:X.N[i]?=some x:=by rfl) (hv:Vis X.env.scope x:=by first|exact Or.inl rfl|exact Or.inr (Or.inl rfl)|exact Or.inr (Or.inr rfl)) (hd:(x == ("__debug__":Str))=false:=by decide)
   (hcd:(x == ("__classdict__":Str))=false:=by decide):PE X (.Name x pos) (qjl i):=qjF hN hv hd hcd
end
theorem qdu {A B:Prop} (h:B):if false=true then A else B:=by
 rw[if_neg Bool.false_ne_true];exact h
theorem qf8 {A B:Prop} (h:A):if true=true then A else B:=by
 rw[if_pos rfl];exact h
def Same (H H':Hp):Prop:=∀ b o,H b=some o->H' b=some o
theorem Same.refl (H:Hp):Same H H:=fun _ _ h=>h
theorem Same.trans {H H1 H2:Hp} (a:Same H H1) (b:Same H1 H2):Same H H2:=fun c o h=>b c o (a c o h)
section
variable {X:Cx}{pins:List (Addr×Obj)}{σ:St}{H:Hp}{s:Shared}{h':Heap}
theorem Inv.turnLaid {ch:List Addr}{a:Addr}{o:HO}{t':Nat} (I:Inv X pins σ H s) (k:∀ b u,b∉ch->s.heap.get? b=some u->h'.get? b=some u) (hf:∀ b∈ch,qd8 X pins H b)
   (hp:s.heap.objs.size≤a) (new:ObjOk X.prog X.w (upd H a o) h' a o):Inv X pins σ (upd H a o) { s with heap:=h',toks:=t' }:=by
 have hn:H a=none:=I.hok.fresh hp;refine I.step (g':=s.gens) (d':=s.drawn) (ch:=ch) (fun b hb=>?_) (fun b u _ _ hc e _=>k b u hc e) (fun b u _ _ hc e _=>⟨u.slots,k b u hc e⟩)
   (fun b u _ e n=>?_) (fun b u hc e=>⟨u,k b u hc e⟩) (fun b xs e=>?_) (fun b u v e=>?_) (fun b ps e=>?_) (fun m hm=>?_) (fun b u e=>?_) I.bare
 · obtain⟨_,f1,_,f3,f4,f5⟩:=hf b hb;exact⟨f3,f1,f4,f5⟩
 · rw[qi (Nat.ne_of_lt (Nat.lt_of_lt_of_le (Heap.lt_size e) hp))];exact n
 · rw[qi (qh e hn)];exact e
 · rw[qi (qh e hn)];exact e
 · exact⟨#[],by rw[qi (qh e hn),e];simp⟩
 · obtain⟨ob,es,ep,ho,r⟩:=hm;exact⟨ob,es,ep,k _ ob (fun z=>(hf _ z).2.1 rfl) ho,r⟩
 · by_cases hb:b=a
   · subst hb;rw[qb]at e;cases e;exact new
   · rw[qi hb]at e;refine(I.hok b u e).stay (fun c v hc q=>k c v ?_ q) (fun c q=>by rw[qi (qh q hn)];exact q) fun c xs q=>by rw[qi (qh q hn)];exact q
     intro z;have zz:=(hf c z).1;rcases hc with rfl|hc
     · rw[e]at zz;cases zz
     · rw[hc]at zz;cases zz
theorem Inv.turnL {ch:List Addr}{t':Nat} (I:Inv X pins σ H s) (k:∀ b u,b∉ch->s.heap.get? b=some u->h'.get? b=some u) (hf:∀ b∈ch,qd8 X pins H b) :
   Inv X pins σ H { s with heap:=h',toks:=t' }:=by
 refine I.step (g':=s.gens) (d':=s.drawn) (ch:=ch) (fun b hb=>?_) (fun b u _ _ hc e _=>k b u hc e) (fun b u _ _ hc e _=>⟨u.slots,k b u hc e⟩)
   (fun b u _ e n=>n) (fun b u hc e=>⟨u,k b u hc e⟩) (fun b xs e=>e) (fun b u v e=>e) (fun b ps e=>⟨#[],by rw[e];simp⟩) (fun m hm=>?_) (fun b u e=>?_) I.bare
 · obtain⟨_,f1,_,f3,f4,f5⟩:=hf b hb;exact⟨f3,f1,f4,f5⟩
 · obtain⟨ob,es,ep,ho,r⟩:=hm;exact⟨ob,es,ep,k _ ob (fun z=>(hf _ z).2.1 rfl) ho,r⟩
 · refine(I.hok b u e).stay (fun c v hc q=>k c v ?_ q) (fun c q=>q) fun c xs q=>q;intro z;have zz:=(hf c z).1;rcases hc with rfl|hc
   · rw[e]at zz;cases zz
   · rw[hc]at zz;cases zz
end
def Ite (K:Frag) (a:Addr):It :=
 ⟨fun i H=>∃ xs x,SqL K H a xs∧xs[i]?=some x,
  fun i H x H'=>∃ p v,H p=none∧x=.ref p∧(∀ xs,SqL K H a xs->xs[i]?=some v)∧H'=upd H p (.tup [.int i,v]),
  fun i H=>∃ xs,SqL K H a xs∧xs.length≤i⟩
theorem qee {P:Program}{w:World}{K:Frag}{elts:List Expr}{k:Nat}{pos:Pos} (a e it:Addr) (hne:e≠it) :
   qiZ P w K (.Tuple elts k pos) (Ite K a) [e,it] e (fun i h=>(∃ old,IsEnum h e it i old)∧h.IsListIter it a i) where
 mem:=by simp
 obj:=fun i h st b hb=>by
   obtain⟨⟨old,he⟩,hit⟩:=st;rcases List.mem_cons.mp hb with rfl|hb
   · exact⟨_,he,fun v z=>by cases z⟩
   · have e1:b=it:=by simpa using hb
     subst e1;obtain⟨o,q,c,d⟩:=hit;exact⟨o,q,fun v z=>by rw[d]at z;cases z⟩
 keep:=fun i h h' st kk=>by
   obtain⟨⟨old,he⟩,hit⟩:=st;exact⟨⟨old,kk e (by simp) _ he⟩,hit.at fun o q=>kk it (by simp) o q⟩
 item:=by
   intro X hP hw hK hc i pins s σ H E I hf st hg;subst hP hw hK;obtain⟨xs,x,hq,hx⟩:=hg;obtain⟨its,rv,p,hz⟩:=I.list hq;obtain⟨u,hu,ru⟩:=rv.get hx;obtain⟨⟨old,he⟩,hit⟩:=st;refine wpAny_pyNext_enum_item he hit p.isList (x:=u) (by simpa using hu) hne fun h1 ho hit1 hT hsz hk=>?_;refine⟨_,rfl,wpAny_letOwnedTupleGo_enum (s:={ s with heap:=h1,toks:=s.toks+1 }) ho fun h2 he2 hs2=>?_⟩;have hel:e < s.heap.objs.size:=Heap.lt_size he;have hil:it < s.heap.objs.size:=by obtain⟨_,q,_⟩:=hit;exact Heap.lt_size q
   have hT2:h2.get? s.heap.objs.size=some { cls:=.type "tuple",data:=.seq #[.int i s.toks,u] }:=(hs2.2 _ (Nat.ne_of_gt hel)).trans hT
   have I1:Inv X pins σ (upd H s.heap.objs.size (.tup [.int i,x])) { s with heap:=h2,toks:=s.toks+1 }:=by
     refine I.turnLaid (ch:=[e,it]) (fun b o hb q=>?_) hf (Nat.le_refl _) ⟨by show 2≤sizeLine;decide,[.int i s.toks,u],.cons ⟨_,rfl⟩ (.cons ru .nil),⟨_,hT2,rfl,_,rfl⟩⟩;have b1:b≠e:=fun z=>hb (by simp[z]);have b2:b≠it:=fun z=>hb (by simp[z]);exact(hs2.2 b b1).trans (hk b o b1 b2 q)
   refine⟨.ref s.heap.objs.size,_,I1,rfl,⟨_,x,I.hok.fresh (Nat.le_refl _),rfl,fun ys hy=>by rw[I.list_inj hy hq];exact hx,rfl⟩,⟨⟨_,by simpa using he2⟩,hit1.at fun o q=>(hs2.2 it hne.symm).trans q⟩,fun b hb=>?_⟩
   have hbl:b < s.heap.objs.size:=by
     rcases List.mem_cons.mp hb with rfl|hb
     · exact hel
     · have e1:b=it:=by simpa using hb
       rw[e1];exact hil
   rw[qi (Nat.ne_of_lt hbl)];exact(hf b hb).1
 done:=by
   intro X hP hw hK hc i pins s σ H E I hf st hg;subst hP hw hK;obtain⟨xs,hq,hx⟩:=hg;obtain⟨its,rv,p,hz⟩:=I.list hq;obtain⟨⟨old,he⟩,hit⟩:=st;have hl:=rv.length;refine wpAny_pyNext_enum_end (I.ok.hd hc) he hit p.isList (by simp;omega) fun h' eb=>⟨rfl,I.turnL (t':=s.toks) (ch:=[e,it]) (fun b o hb q=>eb b o (fun z=>hb (by simp[z])) q) hf⟩
 self:=fun _ _ _ _ _ st h=>by
   obtain⟨⟨old,he⟩,_⟩:=st;exact wpAny_pyIter_enum he h
theorem qfX:bootBuiltins "enumerate"=some (.type "enumerate"):=by decide +kernel
inductive qfB (K:Frag) (R:(It->Hp->Prop)) (vs:List V) (H1:Hp):Prop
 | mk (a:_) (h1:vs=[.ref a]) (h2:(∃ xs,SqL K H1 a xs)) (h3:R (Ite K a) H1):qfB K R vs H1
def qk2 (K:Frag) (ta:TA):TI:=fun σ H R=>ta σ H fun vs H1=>qfB K R vs H1
section
variable {X:Cx}
theorem qeS {a:Expr}{ta:TA}{p pos tp:Pos}{elts:List Expr}{kk:Nat} (hg:Gl X "enumerate") (hm:X.mg "enumerate"=none) (ha:PA X [a] ta) (hs:starEach [a] X.env=[(false,eval a X.env)]:=by rfl) :
   PI X (.Tuple elts kk tp) (.Call (.Name "enumerate" p) [a] [] pos) (qk2 X.K ta):=by
 intro pins s σ H R I h;refine Call_ (Q0 I hg hm qfX (PyProof.Rows.callWith_type1 (thn (ha pos pins s σ H _ I h) fun us s1 zz_=>?_) hs rfl));obtain⟨vs,H1,I1,r1,q1⟩:=zz_;obtain⟨l,e,⟨xs,hq⟩,q⟩:=q1;subst e;obtain⟨u,rfl,ru⟩:=Ji r1;cases ru;obtain⟨its,rv,pl,hz⟩:=I1.list hq;refine call_enumerate_list pl.isList fun h' he hit hsz hk=>?_;have I2:Inv X pins σ H1 { s1 with heap:=h' }:=I1.kept (t':=s1.toks) hk;refine wpAny_pyIter_enum he ⟨s1.heap.objs.size+1,[s1.heap.objs.size+1,s1.heap.objs.size],_,Ite X.K l,H1,rfl,I2,qee l _ _ (Nat.succ_ne_self _),⟨⟨_,he⟩,hit⟩,fun b hb=>?_,q⟩
 have hb1:s1.heap.objs.size≤b:=by
   rcases List.mem_cons.mp hb with e1|hb
   · rw[e1];exact Nat.le_succ _
   · have e1:b=s1.heap.objs.size:=by simpa using hb
     rw[e1];exact Nat.le_refl _
 exact I1.fpOk hb1 (I1.hok.fresh hb1)
end
theorem qdA {K:Frag}{a:Addr}{xs:List V}{g:TG}{tb:TS}{D:qd9}{σ:St}{H:Hp} (Pv:Nat->St->Hp->Prop) (h0:Pv 0 σ H) (hl:∀ i σ H,i≤xs.length->Pv i σ H->SqL K H a xs)
   (hs:∀ i x σ H p,xs[i]?=some x->Pv i σ H->H p=none->g (.ref p) σ (upd H p (.tup [.int i,x])) fun σ2 H2=>tb { D with nx:=Pv (i+1),ct:=Pv (i+1),bk:=D.nx } σ2 H2) (hd:∀ σ H,Pv xs.length σ H->D.nx σ H) :
   ∃ W:Nat->Nat->St->Hp->Prop,(∃ m,W 0 m σ H)∧∀ i m σ H,W i m σ H ->
     ((Ite K a).stop i H∧D.nx σ H)∨((Ite K a).go i H∧∃ N:St->Hp->Prop,(∀ σ' H',N σ' H'->∃ m',m' < m∧W (i+1) m' σ' H')∧∀ x H',(Ite K a).yld i H x H'->g x σ H' fun σ2 H2=>tb { D with nx:=N,ct:=N,bk:=D.nx } σ2 H2):=by
 refine⟨fun i m σ H=>m=xs.length - i∧i≤xs.length∧Pv i σ H,⟨xs.length,by simp,Nat.zero_le _,h0⟩,?_⟩;rintro i m σ H ⟨rfl,hi,p⟩;have q:=hl i σ H hi p;by_cases hlt:i < xs.length
 · refine .inr ⟨⟨xs,xs[i],q,by simp[hlt]⟩,Pv (i+1),fun σ' H' p'=>⟨xs.length - (i+1),by omega,rfl,hlt,p'⟩,fun x H' y=>?_⟩;obtain⟨t,v,hn,rfl,y,rfl⟩:=y;exact hs i v σ _ t (y xs q) p hn
 · have e:i=xs.length:=by omega
   subst e;exact .inl ⟨⟨xs,q,Nat.le_refl _⟩,hd σ H p⟩
def tyN (H:Hp):V->Option String
 | .non=>some "NoneType"
 | .bl _=>some "bool"
 | .int _=>some "int"
 | .str _=>some "str"
 | .ref a=>match H a with
   | some (.lst _)=>some "list"
   | some (.tup _)=>some "tuple"
   | some (.dK _)=>some "dict"
   | _=>none
 | _=>none
def qlt (c t:String):Bool:=t == c || (t == "bool" && c == "int")
theorem qgf {K:Frag}{H:Hp}{v:V}{t:String} (h:tyN H v=some t):qcN K H v (.type t):=by
 cases v with
 | non=>cases h;exact .non
 | bl b=>cases h;exact .bl b
 | int b=>cases h;exact .int b
 | str b=>cases h;exact .str b
 | byt b=>cases h
 | flt b=>cases h
 | ty b=>cases h
 | ref a =>
   simp only[tyN]at h;split at h
   · rename_i e;cases h;exact .lst e
   · rename_i e;cases h;exact .tup e
   · rename_i e;cases h;exact .dK e
   · cases h
def qck:List String:=["NoneType","bool","int","str","list","tuple","dict"]
theorem qh5 {H:Hp}{v:V}{t:String} (h:tyN H v=some t):t∈qck:=by
 cases v with
 | non=>cases h;decide
 | bl b=>cases h;decide
 | int b=>cases h;decide
 | str b=>cases h;decide
 | byt b=>cases h
 | flt b=>cases h
 | ty b=>cases h
 | ref a =>
   simp only[tyN]at h;split at h<;>first|(cases h;decide)|cases h
def qbj:List String:=["bool","int","str","list","tuple","dict"]
theorem qj3 (K:Frag) {t c:String} (ht:t∈qck) (hc:c∈qbj):kitOne K (.type t) (.type c)=some (qlt c t):=by
 simp only[qck,qbj,List.mem_cons,List.not_mem_nil,or_false]at ht hc;rcases ht with rfl|rfl|rfl|rfl|rfl|rfl|rfl<;>rcases hc with rfl|rfl|rfl|rfl|rfl|rfl<;>(unfold kitOne PySem.W.kitCls;rfl)
inductive qhF (xs:List V) (H:Hp) (Q:VK):Prop
 | mk (x c t:_) (h1:xs=[x,.ty c]) (h2:c∈qbj) (h3:tyN H x=some t) (h4:Q (.bl (qlt c t)) H):qhF xs H Q
def qlM:List V->Hp->VK->Prop:=fun xs H Q=>qhF xs H Q
section
variable {X:Cx}
theorem zy:CallR X (.builtin "isinstance") qlM:=by
 intro pins s σ H xs us Q I r h;obtain⟨x,c,t,rfl,hc,ht,q⟩:=h;obtain⟨u,w',rfl,ru,rw'⟩:=qcj r;cases (show w'=Value.type c from rw');exact qb2 I ru (qgf ht) (qj3 X.K (qh5 ht) hc) fun tk=>⟨.bl _,H,I.tok tk,rfl,q⟩
end
mutual
inductive DV (H:Hp):V->PyData->Prop
 | non:DV H .non .none
 | bl (b):DV H (.bl b) (.bool b)
 | int (i):DV H (.int i) (.int i)
 | str (x):DV H (.str x) (.str x)
 | lst {a xs ds}:Rd H a (.lst xs)->DVs H xs ds->DV H (.ref a) (.list ds)
 | tup {a xs ds}:Rd H a (.tup xs)->DVs H xs ds->DV H (.ref a) (.tuple ds)
inductive DVs (H:Hp):List V->List PyData->Prop
 | nil:DVs H [] []
 | cons {x xs d ds}:DV H x d->DVs H xs ds->DVs H (x::xs) (d::ds)
end
section
variable {P:Program}{w:World}{H:Hp}{h:Heap}
mutual
theorem DV.reads (ok:HOk P w H h):∀ {v:V}{d:PyData}{u:Value},DV H v d->RelV v u->∃ as,Reads h u d as
 | _,_,u,.non,r=>by cases (show u=Value.none from r);exact⟨_,.none⟩
 | _,_,u,.bl b,r=>by cases (show u=Value.bool b from r);exact⟨_,.bool b⟩
 | _,_,u,.int i,r=>by obtain⟨t,q⟩:=(show ∃ t,u=Value.int i t from r);cases q;exact⟨_,.int i t⟩
 | _,_,u,.str x,r=>by obtain⟨t,q⟩:=(show ∃ t,u=Value.str x t from r);cases q;exact⟨_,.str x t⟩
 | _,_,u,.lst (a:=a) rd q,r=>by
   cases (show u=Value.ref a from r);obtain⟨_,its,n,rv,e⟩:=rd.ok ok;obtain⟨as,z⟩:=DVs.reads ok q rv;exact⟨_,.list e rfl rfl z⟩
 | _,_,u,.tup (a:=a) rd q,r=>by
   cases (show u=Value.ref a from r);obtain⟨_,its,rv,ob,e,c,n,d⟩:=rd.ok ok;obtain⟨as,z⟩:=DVs.reads ok q rv;exact⟨_,.tuple e c d z⟩
theorem DVs.reads (ok:HOk P w H h):∀ {vs:List V}{ds:List PyData}{us:List Value},DVs H vs ds->Vals vs us->∃ as,ReadsAll h us ds as
 | _,_,_,.nil,.nil=>⟨_,.nil⟩
 | _,_,_,.cons a b,.cons r t=>by
   obtain⟨as,z⟩:=DV.reads ok a r;obtain⟨bs,y⟩:=DVs.reads ok b t;exact⟨_,.cons z y⟩
end
end
section
variable {X:Cx}
inductive qhG (x:V) (y:V) (H:Hp) (Q:VK):Prop
 | mk (d e:_) (h1:DV H x d) (h2:DV H y e) (h3:SeqAt.shaped d=true) (h4:SeqAt.shaped e=true) (h5:Q (.bl (PyData.eqv d e)) H):qhG x y H Q
def qlq:R2:=fun x y H Q=>qhG x y H Q
inductive qhC (x:V) (y:V) (H:Hp) (Q:VK):Prop
 | mk (d e:_) (h1:DV H x d) (h2:DV H y e) (h3:SeqAt.shaped d=true) (h4:SeqAt.shaped e=true) (h5:Q (.bl (!PyData.eqv d e)) H):qhC x y H Q
def qlk:R2:=fun x y H Q=>qhC x y H Q
theorem qjK (hu:X.A.units+64 < cLine):OpR X (compareOp .Eq) qlq:=by
 intro pins s σ H x y v u Q I rx ry h;obtain⟨d,e,hd,he,sd,se,q⟩:=h;obtain⟨as,ra⟩:=hd.reads I.hok rx;obtain⟨bs,rb⟩:=he.reads I.hok ry;exact eq_dataH ra rb sd se hu ⟨.bl _,H,I,rfl,q⟩
theorem qjH (hu:X.A.units+64 < cLine):OpR X (compareOp .NotEq) qlk:=by
 intro pins s σ H x y v u Q I rx ry h;obtain⟨d,e,hd,he,sd,se,q⟩:=h;obtain⟨as,ra⟩:=hd.reads I.hok rx;obtain⟨bs,rb⟩:=he.reads I.hok ry;exact ne_dataH ra rb sd se hu ⟨.bl _,H,I,rfl,q⟩
def qkJ:R2:=fun x y H Q=>rI0 (fun i j=>.int (i+j)) x y H Q∨qlr x y H Q∨∃ i j,x=.str i∧y=.str j∧i.length+j.length≤sizeLine∧Q (.str (i++j)) H
theorem zV:OpR X (binaryOp .Add) qkJ:=op_add.or (op_cat.or qdR)
def qlN:R2:=fun x y H Q=>rEq x y H Q∨qlq x y H Q
def qik:R2:=fun x y H Q=>rNe x y H Q∨qlk x y H Q
theorem uEq (hU:X.A.units+64 < cLine):OpR X (compareOp .Eq) qlN:=op_eq.or (qjK hU)
theorem uNe (hU:X.A.units+64 < cLine):OpR X (compareOp .NotEq) qik:=op_ne.or (qjH hU)
end
theorem ZX:bootBuiltins "tuple"=some (.type "tuple"):=by decide +kernel
theorem zZ:bootBuiltins "list"=some (.type "list"):=by decide +kernel
theorem qaa:bootBuiltins "int"=some (.type "int"):=by decide +kernel
theorem jB:bootBuiltins "bool"=some (.type "bool"):=by decide +kernel
theorem qfV:bootBuiltins "str"=some (.type "str"):=by decide +kernel
theorem qT:bootBuiltins "len"=some (.builtin "len"):=by decide +kernel
theorem zh:bootBuiltins "max"=some (.builtin "max"):=by decide +kernel
theorem zM:bootBuiltins "min"=some (.builtin "min"):=by decide +kernel
theorem qu:bootBuiltins "isinstance"=some (.builtin "isinstance"):=by decide +kernel
structure Df (K:Frag) (mg:Str->Option Value) (x:Str) (st:Stmt) (ps:List Str) (f:Addr) (fd:FuncData):Prop where
 F:Fun K x x st f fd
 b:Binds K fd ps []
 m:mg x=some (.ref f)
 k:keepIn K (.ref f)=true
theorem Same.new {H:Hp}{p:Addr} (o:HO) (h:H p=none):Same H (upd H p o):=fun b u e=>by rw[qi (qh e h)];exact e
theorem Same.then {H H1:Hp} (s:Same H H1) {p:Addr} (o:HO) (h:H1 p=none):Same H (upd H1 p o):=s.trans (Same.new o h)
def But (p:Addr) (H H':Hp):Prop:=∀ b o,H b=some o->b≠p->H' b=some o
theorem But.refl (p:Addr) (H:Hp):But p H H:=fun _ _ h _=>h
theorem But.trans {p:Addr}{H H1 H2:Hp} (a:But p H H1) (b:But p H1 H2):But p H H2:=fun c o h n=>b c o (a c o h n) n
theorem But.put {p:Addr}{H H1:Hp} (s:But p H H1) (o:HO):But p H (upd H1 p o):=fun b u e n=>by rw[qi n];exact s b u e n
theorem But.same {p:Addr}{H H1 H2:Hp} (a:But p H H1) (b:Same H1 H2):But p H H2:=fun c o h n=>b c o (a c o h n)
theorem qp {n:Nat} (h:n≤1000):n≤sizeLine:=Nat.le_of_lt (qB h)
theorem zf {b:Bool}{A B:Prop} (e:b=false) (h:B):if b=true then A else B:=by rw[e];exact qdu h
theorem qg6 {b:Bool}{A B:Prop} (e:b=true) (h:A):if b=true then A else B:=by rw[e];exact qf8 h
theorem qcE {b:Bool}{A B:Prop} (h1:b=true->A) (h2:b=false->B):if b=true then A else B:=by
 cases b
 · exact qdu (h2 rfl)
 · exact qf8 (h1 rfl)
theorem ZW {c A B:Prop} [Decidable c] (h1:c->A) (h2:¬ c->B):if (decide c)=true then A else B:=by
 by_cases h:c
 · rw[decide_eq_true h];exact qf8 (h1 h)
 · rw[decide_eq_false h];exact qdu (h2 h)
theorem qj2 {c A B:Prop} [Decidable c] (h1:¬ c->A) (h2:c->B):if (!decide c)=true then A else B:=by
 by_cases h:c
 · rw[decide_eq_true h];exact qdu (h2 h)
 · rw[decide_eq_false h];exact qf8 (h1 h)
section
variable {prog:Program}{w:World}{A:Around}{R:Result->Shared->Prop}{s:Shared}
abbrev noE:Value->Shared->Prop:=fun _ _=>False
theorem J6 {elt target iter:Expr}{ifs:List Expr}{scope:Scope}{pos:Pos}{it acc:Value}{env:Env} (I:Nat->Shared->Prop)
   (turn:∀ n s,I n s->wpAny (model prog w) A (pyNext it) (fun r s₁=>match r with
     | none=>R (.ok .next) s₁
     | some v=>wpAny (model prog w) A (letOwnedTupleGo target it v) (fun _ s₀=>wpAny (model prog w) A (assign target env v) (fun _ s₂ =>
         wpAny (model prog w) A (forIn ifs true fun c r=>if r=true then do let ok ← isTrue c env (eval c env);pure (ForInStep.yield ok) else pure (ForInStep.yield r)) (fun ok s₃ =>
           if ok=true then wpAny (model prog w) A (eval elt env) (fun x s₄ =>
             wpAny (model prog w) A (call (.builtin "list.append") [acc,x]) (fun _ s₅=>∃ m,m < n∧I m s₅) noE s₄) noE s₃
           else ∃ m,m < n∧I m s₃) noE s₂) noE s₀) noE s₁) noE s)
   (n:Nat) (h:I n s) :
   codeAny (model prog w) A (.compLoop (.ListComp elt [⟨target,iter,ifs,0⟩] scope pos) 0 it acc env) R s:=by
 refine codeAny_loop rfl I (fun n s hI=>?_) n h;show wpAny _ A ((compTurn (.ListComp elt [⟨target,iter,ifs,0⟩] scope pos) 0 it acc env).onRaise (fun x=>do noteFrame x env;theTreesLotGoes x)) _ _ s;refine wpAny_noted ?_;rw[compTurn_list];refine wpAny_bind (wpAny_standAt (wpAny_bind (wpAny_mono (turn n s hI) (fun r s₁ h₁=>?_) fun _ _ h'=>h'.elim)))
 cases r with
 | none=>exact wpAny_pure h₁
 | some v =>
   refine wpAny_bind (wpAny_mono h₁ (fun _ s₀ h₀=>?_) fun _ _ h'=>h'.elim);refine wpAny_bind (wpAny_mono h₀ (fun _ s₂ h₂=>wpAny_bind (wpAny_mono h₂ (fun ok s₃ h₃=>?_) fun _ _ h'=>h'.elim)) fun _ _ h'=>h'.elim)
   cases ok with
   | false=>exact wpAny_pure ⟨rfl,h₃⟩
   | true =>
     exact wpAny_bind (wpAny_bind (wpAny_mono h₃ (fun x s₄ h₄=>wpAny_bind (wpAny_mono h₄ (fun _ s₅ h₅=>wpAny_pure (wpAny_pure ⟨rfl,h₅⟩)) fun _ _ h'=>h'.elim)) fun _ _ h'=>h'.elim))
end
def qN (X:Cx) (scope:Scope) (N:List Str) (cl:List (Str×Addr)) (C:Addr) (s₀:Shared) (H₀:Hp) (ex:List Addr) (pn:List (Addr×Obj)):Cx where
 prog:=X.prog
 w:=X.w
 K:=X.K
 mg:=X.mg
 base:=X.base
 A:=X.A
 N:=N
 s₀:=s₀
 H₀:=H₀
 env:=compEnvC scope cl C X.env
 outer:=X.stack
 stack:=X.stack
 ex:=ex
 fn:=fun x=>!(cl.lookup x).isSome
 calm:=X.calm
 pn:=pn
 xe:=noE
def st0 (js:List (Option Nat)) (σ:St):St:=js.map fun o=>o.bind fun j=>(σ[j]?).join
def PTs (X:Cx) (ifs:List Expr) (t:TT):Prop :=
 ∀ (pins:List (Addr×Obj)) (s:Shared) (σ:St) (H:Hp) (Q:Bool->Hp->Prop),Inv X pins σ H s->t σ H Q ->
   wpAny (model X.prog X.w) X.A (forIn ifs true fun c r=>if r=true then do let ok ← isTrue c X.env (eval c X.env);pure (ForInStep.yield ok) else pure (ForInStep.yield r)) (TP X pins σ Q) X.xe s
def qlD:TT:=fun _ H Q=>Q true H
theorem Qd {X:Cx}:PTs X [] qlD:=fun _ _ _ H _ I h=>wpAny_tests_nil ⟨H,I,h⟩
theorem qa6 {X:Cx}{c:Expr}{t:TT} (h:PT X c t):PTs X [c] t:=fun pins s σ H Q I q=>wpAny_tests_one (h pins s σ H Q I q)
def ZC (J:It) (g:TG) (tt:TT) (te:TE) (D:Addr) (Q:VK) (σ0:St) (H0:Hp):Prop :=
 ∃ W:Nat->Nat->St->Hp->Prop,(∃ m,W 0 m σ0 H0)∧∀ i m σ' H',W i m σ' H' ->
   (J.stop i H'∧Q (.ref D) H')∨(J.go i H'∧∃ N:St->Hp->Prop,(∀ σ2 H2,N σ2 H2->∃ m',m' < m∧W (i+1) m' σ2 H2) ∧
     ∀ x H2,J.yld i H' x H2->g x σ' H2 fun σ3 H3=>tt σ3 H3 fun ok H4=>if ok=true then te σ3 H4 fun y H5=>∃ ys,H5 D=some (.lst ys)∧ys.length < sizeLine∧N σ3 (upd H5 D (.lst (ys++[y]))) else N σ3 H4)
def qjr (wi:TI) (g:TG) (tt:TT) (te:TE) (js:List (Option Nat)):TE:=fun σ H Q=>wi σ H fun J H1=>∀ D,H1 D=none->ZC J g tt te D Q (st0 js σ) (upd H1 D (.lst []))
structure CompOk (X:Cx) (scope:Scope) (N:List Str) (cl:List (Str×Addr)) (js:List (Option Nat)):Prop where
 clos:closureFor scope X.env=pure cl
 sub:∀ x c,cl.lookup x=some c->X.env.cells.lookup x=some c
 all:∀ x,((relabel scope X.env).names.lookup x=some .cell∨(relabel scope X.env).names.lookup x=some .free)->∃ c,cl.lookup x=some c
 cell:∀ y∈scope.names,y.2≠.cell
 kind:scope.kind=.function
 names:∀ y∈scope.names,y.2=.local->scope.names.lookup y.1=some .local
 len:js.length=N.length
 fr:∀ (i j:Nat) (x:Str),js[i]?=some (some j)->N[i]?=some x->X.N[j]?=some x∧X.env.kindOf x=some .cell∧((relabel scope X.env).names.lookup x=some .cell∨(relabel scope X.env).names.lookup x=some .free)
section
variable {X:Cx}
theorem qia {js:List (Option Nat)}{σ:St}{i:Nat}{v:V} (h:(st0 js σ)[i]?=some (some v)):∃ j,js[i]?=some (some j)∧σ[j]?=some (some v):=by
 unfold st0 at h;rw[List.getElem?_map]at h
 cases e:js[i]? with
 | none=>rw[e]at h;cases h
 | some o =>
   rw[e]at h
   cases o with
   | none=>cases h
   | some j =>
     refine⟨j,rfl,?_⟩;have h':(σ[j]?).join=some v:=by simpa using h
     cases e2:σ[j]? with
     | none=>rw[e2]at h';cases h'
     | some o2=>rw[e2]at h';cases o2 with
       | none=>cases h'
       | some u=>rw[show u=v by simpa using h']
theorem qiV {pins:List (Addr×Obj)}{σ:St}{H:Hp}{s:Shared}{scope:Scope}{N:List Str}{cl:List (Str×Addr)}{js:List (Option Nat)}{C:Addr}{fp:List Addr} (k:CompOk X scope N cl js) (I:Inv X pins σ H s)
   (hf:∀ b∈fp,qd8 X pins H b) (hfl:∀ b∈fp,b < s.heap.objs.size) (hC:s.heap.objs.size≤C):(qN X scope N cl C s H fp (X.pn++pins)).Ok where
 mod:=I.ok.mod
 kind:=k.kind
 glob:=I.ok.glob
 blt:=I.ok.blt
 above:=hC
 inj:=fun x y c h1 h2=>I.ok.inj x y c (k.sub _ _ h1) (k.sub _ _ h2)
 has:=fun x h=>k.all x h
 cab:=fun x c h1 h2=>by
   have h1':(!(cl.lookup x).isSome)=true:=h1;have h2':cl.lookup x=some c:=h2;rw[h2']at h1';cases h1'
 hd:=I.ok.hd
 frames:=I.ok.frames
 stk:=.inl rfl
 exf:=fun b hb=>⟨Nat.ne_of_lt (Nat.lt_of_lt_of_le (hfl b hb) hC),fun x c h=>(hf b hb).2.2.2.2.1 x c (k.sub _ _ h)⟩
 bs:=I.bs
 bsz:=Nat.le_trans I.ok.bsz I.sz
 noex:=fun b o e hb=>by
   rcases (hf b hb).2.2.2.1 with z|z
   · exact I.ok.noex b o e z
   · exact absurd (Nat.lt_of_lt_of_le (Heap.lt_size e) (Nat.le_trans I.ok.bsz z)) (Nat.lt_irrefl _)
 exfs:=fun b hb z=>by
   rcases List.mem_cons.mp (I.stkSub b z) with e|e
   · exact(hf b hb).2.1 e
   · exact(hf b hb).2.2.1 e
 funs:=I.stack
 frf:=I.stkFree
theorem qdG {pins:List (Addr×Obj)}{σ:St}{H:Hp}{s:Shared}{h1:Heap}{t':Nat}{scope:Scope}{N:List Str}{cl:List (Str×Addr)}{js:List (Option Nat)}{C D:Addr}{fp:List Addr}{m:Str->Option Value} (k:CompOk X scope N cl js) (I:Inv X pins σ H s)
   (hf:∀ b∈fp,qd8 X pins H b) (hfl:∀ b∈fp,b < s.heap.objs.size) (hD:s.heap.objs.size≤D) (hC:s.heap.objs.size≤C) (hDC:D≠C)
   (hn:h1.Ns C m) (hl:h1.get? D=some { cls:=.type "list",data:=.seq ([]:List Value).toArray }) (hk:∀ b o,s.heap.get? b=some o->h1.get? b=some o) :
   Inv (qN X scope N cl C s H fp (X.pn++pins)) [] (st0 js σ) (upd H D (.lst [])) { s with heap:=h1,toks:=t' }:=by
 have fD:H D=none:=I.hok.fresh hD;have fC:H C=none:=I.hok.fresh hC;have nC:∀ b,b < s.heap.objs.size->b≠C:=fun b hb=>Nat.ne_of_lt (Nat.lt_of_lt_of_le hb hC);refine⟨qiV k I hf hfl hC,rfl,I.bare,?_,?_,?_,?_,?_,?_,?_,?_⟩
 · exact(Un.laid (fs:=frs X.stack) (ex:=fp) (o:=.lst []) hk hD fD)
 · refine⟨m,hn,fun i x v e1 e2 e3=>?_⟩;obtain⟨j,f1,f2⟩:=qia e2;obtain⟨g1,g2,g3⟩:=k.fr i j x f1 e1;obtain⟨m',hn',hl'⟩:=I.loc;obtain⟨u,ru,lk⟩:=hl' j x v g1 f2 (.inr (.inl g2));refine⟨u,ru,.inr ⟨g3,?_⟩⟩;obtain⟨c,hc⟩:=k.all x g3;rcases lk with ⟨z,_⟩|⟨_,c',hc',ic⟩
   · rw[g2]at z;cases z
   · have e:=k.sub _ _ hc;rw[hc']at e;cases e;obtain⟨o,ho,hd⟩:=ic;exact⟨c,hc,o,hk _ _ ho,hd⟩
 · intro x c h;obtain⟨v,o,ho,hd⟩:=I.cell x c (k.sub _ _ h);exact⟨v,o,hk _ _ ho,hd⟩
 · show (upd H D (.lst [])) C=none;rw[qi hDC.symm];exact fC
 · intro x c h;obtain⟨v,o,ho,hd⟩:=I.cell x c (k.sub _ _ h);rw[qi (Nat.ne_of_lt (Nat.lt_of_lt_of_le (Heap.lt_size ho) hD))];exact I.freeC x c (k.sub _ _ h)
 · intro p hp;have hp':p∈X.pn++pins:=by simpa[qN] using hp
   obtain⟨e,n,ne,nf,d⟩:=I.pin p hp';have lt:=Heap.lt_size e;refine⟨hk _ _ e,by rw[qi (Nat.ne_of_lt (Nat.lt_of_lt_of_le lt hD))];exact n,nC _ lt,fun z=>?_,d⟩;rcases List.mem_cons.mp (I.stkSub _ z) with e|e
   · exact ne e
   · exact nf e
 · exact I.hok.laid hk hD ⟨Nat.zero_le _,[],0,.nil,hl⟩
 · show (st0 js σ).length=N.length;unfold st0;rw[List.length_map];exact k.len
theorem zP {elt iter tg:Expr}{ifs:List Expr}{scope:Scope}{pos:Pos}{wi:TI}{g:TG}{tt:TT}{te:TE}{N:List Str}{cl:List (Str×Addr)}{js:List (Option Nat)} (hc:X.calm=true) (k:CompOk X scope N cl js) (hi:PI X tg iter wi)
   (hg:∀ C s₀ H₀ ex pn,PG (qN X scope N cl C s₀ H₀ ex pn) tg g) (ht:∀ C s₀ H₀ ex pn,PTs (qN X scope N cl C s₀ H₀ ex pn) ifs tt) (he:∀ C s₀ H₀ ex pn,PE (qN X scope N cl C s₀ H₀ ex pn) elt te)
   (hs:∀ x,foldedSetIterable iter X.env x=pure x:=by intro _;rfl) :
   PE X (.ListComp elt [⟨tg,iter,ifs,0⟩] scope pos) (qjr wi g tt te js):=by
 intro pins s σ H Q I h;rw[eval_ListComp];refine wpAny_comprehension_free (use:=none) rfl hs k.clos k.kind k.names ?_;refine thn (hi pins s σ H _ I h) fun v s1 h1=>thn h1 fun itv s2 h2=>?_;obtain⟨it,fp,tn,J,H2,e,I2,T,st2,f2,hD⟩:=h2;subst e;refine wpAny_newObj_type (wpAny_newFunctionEnv k.cell (by intro y hy;simp at hy) (fun h₁ hns₁ hsb₁=>?_) k.kind);dsimp only at hns₁ hsb₁ ⊢;generalize hH2:s2.heap.push { cls:=.type "list",dict:=none,data:=.seq ([]:List Value).toArray }=P2 at hns₁ hsb₁ ⊢;have hC:P2.objs.size=s2.heap.objs.size+1:=by rw[← hH2,Heap.size_push]
 have hDC:s2.heap.objs.size≠P2.objs.size:=by rw[hC];exact Nat.ne_of_lt (Nat.lt_succ_self _)
 have hCle:s2.heap.objs.size≤P2.objs.size:=by rw[hC];exact Nat.le_succ _
 have old:∀ b o,s2.heap.get? b=some o->h₁.get? b=some o:=fun b o e=>hsb₁.extBut b o (Nat.ne_of_lt (Nat.lt_of_lt_of_le (Heap.lt_size e) hCle)) (Heap.get?_push_of_some _ (hH2▸Heap.get?_push_of_some _ e));have hacc:h₁.get? s2.heap.objs.size=some { cls:=.type "list",data:=.seq ([]:List Value).toArray }:=hsb₁.extBut _ _ hDC (Heap.get?_push_of_some _ (hH2▸Heap.get?_push_size _ rfl))
 have hfl:∀ b∈fp,b < s2.heap.objs.size:=fun b hb=>by
   obtain⟨o,e,_⟩:=T.obj _ _ st2 b hb;exact Heap.lt_size e
 have fD:H2 s2.heap.objs.size=none:=I2.hok.fresh (Nat.le_refl _);obtain⟨W,⟨m0,w0⟩,turn⟩:=hD _ fD
 have IX:Inv (qN X scope N cl P2.objs.size s2 H2 fp (X.pn++pins)) [] (st0 js σ) (upd H2 s2.heap.objs.size (.lst [])) { s2 with heap:=h₁,toks:=s2.toks+([]:List (Str×Value)).length } :=
   qdG k I2 f2 hfl (Nat.le_refl _) hCle hDC hns₁ hacc old
 have hg':=hg P2.objs.size s2 H2 fp (X.pn++pins);have ht':=ht P2.objs.size s2 H2 fp (X.pn++pins);have he':=he P2.objs.size s2 H2 fp (X.pn++pins)
 have stat:∀ {H':Hp},(∀ b∈fp,H' b=none)->∀ b∈fp,qd8 (qN X scope N cl P2.objs.size s2 H2 fp (X.pn++pins)) [] H' b:=fun hn b hb=>by
   obtain⟨g0,g1,g2,g3,g4,g5⟩:=f2 b hb;refine⟨hn b hb,Nat.ne_of_lt (Nat.lt_of_lt_of_le (hfl b hb) hCle),fun z=>?_,.inl hb,fun x c h=>g4 x c (k.sub _ _ h),fun p hp=>g5 p (by simpa[qN] using hp)⟩;rcases List.mem_cons.mp (I2.stkSub b z) with e|e
   · exact g1 e
   · exact g2 e
 have loop:∀ s₃:Shared,s₃={ s2 with heap:=h₁,toks:=s2.toks+([]:List (Str×Value)).length } ->
     codeAny (model X.prog X.w) X.A (.compLoop (.ListComp elt [⟨tg,iter,ifs,0⟩] scope pos) 0 (.ref it) (.ref s2.heap.objs.size) (compEnvC scope cl P2.objs.size X.env))
       (compPost (model X.prog X.w) X.A X.xe none (EP X pins σ Q) (.ref s2.heap.objs.size) P2.objs.size) s₃:=by
   rintro s₃ rfl;refine J6 (fun n s'=>∃ i σ' H',Inv (qN X scope N cl P2.objs.size s2 H2 fp (X.pn++pins)) [] σ' H' s'∧tn i s'.heap∧(∀ b∈fp,H' b=none)∧W i n σ' H') ?_ m0
     ⟨0,st0 js σ,_,IX,T.keep _ _ _ st2 (fun b hb o e=>old b o e),fun b hb=>by rw[qi (Nat.ne_of_lt (hfl b hb))];exact(f2 b hb).1,w0⟩
   rintro n s3 ⟨i,σ3,H3,I3,st3,fr3,w3⟩;rcases turn i n σ3 H3 w3 with ⟨stop,qn⟩|⟨go,N2,hN,step⟩
   · refine thn (T.done (qN X scope N cl P2.objs.size s2 H2 fp (X.pn++pins)) rfl rfl rfl hc i [] s3 σ3 H3 noE I3 (stat fr3) st3 stop) fun r s4 ⟨hr,I4⟩=>?_;subst hr;obtain⟨m4,hn4,_⟩:=id I4.loc;refine⟨m4,hn4,fun h' hsb=>⟨.ref s2.heap.objs.size,H3,?_,rfl,qn⟩⟩;have u4:Un (frs X.stack) fp H2 H3 s2.heap s4.heap:=I4.base;have ltC:∀ b o,s2.heap.get? b=some o->b≠P2.objs.size:=fun b o e=>Nat.ne_of_lt (Nat.lt_of_lt_of_le (Heap.lt_size e) hCle)
     have u5:Un (frs X.stack) fp H2 H3 s2.heap h' :=
       { keep:=fun b o e n hb hx=>hsb.extBut b o (ltC b o e) (u4.keep b o e n hb hx)
         slot:=fun b o e n hb hx=>by
           obtain⟨sl,q⟩:=u4.slot b o e n hb hx;exact⟨sl,hsb.extBut b _ (ltC b o e) q⟩
         free:=u4.free
         there:=fun b o e hx=>by
           obtain⟨o',q⟩:=u4.there b o e hx;exact⟨o',hsb.extBut b _ (ltC b o e) q⟩
         tups:=u4.tups
         frzs:=u4.frzs
         tbls:=u4.tbls }
     have fC:H3 P2.objs.size=none:=I4.free
     have hok5:HOk X.prog X.w H3 h':=fun b u e=>(I4.hok b u e).stay (fun c v hc' q=>hsb.extBut c v (fun z=>by
       rcases hc' with y|y
       · rw[y]at z;rw[z,fC]at e;cases e
       · rw[z,fC]at y;cases y) q) (fun _ q=>q) fun _ _ q=>q
     exact I2.call' (s':={ s4 with heap:=h' }) I4.os u5 hok5 I4.bare fun b hb=>by
       obtain⟨g0,g1,g2,g3,g4,g5⟩:=f2 b hb;exact⟨g3,g1,g4,g5⟩
   · refine thn (T.item (qN X scope N cl P2.objs.size s2 H2 fp (X.pn++pins)) rfl rfl rfl hc i [] s3 σ3 H3 noE I3 (stat fr3) st3 go) fun r s4 ⟨u,hr,h4⟩=>?_;subst hr;refine thn h4 fun _ s5 zz_=>?_;obtain⟨x,H5,I5,r5,y5,st5,fr5⟩:=zz_;have I5':=I5.pinned (stat fr5) (T.obj _ _ st5);refine thn (hg' _ s5 σ3 H5 x u _ I5' r5 (step x H5 y5)) fun _ s6 zz_=>?_;obtain⟨σ6,H6,I6,q6⟩:=zz_;refine thn (ht' _ s6 σ6 H6 _ I6 q6) fun ok s7 zz_=>?_;obtain⟨H7,I7,q7⟩:=zz_;have again:∀ {s8:Shared}{σ8:St}{H8:Hp},Inv (qN X scope N cl P2.objs.size s2 H2 fp (X.pn++pins)) ([]++qaF fp s5.heap) σ8 H8 s8->N2 σ8 H8 ->
         ∃ m,m < n∧∃ i σ' H',Inv (qN X scope N cl P2.objs.size s2 H2 fp (X.pn++pins)) [] σ' H' s8∧tn i s8.heap∧(∀ b∈fp,H' b=none)∧W i m σ' H':=fun {s8 σ8 H8} I8 n8=>by
       obtain⟨m',hm,w8⟩:=hN σ8 H8 n8;refine⟨m',hm,i+1,σ8,H8,I8.unpinned,T.keep _ _ _ st5 fun b hb o e=>(I8.pin (b,o) (List.mem_append_right _ (List.mem_append_right _ (zE hb e)))).1,fun b hb=>?_,w8⟩;obtain⟨o,e,d⟩:=T.obj _ _ st5 b hb;exact(I8.pin (b,o) (List.mem_append_right _ (List.mem_append_right _ (zE hb e)))).2.1
     cases ok with
     | false=>exact again I7 (by simpa using q7)
     | true =>
       have q7':te σ6 H7 fun y H5=>∃ ys,H5 s2.heap.objs.size=some (.lst ys)∧ys.length < sizeLine∧N2 σ6 (upd H5 s2.heap.objs.size (.lst (ys++[y]))):=by simpa using q7
       refine thn (he' _ s7 σ6 H7 _ I7 q7') fun xv s8 zz_=>?_;obtain⟨y,H8,I8,r8,ys,hy,hlen,n8⟩:=zz_;refine thn (Qf (X:=qN X scope N cl P2.objs.size s2 H2 fp (X.pn++pins)) _ s8 σ6 H8 (.ref s2.heap.objs.size) [y] (.ref s2.heap.objs.size) [xv] (fun _ H9=>N2 σ6 H9) I8 rfl (.cons r8 .nil) ⟨_,ys,y,rfl,rfl,hy,hlen,n8⟩) fun _ s9 ⟨_,H9,I9,_,n9⟩=>again I9 n9
 exact codeAny_compStart_list (loop _ rfl) (T.self _ 0 _ _ _ (T.keep _ _ _ st2 (fun b hb o e=>old b o e)) (loop _ rfl))
end
def Its (x:Str):It:=⟨fun i _=>i < x.cps.size,fun i H v H'=>H'=H∧∃ c,x.cps[i]?=some c∧v=.str ⟨#[c]⟩,fun i _=>x.cps.size≤i⟩
theorem qhR {M:Model}{A:Around}{E:Value->Shared->Prop}{s:Shared}{tg:Expr}{it:Addr}{y:Str}{t:Tok}{Q:Unit->Shared->Prop} (hQ:Q () s):wpAny M A (letOwnedTupleGo tg (.ref it) (.str y t)) Q E s:=by
 unfold letOwnedTupleGo;cases tg<;>exact wpAny_pure hQ
theorem qgh {P:Program}{w:World}{K:Frag}{tg:Expr} (it:Addr) (x:Str) (t:Tok) (ty:String) (hty:ty="str_ascii_iterator"∨ty="str_iterator") :
   qiZ P w K tg (Its x) [it] it (fun i h=>h.IsStrIter it ty x t i) where
 mem:=by simp
 obj:=fun i h st b hb=>by
   have e:b=it:=by simpa using hb
   subst e;obtain⟨o,e,c,d⟩:=st;exact⟨o,e,fun v z=>by rw[d]at z;cases z⟩
 keep:=fun i h h' st k=>by
   obtain⟨o,e,r⟩:=st;exact⟨o,k it (by simp) o e,r⟩
 item:=by
   intro X hP hw hK hc i pins s σ H E I hf st hg;subst hP hw hK;obtain⟨f0,f1,f2,f3,f4,f5⟩:=hf it (by simp);have hi:i < x.cps.size:=hg;rcases hty with rfl|rfl
   · refine wpAny_pyNext_ascii_item st (c:=x.cps[i]) (by simp[hi]) fun h' st' sb=>?_;have I1:Inv X pins σ H { s with heap:=h',toks:=s.toks+1 }:=I.turned (fun b o hb e=>sb.extBut b o hb e) f0 f1 f3 f4 f5;exact⟨_,rfl,qhR (s:={ s with heap:=h',toks:=s.toks+1 }) ⟨.str ⟨#[x.cps[i]]⟩,H,I1,⟨_,rfl⟩,⟨rfl,x.cps[i],by simp[hi],rfl⟩,st',fun b hb=>(hf b hb).1⟩⟩
   · refine wpAny_pyNext_wide_item st (c:=x.cps[i]) (by simp[hi]) fun h' st' sb=>?_;have I1:Inv X pins σ H { s with heap:=h',toks:=s.toks+1 }:=I.turned (fun b o hb e=>sb.extBut b o hb e) f0 f1 f3 f4 f5;exact⟨_,rfl,qhR (s:={ s with heap:=h',toks:=s.toks+1 }) ⟨.str ⟨#[x.cps[i]]⟩,H,I1,⟨_,rfl⟩,⟨rfl,x.cps[i],by simp[hi],rfl⟩,st',fun b hb=>(hf b hb).1⟩⟩
 done:=by
   intro X hP hw hK hc i pins s σ H E I hf st hg;subst hP hw hK;obtain⟨f0,f1,f2,f3,f4,f5⟩:=hf it (by simp);have hi:x.cps.size≤i:=hg;rcases hty with rfl|rfl
   · exact wpAny_pyNext_ascii_end (I.ok.hd hc) st (by simp[hi]) fun h' eb=>⟨rfl,I.turned (t':=s.toks) (fun b o hb e=>eb b o hb e) f0 f1 f3 f4 f5⟩
   · exact wpAny_pyNext_wide_end (I.ok.hd hc) st (by simp[hi]) fun h' eb=>⟨rfl,I.turned (t':=s.toks) (fun b o hb e=>eb b o hb e) f0 f1 f3 f4 f5⟩
 self:=fun _ _ _ _ _ st h=>by
   rcases hty with rfl|rfl
   · exact wpAny_pyIter_striter_ascii st h
   · exact wpAny_pyIter_striter_wide st h
def qlV (te:TE):TI:=fun σ H R=>te σ H fun x H1=>∃ z,x=.str z∧R (Its z) H1
section
variable {X:Cx}{tg:Expr}
theorem qjE {e:Expr}{te:TE} (he:PE X e te):PI X tg e (qlV te):=by
 intro pins s σ H R I h;refine thn (he pins s σ H _ I h) fun v s1 zz_=>?_;obtain⟨x,H1,I1,r1,q1⟩:=zz_;obtain⟨z,e,q⟩:=q1;subst e;obtain⟨t,rfl⟩:=r1
 have fin:∀ ty,(ty="str_ascii_iterator"∨ty="str_iterator")->PIE X pins σ tg R (.ref s1.heap.objs.size) { s1 with heap:=s1.heap.push { cls:=.type ty,data:=.fields #[.str z t,.int 0 0] } }:=fun ty hty=>by
   refine⟨s1.heap.objs.size,[s1.heap.objs.size],_,_,H1,rfl,I1.kept (t':=s1.toks) fun b o e=>Heap.get?_push_of_some _ e,qgh _ z t ty hty,⟨_,Heap.get?_push_size _ rfl,rfl,rfl⟩,fun b hb=>?_,q⟩;have e:b=s1.heap.objs.size:=by simpa using hb
   subst e;exact I1.fpOk (Nat.le_refl _) (I1.hok.fresh (Nat.le_refl _))
 cases ha:z.cps.all (· < 128)
 · exact wpAny_pyIter_wide ha (fin _ (.inr rfl))
 · exact wpAny_pyIter_ascii ha (fin _ (.inl rfl))
end
theorem qhh {x:Str}{g:TG}{tt:TT}{te:TE}{D:Addr}{Q:VK}{σ:St}{H:Hp} (Pv:Nat->St->Hp->Prop) (h0:Pv 0 σ H)
   (hs:∀ i c σ H,x.cps[i]?=some c->Pv i σ H->g (.str ⟨#[c]⟩) σ H fun σ3 H3=>tt σ3 H3 fun ok H4=>if ok=true then te σ3 H4 fun y H5=>∃ ys,H5 D=some (.lst ys)∧ys.length < sizeLine∧Pv (i+1) σ3 (upd H5 D (.lst (ys++[y]))) else Pv (i+1) σ3 H4)
   (hd:∀ σ H,Pv x.cps.size σ H->Q (.ref D) H) :
   ZC (Its x) g tt te D Q σ H:=by
 refine⟨fun i m σ H=>m=x.cps.size - i∧i≤x.cps.size∧Pv i σ H,⟨x.cps.size,by simp,Nat.zero_le _,h0⟩,?_⟩;rintro i m σ H ⟨rfl,hi,p⟩;by_cases hlt:i < x.cps.size
 · refine .inr ⟨hlt,Pv (i+1),fun σ' H' p'=>⟨x.cps.size - (i+1),by omega,rfl,hlt,p'⟩,fun v H' y=>?_⟩;obtain⟨rfl,c,hc,rfl⟩:=y;exact hs i c σ _ hc p
 · have e:i=x.cps.size:=by omega
   subst e;exact .inl ⟨Nat.le_refl _,hd σ H p⟩
theorem qaO {lo:Int}{n:Nat}{g:TG}{tt:TT}{te:TE}{D:Addr}{Q:VK}{σ:St}{H:Hp} (Pv:Nat->St->Hp->Prop) (h0:Pv 0 σ H)
   (hs:∀ i σ H,i < n->Pv i σ H->g (.int (lo+i)) σ H fun σ3 H3=>tt σ3 H3 fun ok H4=>if ok=true then te σ3 H4 fun y H5=>∃ ys,H5 D=some (.lst ys)∧ys.length < sizeLine∧Pv (i+1) σ3 (upd H5 D (.lst (ys++[y]))) else Pv (i+1) σ3 H4)
   (hd:∀ σ H,Pv n σ H->Q (.ref D) H) :
   ZC (Itr lo n) g tt te D Q σ H:=by
 refine⟨fun i m σ H=>m=n - i∧i≤n∧Pv i σ H,⟨n,by simp,Nat.zero_le _,h0⟩,?_⟩;rintro i m σ H ⟨rfl,hi,p⟩;by_cases hlt:i < n
 · refine .inr ⟨hlt,Pv (i+1),fun σ' H' p'=>⟨n - (i+1),by omega,rfl,hlt,p'⟩,fun v H' y=>?_⟩;obtain⟨rfl,rfl⟩:=y;exact hs i σ _ hlt p
 · have e:i=n:=by omega
   subst e;exact .inl ⟨Nat.le_refl _,hd σ H p⟩
theorem zw {K:Frag}{a:Addr}{xs:List V}{g:TG}{tt:TT}{te:TE}{D:Addr}{Q:VK}{σ:St}{H:Hp} (Pv:Nat->St->Hp->Prop) (h0:Pv 0 σ H) (hl:∀ i σ H,i≤xs.length->Pv i σ H->SqL K H a xs)
   (hs:∀ i x σ H,xs[i]?=some x->Pv i σ H->g x σ H fun σ3 H3=>tt σ3 H3 fun ok H4=>if ok=true then te σ3 H4 fun y H5=>∃ ys,H5 D=some (.lst ys)∧ys.length < sizeLine∧Pv (i+1) σ3 (upd H5 D (.lst (ys++[y]))) else Pv (i+1) σ3 H4)
   (hd:∀ σ H,Pv xs.length σ H->Q (.ref D) H) :
   ZC (Itl K a) g tt te D Q σ H:=by
 refine⟨fun i m σ H=>m=xs.length - i∧i≤xs.length∧Pv i σ H,⟨xs.length,by simp,Nat.zero_le _,h0⟩,?_⟩;rintro i m σ H ⟨rfl,hi,p⟩;have q:=hl i σ H hi p;by_cases hlt:i < xs.length
 · refine .inr ⟨⟨xs,xs[i],q,by simp[hlt]⟩,Pv (i+1),fun σ' H' p'=>⟨xs.length - (i+1),by omega,rfl,hlt,p'⟩,fun v H' y=>?_⟩;obtain⟨e,y⟩:=y;subst e;exact hs i v σ _ (y xs q) p
 · have e:i=xs.length:=by omega
   subst e;exact .inl ⟨⟨xs,q,Nat.le_refl _⟩,hd σ H p⟩
theorem qfZ:∀ {bs:List Bool}{us:List Value},Vals (bs.map V.bl) us->us=bs.map Value.bool
 | [],_,r=>by cases r;rfl
 | b::bs,_,r=>by
   cases r with
   | cons r t =>
     cases r;rw[qfZ t];rfl
section
variable {X:Cx}
def qlO (K:Frag):List V->Hp->VK->Prop:=fun xs H Q=>∃ (p:Addr) (bs:List Bool),xs=[.ref p]∧SqL K H p (bs.map V.bl)∧Q (.bl (bs.all id)) H
theorem qce {α:Type} (f:α->Bool) (d:α):∀ l:List α,(List.range l.length).all (fun i=>f (l.getD i d))=l.all f
 | []=>rfl
 | a::l=>by
   rw[List.length_cons,List.range_succ_eq_map,List.all_cons,List.all_map,List.all_cons,← qce f d l];rfl
theorem qfR (hc:X.calm=true):CallR X (.builtin "all") (qlO X.K):=by
 intro pins s σ H xs us Q I r h;obtain⟨p,bs,rfl,hq,q⟩:=h;obtain⟨u,rfl,ru⟩:=Ji r;cases ru;obtain⟨its,rv,pl,hz⟩:=I.list hq;have eits:=qfZ rv;subst eits;have hlt:p < s.heap.objs.size:=by obtain⟨_,_,e,_⟩:=pl;exact Heap.lt_size e
 refine call_all_walk (wpAny_pyIter_list pl.isList ?_);have W:=Walks.list (prog:=X.prog) (w:=X.w) (A:=X.A.in1) (I.ok.hd hc) s.heap.objs.size p (Nat.ne_of_lt hlt) (bs.map Value.bool).toArray;refine⟨_,_,_,_,_,_,(fun i=>(bs.getD i true)),rfl,W,⟨⟨_,Heap.get?_push_size _ rfl,rfl,rfl⟩,pl.isList.push _⟩,?_,?_⟩
 · intro i v s' Q' E' hP hQ;have hv:(bs.map Value.bool)[i]?=some v:=by simpa using hP
   rw[List.getElem?_map]at hv
   cases e:bs[i]? with
   | none=>rw[e]at hv;cases hv
   | some b =>
     rw[e]at hv;cases hv;have e2:bs.getD i true=b:=by rw[List.getD_eq_getElem?_getD,e];rfl
     have hQ:Q' (bs.getD i true) s':=hQ;rw[e2]at hQ;exact wpAny_truthy_bool hQ
 · intro h' tk hk;have es:(bs.map Value.bool).toArray.size=bs.length:=by simp
   have ea:(List.range (bs.map Value.bool).toArray.size).all (fun i=>bs.getD i true)=bs.all id:=by rw[es];exact qce id true bs
   refine⟨.bl _,H,?_,by rw[ea];rfl,q⟩;exact I.kept (t':=tk) fun b o e=>hk b o (by simp;exact Nat.ne_of_lt (Heap.lt_size e)) (Heap.get?_push_of_some _ e)
end
theorem qfY:bootBuiltins "all"=some (.builtin "all"):=by decide +kernel
theorem qeo:∀ {ys:List Str}{us:List Value},Vals (ys.map V.str) us->StrsAre us ys
 | [],_,r=>by cases r;exact .nil
 | y::ys,_,r=>by
   cases r with
   | cons r t =>
     obtain⟨k,rfl⟩:=r;exact .cons y k (qeo t)
section
variable {X:Cx}
def qkI (K:Frag):V->List V->Hp->VK->Prop:=fun x xs H Q=>∃ (sep:Str) (p:Addr) (ys:List Str),x=.str sep∧xs=[.ref p]∧SqL K H p (ys.map V.str)∧(ys.map (·.length)).sum+ys.length * sep.length≤16777216∧Q (.str (Txt.join sep ys)) H
theorem qfc:MtR X "str.join" (qkI X.K):=by
 intro pins s σ H x xs v us Q I rx r h;obtain⟨sep,p,ys,rfl,rfl,hq,hz,q⟩:=h;obtain⟨t,rfl⟩:=rx;obtain⟨u,rfl,ru⟩:=Ji r;cases ru;obtain⟨its,rv,pl,_⟩:=I.list hq;exact join_list pl.isList (by simpa using qeo rv) hz fun t' k=>⟨.str _,H,I.tok k,⟨_,rfl⟩,q⟩
def qli:V->Option Int->Option Int->Hp->VK->Prop:=fun x lo hi H Q=>∃ z,x=.str z∧z.length≤sizeLine∧Q (.str (Txt.slice z lo hi)) H
theorem qjv:SlR X qli:=by
 intro pins s σ H x v vl vu lo hi sl Q I rx hs pl pu h;obtain⟨z,rfl,hz,q⟩:=h;obtain⟨t,rfl⟩:=rx;refine⟨"str",_,F.slot_str_getitem.lookup,typeIs_str _ _ _,?_⟩;have fin:∀ t' k,EP X pins σ Q (.str (Txt.slice z lo hi) t') { s with toks:=k }:=fun t' k=>⟨.str _,H,I.tok k,⟨_,rfl⟩,q⟩
 obtain⟨o,e1,e2,e3⟩:=hs
 cases pl with
 | none =>
   cases pu with
   | none=>exact wpAny_getItem_str_slice (l:=none) (u:=none) (st:=none) ⟨o,e1,e2,e3⟩ rfl (post_val_or_str ⟨Nat.le_trans (Txt.slice_le z _ _) hz,fin⟩)
   | int j u=>exact wpAny_getItem_str_slice (l:=none) (u:=some (j,u)) (st:=none) ⟨o,e1,e2,e3⟩ rfl (post_val_or_str ⟨Nat.le_trans (Txt.slice_le z _ _) hz,fin⟩)
 | int i ui =>
   cases pu with
   | none=>exact wpAny_getItem_str_slice (l:=some (i,ui)) (u:=none) (st:=none) ⟨o,e1,e2,e3⟩ rfl (post_val_or_str ⟨Nat.le_trans (Txt.slice_le z _ _) hz,fin⟩)
   | int j u=>exact wpAny_getItem_str_slice (l:=some (i,ui)) (u:=some (j,u)) (st:=none) ⟨o,e1,e2,e3⟩ rfl (post_val_or_str ⟨Nat.le_trans (Txt.slice_le z _ _) hz,fin⟩)
theorem uSl:SlR X (fun x lo hi H Q=>qlj X.K x lo hi H Q∨qli x lo hi H Q):=sl_list.or qjv
theorem qbQ:OpR X (compareOp .LtE) (fun x y H Q=>∃ i j,x=.str i∧y=.str j∧Q (.bl (!decide (j.cps.toList < i.cps.toList))) H):=by
 intro pins s σ H x y v u Q I rx ry h;obtain⟨i,j,rfl,rfl,q⟩:=h;obtain⟨t,rfl⟩:=rx;obtain⟨t',rfl⟩:=ry;exact P.le_str ⟨.bl _,H,I,rfl,q⟩
end
def qQ (cells:List (Str×Addr)):List (Str×NameKind)->List (Str×Addr)->List (Str×Addr)
 | [],acc=>acc
 | (n,k)::r,acc=>qQ cells r (if k == .free then (n,(cells.lookup n).getD 0)::acc else acc)
def qhU (env:Env) (x:Str×NameKind) (cs:List (Str×Addr)):Sem (ForInStep (List (Str×Addr))):=match x with
 | (name,kind)=>if (kind == NameKind.free)=true then (do let a ← cellOf env name;pure (ForInStep.yield ((name,a)::cs))) else pure (ForInStep.yield cs)
theorem qfL {env:Env}{n:Str}{k:NameKind}{acc:List (Str×Addr)} (h:k=.free->∃ c,env.cells.lookup n=some c) :
   qhU env (n,k) acc=pure (ForInStep.yield (if k == .free then (n,(env.cells.lookup n).getD 0)::acc else acc)):=by
 by_cases hk:k=.free
 · subst hk;obtain⟨c,hc⟩:=h rfl;show (do let a ← cellOf env n;pure (ForInStep.yield ((n,a)::acc)))=(pure (ForInStep.yield ((n,(env.cells.lookup n).getD 0)::acc)):Sem _);unfold cellOf;rw[hc];rfl
 · cases k<;>first|exact absurd rfl hk|rfl
theorem qaP {env:Env}:∀ (names:List (Str×NameKind)) (acc:List (Str×Addr)),(∀ y∈names,y.2=.free->∃ c,env.cells.lookup y.1=some c) ->
   (forIn names acc (qhU env))=(pure (qQ env.cells names acc):Sem (List (Str×Addr)))
 | [],acc,_=>rfl
 | (n,k)::r,acc,h=>by
   rw[List.forIn_cons,qfL fun e=>h (n,k) List.mem_cons_self e];exact qaP (env:=env) r _ fun y hy=>h y (List.mem_cons_of_mem _ hy)
theorem QI {scope:Scope}{env:Env} (h:∀ y∈scope.names,y.2=.free->∃ c,env.cells.lookup y.1=some c):closureFor scope env=pure (qQ env.cells scope.names []):=by
 unfold closureFor;exact(congrArg (fun (m:Sem (List (Str×Addr)))=>m >>= fun cs=>pure cs) (qaP (env:=env) scope.names [] h)).trans rfl
theorem qL {cells:List (Str×Addr)}{x:Str}:∀ (names:List (Str×NameKind)) (acc:List (Str×Addr)),(∀ y∈names,y.2=.free->∃ c,cells.lookup y.1=some c)->(∀ c,acc.lookup x=some c->cells.lookup x=some c) ->
   (∀ c,(qQ cells names acc).lookup x=some c->cells.lookup x=some c)∧(((x,NameKind.free)∈names∨(acc.lookup x).isSome=true)->((qQ cells names acc).lookup x).isSome=true)
 | [],acc,_,ha=>⟨ha,fun h=>h.elim (fun z=>nomatch z) id⟩
 | (n,k)::r,acc,h,ha=>by
   unfold qQ;have hr:∀ y∈r,y.2=.free->∃ c,cells.lookup y.1=some c:=fun y hy=>h y (List.mem_cons_of_mem _ hy)
   cases hk:(k == NameKind.free) with
   | false =>
     obtain⟨i1,i2⟩:=qL (cells:=cells) (x:=x) r acc hr ha;refine⟨by simpa using i1,fun z=>?_⟩
     have:((qQ cells r acc).lookup x).isSome=true:=i2 (by
       rcases z with z|z
       · rcases List.mem_cons.mp z with e|e
         · cases e;cases hk
         · exact .inl e
       · exact .inr z)
     simpa using this
   | true =>
     obtain⟨c,hc⟩:=h (n,k) List.mem_cons_self (by simpa using hk);have hc:cells.lookup n=some c:=hc;have ek:k=NameKind.free:=by simpa using hk
     subst ek
     have ha':∀ c',((n,(cells.lookup n).getD 0)::acc).lookup x=some c'->cells.lookup x=some c':=fun c' z=>by
       rw[List.lookup_cons]at z
       cases e:x == n with
       | true =>
         rw[e]at z;have e':x=n:=by simpa using e
         rw[e',hc]at *;simpa using z
       | false=>rw[e]at z;exact ha c' z
     obtain⟨i1,i2⟩:=qL (cells:=cells) (x:=x) r _ hr ha';refine⟨i1,fun z=>i2 ?_⟩;by_cases e:x=n
     · right;rw[List.lookup_cons,e];simp
     · rcases z with z|z
       · rcases List.mem_cons.mp z with q|q
         · cases q;exact absurd rfl e
         · exact .inl q
       · right;rw[List.lookup_cons]
         have:(x == n)=false:=by simpa using e
         rw[this];exact z
theorem ZA {x:Str}{k:NameKind}:∀ {names:List (Str×NameKind)},names.lookup x=some k->(x,k)∈names
 | [],h=>by cases h
 | (n,j)::r,h=>by
   rw[List.lookup_cons]at h
   cases e:x == n with
   | true =>
     rw[e]at h;have e':x=n:=by simpa using e
     cases h;rw[e'];exact List.mem_cons_self
   | false=>rw[e]at h;exact List.mem_cons_of_mem _ (ZA h)
theorem JG {scope:Scope}{env:Env}{x:Str}{k:NameKind} (h:(x,k)∈(relabel scope env).names):(x,k)∈scope.names∨(k=.cell∧(x,NameKind.free)∈scope.names):=by
 have h':(x,k)∈scope.names.map fun (n,k)=>if (k == .free && env.scope.kind == .function && env.kindOf n == some .cell) then (n,.cell) else (n,k):=h
 obtain⟨⟨n,j⟩,hm,e⟩:=List.mem_map.mp h';simp only at e;split at e
 · rename_i c
   cases e
   have:j=.free:=by
     have c1:=(Bool.and_eq_true_iff.mp (Bool.and_eq_true_iff.mp c).1).1;simpa using c1
   subst this;exact .inr ⟨rfl,hm⟩
 · cases e;exact .inl hm
theorem Qg {env:Env}{x:Str} (hX:env.scope.kind=.function) (g3:env.kindOf x=some .cell):∀ {names:List (Str×NameKind)},names.lookup x=some .free ->
   (names.map fun (n,k)=>if (k == NameKind.free && env.scope.kind == .function && env.kindOf n == some .cell) then (n,NameKind.cell) else (n,k)).lookup x=some .cell
 | [],h=>by cases h
 | (n,k)::r,h=>by
   have ih:=Qg hX g3 (names:=r);show List.lookup x ((if (k == NameKind.free && env.scope.kind == .function && env.kindOf n == some .cell)=true then (n,NameKind.cell) else (n,k))::_)=_;rw[List.lookup_cons]at h
   cases e:x == n with
   | true =>
     rw[e]at h;have e':x=n:=by simpa using e
     have ek:k=.free:=by simpa using h
     rw[ek,← e',if_pos (show (NameKind.free == NameKind.free && env.scope.kind == .function && env.kindOf x == some .cell)=true by rw[hX,g3];decide),List.lookup_cons];simp
   | false =>
     rw[e]at h;by_cases hc:(k == NameKind.free && env.scope.kind == .function && env.kindOf n == some .cell)=true
     · rw[if_pos hc,List.lookup_cons,e];exact ih h
     · rw[if_neg hc,List.lookup_cons,e];exact ih h
theorem CompOk.of {X:Cx}{scope:Scope}{N:List Str}{js:List (Option Nat)} (hkind:scope.kind=.function) (hcell:∀ y∈scope.names,y.2≠.cell) (hnames:∀ y∈scope.names,y.2=.local->scope.names.lookup y.1=some .local)
   (hX:X.env.scope.kind=.function) (hfree:∀ y∈scope.names,y.2=.free->X.env.kindOf y.1=some .cell∧∃ c,X.env.cells.lookup y.1=some c) (len:js.length=N.length)
   (hfr:∀ (i j:Nat) (x:Str),js[i]?=some (some j)->N[i]?=some x->X.N[j]?=some x∧scope.names.lookup x=some .free) :
   CompOk X scope N (qQ X.env.cells scope.names []) js where
 clos:=QI fun y hy z=>(hfree y hy z).2
 sub:=fun x c h=>(qL scope.names [] (fun y hy z=>(hfree y hy z).2) (fun c h=>by cases h)).1 c h
 all:=fun x h=>by
   have hm:(x,NameKind.free)∈scope.names:=by
     rcases h with h|h
     · rcases JG (ZA h) with z|⟨_,z⟩
       · exact absurd rfl (hcell _ z)
       · exact z
     · rcases JG (ZA h) with z|⟨e,_⟩
       · exact z
       · cases e
   have:=(qL (cells:=X.env.cells) (x:=x) scope.names [] (fun y hy z=>(hfree y hy z).2) (fun c h=>by cases h)).2 (.inl hm)
   exact Option.isSome_iff_exists.mp this
 cell:=hcell
 kind:=hkind
 names:=hnames
 len:=len
 fr:=fun i j x h1 h2=>by
   obtain⟨g1,g2⟩:=hfr i j x h1 h2;obtain⟨g3,_⟩:=hfree (x,.free) (ZA g2) rfl;refine⟨g1,g3,.inl ?_⟩;exact Qg hX g3 g2
def qiP (sc:Scope) (N0 N:List Str) (js:List (Option Nat)):Bool:=(js.zip N).all fun p=>match p.1 with
 | none=>true
 | some j=>N0[j]? == some p.2 && sc.names.lookup p.2 == some .free
theorem qdz {sc:Scope}{N0:List Str}:∀ {js:List (Option Nat)}{N:List Str},qiP sc N0 N js=true->∀ (i j:Nat) (x:Str),js[i]?=some (some j)->N[i]?=some x->N0[j]?=some x∧sc.names.lookup x=some .free:=by
 intro js N h i j x h1 h2
 have hm:(some j,x)∈js.zip N:=by
   refine List.mem_of_getElem? (i:=i) ?_;rw[List.getElem?_zip_eq_some];exact⟨h1,h2⟩
 have:=List.all_eq_true.mp h _ hm
 simpa using this
theorem CompOk.def {CX:CXT}{P:Program}{w:World}{K:Frag}{mg:Str->Option Value}{base:Heap}{N0:List Str}{qual:Str}{sc0:Scope}{f:Addr}{cd:Value}{A:Around}{outer:List Env}{s:Shared}{H:Hp}{E:XK}{scope:Scope}
   (N:List Str) (js:List (Option Nat)) (hk0:sc0.kind=.function:=by rfl) (hk:scope.kind=.function:=by rfl) (hcell:∀ y∈scope.names,y.2≠.cell:=by decide +kernel) (hnames:∀ y∈scope.names,y.2=.local->scope.names.lookup y.1=some .local:=by decide +kernel)
   (hfr0:∀ y∈scope.names,y.2=.free->sc0.names.lookup y.1=some .cell:=by decide +kernel) (len:js.length=N.length:=by rfl) (hfr:qiP scope N0 N js=true:=by decide +kernel) :
   CompOk (qZ CX P w K mg base N0 qual sc0 f cd A outer s H E).nox scope N (qQ (qZ CX P w K mg base N0 qual sc0 f cd A outer s H E).nox.env.cells scope.names []) js :=
 CompOk.of hk hcell hnames hk0 (fun y hy z=>⟨hfr0 y hy z,Option.isSome_iff_exists.mp (PySem.W.cellsFrom_some _ _ _ (.inl (hfr0 y hy z)))⟩) len (qdz hfr)
section
variable {prog:Program}{w:World}{A:Around}{E:Value->Shared->Prop}{s:Shared}
theorem qgG {j u:Addr}{k:Nat}{xs:Array Value}{x:Value}{Q:Value->Shared->Prop} (a:s.heap.IsTupleIter j u k) (b:s.heap.IsTuple u xs) (e:xs[k]?=some x)
   (q:∀ h',h'.IsTupleIter j u (k+1)->Heap.SameBut j s.heap h'->Q x { s with heap:=h' }):wpAny (model prog w) A (Builtin.SmallTypes.nextOf (.ref j)) Q E s:=by
 obtain⟨oj,gj,cj,dj⟩:=id a;obtain⟨ou,gu,_,nu,du⟩:=b;unfold Builtin.SmallTypes.nextOf;refine wpAny_bind (wpAny_callSpecial?_slot (name:=Str.ofString "__next__") a.typeIs F.slot_tuple_iterator_next (wpAny_call_entry F.slot_tuple_iterator_next a.typeIs F.entry_tuple_iterator_next ?_ (F.args_tuple_iterator_next_1 _)));show wpAny _ _ (field (.ref j) 0 >>= _) _ _ s;refine wpAny_bind (wpAny_field gj dj (x:=.ref u) rfl ?_);show wpAny _ _ (if (Value.ref u == Value.none)=true then _ else _) _ _ s;rw[if_neg (show ¬ ((Value.ref u == Value.none)=true) from Bool.false_ne_true)];show wpAny _ _ (field (.ref j) 1 >>= _) _ _ s;refine wpAny_bind (wpAny_field gj dj (x:=.int k 0) rfl ?_);show wpAny _ _ (seqItems? (.ref u) >>= _) _ _ s;refine wpAny_bind (wpAny_seqItems gu du ?_);simp only[Int.toNat_natCast,e];refine wpAny_bind (wpAny_setField gj dj (by simp) (wpAny_pure ⟨x,rfl,wpAny_pure (q _ ?_ (Heap.SameBut.update ..))⟩));refine⟨_,Heap.get?_update_self _ gj (Obj.isFreed_of_fields (Obj.data_mapFields dj _)),(Obj.cls_mapFields ..).trans cj,?_⟩;rw[Obj.data_mapFields dj];simp[rawInt]
theorem qix {j u:Addr}{k:Nat}{xs:Array Value}{Q:Value->Shared->Prop} (hd:A.handled=none) (a:s.heap.IsTupleIter j u k) (b:s.heap.IsTuple u xs) (e:xs[k]?=none)
   (q:∀ h' z,Heap.ExtBut j s.heap h'->(∃ o,h'.get? z=some o∧o.cls=.type "StopIteration")->E (.ref z) { s with heap:=h' }):wpAny (model prog w) A (Builtin.SmallTypes.nextOf (.ref j)) Q E s:=by
 obtain⟨oj,gj,cj,dj⟩:=id a;obtain⟨ou,gu,_,nu,du⟩:=b;unfold Builtin.SmallTypes.nextOf;refine wpAny_bind (wpAny_callSpecial?_slot (name:=Str.ofString "__next__") a.typeIs F.slot_tuple_iterator_next (wpAny_call_entry F.slot_tuple_iterator_next a.typeIs F.entry_tuple_iterator_next ?_ (F.args_tuple_iterator_next_1 _)));show wpAny _ _ (field (.ref j) 0 >>= _) _ _ s;refine wpAny_bind (wpAny_field gj dj (x:=.ref u) rfl ?_);show wpAny _ _ (if (Value.ref u == Value.none)=true then _ else _) _ _ s;rw[if_neg (show ¬ ((Value.ref u == Value.none)=true) from Bool.false_ne_true)];show wpAny _ _ (field (.ref j) 1 >>= _) _ _ s;refine wpAny_bind (wpAny_field gj dj (x:=.int k 0) rfl ?_);show wpAny _ _ (seqItems? (.ref u) >>= _) _ _ s;refine wpAny_bind (wpAny_seqItems gu du ?_);simp only[Int.toNat_natCast,e];refine wpAny_bind (wpAny_rule (wpAny_bind (wpAny_setField gj dj (by simp) ?_)));show wpAny _ _ (newExc (.type "StopIteration") [] >>= _) _ _ { s with heap:=_ };refine wpAny_bind ?_;simp only[newExc,newTuple];refine wpAny_bind (wpAny_newObj_type ?_ (by size_fits));refine wpAny_bind (m:=firstArgMember _ _) (wpAny_of_eq (a:=Value.none) (by first|rfl|(simp only[firstArgMember];rfl)) (wpAny_newObj_type ?_ (by size_fits)));simp only[raiseNew];refine wpAny_bind (wpAny_handled ?_)
 first|rw[show A.in1.handled=none from hd]|rw[hd]
 exact wpAny_bind (wpAny_pure (wpAny_throw (q _ _ (((Heap.SameBut.update ..).extBut.push _).push _) ⟨_,Heap.get?_push_size _ rfl,rfl⟩)))
def itK:Bool->Heap->Addr->Addr->Nat->Prop
 | false,h,j,u,k=>h.IsListIter j u k
 | true,h,j,u,k=>h.IsTupleIter j u k
def sqK:Bool->Heap->Addr->Array Value->Prop
 | false,h,u,xs=>h.IsList u xs
 | true,h,u,xs=>h.IsTuple u xs
theorem itK.at {t:Bool}{h h':Heap}{j u:Addr}{k:Nat} (x:itK t h j u k) (e:∀ o,h.get? j=some o->h'.get? j=some o):itK t h' j u k:=by
 cases t with
 | false=>exact Heap.IsListIter.at x e
 | true=>obtain⟨o,g,r⟩:=x;exact⟨o,e o g,r⟩
theorem itK.get {t:Bool}{h:Heap}{j u:Addr}{k:Nat} (x:itK t h j u k):∃ o,h.get? j=some o∧o.data=.fields #[.ref u,.int k 0]:=by
 cases t with
 | false=>obtain⟨o,g,_,d⟩:=x;exact⟨o,g,d⟩
 | true=>obtain⟨o,g,_,d⟩:=x;exact⟨o,g,d⟩
theorem sqK.at {t:Bool}{h h':Heap}{u:Addr}{xs:Array Value} (x:sqK t h u xs) (e:∀ o,h.get? u=some o->h'.get? u=some o):sqK t h' u xs:=by
 cases t with
 | false=>exact Heap.IsList.at x e
 | true=>obtain⟨o,g,r⟩:=x;exact⟨o,e o g,r⟩
theorem sqK.lt {t:Bool}{h:Heap}{u:Addr}{xs:Array Value} (x:sqK t h u xs):u < h.objs.size:=by
 cases t with
 | false=>obtain⟨o,g,_⟩:=x;exact Heap.lt_size g
 | true=>obtain⟨o,g,_⟩:=x;exact Heap.lt_size g
theorem qbd {t:Bool}{j u:Addr}{k:Nat}{xs:Array Value}{x:Value}{Q:Value->Shared->Prop} (a:itK t s.heap j u k) (b:sqK t s.heap u xs) (e:xs[k]?=some x)
   (q:∀ h',itK t h' j u (k+1)->Heap.SameBut j s.heap h'->Q x { s with heap:=h' }):wpAny (model prog w) A (Builtin.SmallTypes.nextOf (.ref j)) Q E s:=by
 cases t with
 | false=>exact wpAny_nextOf_list_item a b e q
 | true=>exact qgG a b e q
theorem qe9 {t:Bool}{j u:Addr}{k:Nat}{xs:Array Value}{Q:Value->Shared->Prop} (hd:A.handled=none) (a:itK t s.heap j u k) (b:sqK t s.heap u xs) (e:xs[k]?=none)
   (q:∀ h' z,Heap.ExtBut j s.heap h'->(∃ o,h'.get? z=some o∧o.cls=.type "StopIteration")->E (.ref z) { s with heap:=h' }):wpAny (model prog w) A (Builtin.SmallTypes.nextOf (.ref j)) Q E s:=by
 cases t with
 | false=>exact wpAny_nextOf_list_end hd a b e q
 | true=>exact qix hd a b e q
theorem qh0 {t:Bool}{z TI TO i1 i2 l1 l2:Addr}{k:Nat}{xs ys:Array Value}{x y a b:Value}{Q:Value->Shared->Prop} (D:ZipApart z TI TO i1 i2 l1 l2)
   (gz:IsZip s.heap z TI TO .none) (gI:IsPair s.heap TI (.ref i1) (.ref i2)) (gO:IsPair s.heap TO a b) (j1:itK t s.heap i1 l1 k) (j2:itK t s.heap i2 l2 k) (m1:sqK t s.heap l1 xs) (m2:sqK t s.heap l2 ys) (ex:xs[k]?=some x) (ey:ys[k]?=some y)
   (q:∀ h',IsZip h' z TI TO (rawInt s.heap.objs.size)->IsPair h' TO x y->itK t h' i1 l1 (k+1)->itK t h' i2 l2 (k+1)->IsPair h' s.heap.objs.size x y ->
     (∀ c o,c≠z->c≠TO->c≠i1->c≠i2->s.heap.get? c=some o->h'.get? c=some o)->Q (.ref s.heap.objs.size) { s with heap:=h' }) :
   wpAny (model prog w) A (Builtin.«zip.__next__» ⟨[.ref z],[]⟩) (fun fin s'=>∃ v,fin=.done (.ret v)∧Q v s') E s:=by
 show wpAny _ _ (field (.ref z) 2 >>= _) _ _ s;refine wpAny_bind (wpAny_field gz rfl (x:=.bool false) rfl ?_);show wpAny _ _ (field (.ref z) 3 >>= _) _ _ s;refine wpAny_bind (wpAny_field gz rfl (x:=.ref TI) rfl (wpAny_bind (wpAny_seqItems gI rfl ?_)));show wpAny _ _ (Builtin.SmallTypes.ownedTupleIsFree (.ref z) >>= _) _ _ s;refine wpAny_bind ?_;unfold Builtin.SmallTypes.ownedTupleIsFree;refine wpAny_bind (wpAny_field gz rfl (x:=.none) rfl (wpAny_pure ?_));simp only[if_true];refine wpAny_bind (wpAny_rule (wpAny_bind (wpAny_field gz rfl (x:=.ref TO) rfl (wpAny_bind (wpAny_setField_rec gz (by simp) fun g1 z1 n1=>?_)))));replace z1:IsZip g1 z TI TO .ellipsis:=z1;refine wpAny_bind ?_;simp only[List.zipIdx_cons,List.zipIdx_nil,List.forIn_cons,List.forIn_nil];refine wpAny_bind (wpAny_bind (wpAny_onRaise ?_));show wpAny _ _ (Builtin.SmallTypes.nextOf (.ref i1) >>= _) _ _ { s with heap:=g1 };refine wpAny_bind (qbd (t:=t) (s:={ s with heap:=g1 }) (j1.at fun o e=>n1.extBut _ o D.i1z e) (m1.at fun o e=>n1.extBut _ o D.l1z e) ex fun g2 j12 n2=>wpAny_pure ?_);have O2:IsPair g2 TO a b:=n2.extBut _ _ D.TOi1 (n1.extBut _ _ D.TOz gO);refine wpAny_bind (wpAny_seqItems O2 rfl (wpAny_bind (wpAny_updateSeq_pair O2 fun g3 O3 n3=>?_)));replace O3:IsPair g3 TO x b:=O3;refine wpAny_bind (wpAny_letGo (wpAny_pure (wpAny_bind (wpAny_bind (wpAny_onRaise ?_)))));show wpAny _ _ (Builtin.SmallTypes.nextOf (.ref i2) >>= _) _ _ { s with heap:=g3 };have k3:∀ c o,c≠z->c≠i1->c≠TO->s.heap.get? c=some o->g3.get? c=some o:=fun c o c1 c2 c3 e=>n3.extBut _ _ c3 (n2.extBut _ _ c2 (n1.extBut _ _ c1 e));refine wpAny_bind (qbd (t:=t) (s:={ s with heap:=g3 }) (j2.at fun o e=>k3 _ o D.i2z D.i12.symm D.TOi2.symm e) (m2.at fun o e=>k3 _ o D.l2z D.l2i1 D.l2TO e) ey fun g4 j24 n4=>wpAny_pure ?_);have O4:IsPair g4 TO x b:=n4.extBut _ _ D.TOi2 O3;refine wpAny_bind (wpAny_seqItems O4 rfl (wpAny_bind (wpAny_updateSeq_pair O4 fun g5 O5 n5=>?_)));replace O5:IsPair g5 TO x y:=O5;refine wpAny_bind (wpAny_letGo (wpAny_pure (wpAny_pure (wpAny_bind (wpAny_seqItems O5 rfl (wpAny_bind (wpAny_newTuple ?_)))))));have sz:g5.objs.size=s.heap.objs.size:=by rw[n5.1,n4.1,n3.1,n2.1,n1.1]
 have z5:IsZip g5 z TI TO .ellipsis:=n5.extBut _ _ D.TOz.symm (n4.extBut _ _ D.i2z.symm (n3.extBut _ _ D.TOz.symm (n2.extBut _ _ D.i1z.symm z1)));have k5:∀ c o,c≠z->c≠TO->c≠i1->c≠i2->s.heap.get? c=some o->g5.get? c=some o:=fun c o c1 c2 c3 c4 e=>n5.extBut _ _ c2 (n4.extBut _ _ c4 (k3 c o c1 c3 c2 e));have p1:itK t g5 i1 l1 (k+1):=((j12.at fun o e=>n3.extBut _ o D.TOi1.symm e).at fun o e=>n4.extBut _ o D.i12 e).at fun o e=>n5.extBut _ o D.TOi1.symm e;have p2:itK t g5 i2 l2 (k+1):=j24.at fun o e=>n5.extBut _ o D.TOi2.symm e;have lz:z < g5.objs.size:=Heap.lt_size z5;show wpAny _ _ (Builtin.SmallTypes.ownedTupleHandOut (.ref z) (.ref g5.objs.size) >>= _) _ _ { s with heap:=_ };refine wpAny_bind ?_;unfold Builtin.SmallTypes.ownedTupleHandOut;have z6:IsZip (g5.push { cls:=.type "tuple",data:=.seq #[x,y] }) z TI TO .ellipsis:=Heap.get?_push_of_some _ z5;refine wpAny_bind (wpAny_setField_rec z6 (by simp) fun g7 z7 n7=>?_);replace z7:IsZip g7 z TI TO (rawInt g5.objs.size):=z7;refine wpAny_setField_rec z7 (by simp) fun g8 z8 n8=>?_;replace z8:IsZip g8 z TI TO (rawInt g5.objs.size):=z8;have up:∀ c o,c≠z->g5.get? c=some o->g8.get? c=some o:=fun c o c1 e=>n8.extBut _ _ c1 (n7.extBut _ _ c1 (Heap.get?_push_of_some _ e));have T8:IsPair g8 g5.objs.size x y:=n8.extBut _ _ (Nat.ne_of_gt lz) (n7.extBut _ _ (Nat.ne_of_gt lz) (Heap.get?_push_size _ rfl));rw[sz]at z8 T8;refine wpAny_pure ⟨_,rfl,?_⟩;show Q (.ref g5.objs.size) { s with heap:=g8 };rw[sz];exact q g8 z8 (up _ _ D.TOz O5) (p1.at fun o e=>up _ o D.i1z e) (p2.at fun o e=>up _ o D.i2z e) T8 fun c o c1 c2 c3 c4 e=>up c o c1 (k5 c o c1 c2 c3 c4 e)
theorem qi9 {t:Bool}{z TI TO i1 i2 l1 l2:Addr}{k:Nat}{xs ys:Array Value}{a b:Value}{Q:Fin->Shared->Prop} (hd:A.handled=none) (D:ZipApart z TI TO i1 i2 l1 l2)
   (gz:IsZip s.heap z TI TO .none) (gI:IsPair s.heap TI (.ref i1) (.ref i2)) (gO:IsPair s.heap TO a b) (j1:itK t s.heap i1 l1 k) (j2:itK t s.heap i2 l2 k) (m1:sqK t s.heap l1 xs) (m2:sqK t s.heap l2 ys) (en:xs[k]?=none∨ys[k]?=none)
   (q:∀ h' v,(∀ c o,c≠z->c≠TO->c≠i1->c≠i2->s.heap.get? c=some o->h'.get? c=some o)->(∃ o,h'.get? v=some o∧o.cls=.type "StopIteration")->E (.ref v) { s with heap:=h' }) :
   wpAny (model prog w) A (Builtin.«zip.__next__» ⟨[.ref z],[]⟩) Q E s:=by
 show wpAny _ _ (field (.ref z) 2 >>= _) _ _ s;refine wpAny_bind (wpAny_field gz rfl (x:=.bool false) rfl ?_);show wpAny _ _ (field (.ref z) 3 >>= _) _ _ s;refine wpAny_bind (wpAny_field gz rfl (x:=.ref TI) rfl (wpAny_bind (wpAny_seqItems gI rfl ?_)));show wpAny _ _ (Builtin.SmallTypes.ownedTupleIsFree (.ref z) >>= _) _ _ s;refine wpAny_bind ?_;unfold Builtin.SmallTypes.ownedTupleIsFree;refine wpAny_bind (wpAny_field gz rfl (x:=.none) rfl (wpAny_pure ?_));simp only[if_true];refine wpAny_bind (wpAny_rule (wpAny_bind (wpAny_field gz rfl (x:=.ref TO) rfl (wpAny_bind (wpAny_setField_rec gz (by simp) fun g1 z1 n1=>?_)))));replace z1:IsZip g1 z TI TO .ellipsis:=z1;refine wpAny_bind ?_;simp only[List.zipIdx_cons,List.zipIdx_nil,List.forIn_cons,List.forIn_nil];refine wpAny_bind (wpAny_bind (wpAny_onRaise ?_));show wpAny _ _ (Builtin.SmallTypes.nextOf (.ref i1) >>= _) _ _ { s with heap:=g1 };have a1:itK t g1 i1 l1 k:=j1.at fun o e=>n1.extBut _ o D.i1z e;have b1:sqK t g1 l1 xs:=m1.at fun o e=>n1.extBut _ o D.l1z e
 cases ex:xs[k]? with
 | none =>
   refine wpAny_bind (qe9 (t:=t) (s:={ s with heap:=g1 }) hd a1 b1 ex fun g2 v n2 sv=>?_);obtain⟨ov,gv,cv⟩:=sv;have z2:IsZip g2 z TI TO .ellipsis:=n2 _ _ D.i1z.symm z1;have vz:v≠z:=fun e=>by subst e;rw[z2]at gv;cases gv;simp at cv
   exact wpAny_setField_rec z2 (by simp) fun g3 _ n3=>q g3 v (fun c o c1 _ c3 _ e=>n3.extBut _ _ c1 (n2 _ _ c3 (n1.extBut _ _ c1 e))) ⟨ov,n3.extBut _ _ vz gv,cv⟩
 | some x =>
   have ey:ys[k]?=none:=en.resolve_left fun e=>by rw[ex]at e;cases e
   refine wpAny_bind (qbd (t:=t) (s:={ s with heap:=g1 }) a1 b1 ex fun g2 j12 n2=>wpAny_pure ?_);have O2:IsPair g2 TO a b:=n2.extBut _ _ D.TOi1 (n1.extBut _ _ D.TOz gO);refine wpAny_bind (wpAny_seqItems O2 rfl (wpAny_bind (wpAny_updateSeq_pair O2 fun g3 O3 n3=>?_)));refine wpAny_bind (wpAny_letGo (wpAny_pure (wpAny_bind (wpAny_bind (wpAny_onRaise ?_)))));show wpAny _ _ (Builtin.SmallTypes.nextOf (.ref i2) >>= _) _ _ { s with heap:=g3 };have k3:∀ c o,c≠z->c≠i1->c≠TO->s.heap.get? c=some o->g3.get? c=some o:=fun c o c1 c2 c3 e=>n3.extBut _ _ c3 (n2.extBut _ _ c2 (n1.extBut _ _ c1 e));refine wpAny_bind (qe9 (t:=t) (s:={ s with heap:=g3 }) hd (j2.at fun o e=>k3 _ o D.i2z D.i12.symm D.TOi2.symm e) (m2.at fun o e=>k3 _ o D.l2z D.l2i1 D.l2TO e) ey fun g4 v n4 sv=>?_);obtain⟨ov,gv,cv⟩:=sv;have z4:IsZip g4 z TI TO .ellipsis:=n4 _ _ D.i2z.symm (n3.extBut _ _ D.TOz.symm (n2.extBut _ _ D.i1z.symm z1));have vz:v≠z:=fun e=>by subst e;rw[z4]at gv;cases gv;simp at cv
   exact wpAny_setField_rec z4 (by simp) fun g5 _ n5=>q g5 v (fun c o c1 c2 c3 c4 e=>n5.extBut _ _ c1 (n4 _ _ c4 (k3 c o c1 c3 c2 e))) ⟨ov,n5.extBut _ _ vz gv,cv⟩
theorem qgs {t:Bool}{z TI TO i1 i2 l1 l2:Addr}{k:Nat}{xs ys:Array Value}{x y a b:Value}{Q:Option Value->Shared->Prop} (D:ZipApart z TI TO i1 i2 l1 l2)
   (gz:IsZip s.heap z TI TO .none) (gI:IsPair s.heap TI (.ref i1) (.ref i2)) (gO:IsPair s.heap TO a b) (j1:itK t s.heap i1 l1 k) (j2:itK t s.heap i2 l2 k) (m1:sqK t s.heap l1 xs) (m2:sqK t s.heap l2 ys) (ex:xs[k]?=some x) (ey:ys[k]?=some y)
   (q:∀ h',IsZip h' z TI TO (rawInt s.heap.objs.size)->IsPair h' TO x y->itK t h' i1 l1 (k+1)->itK t h' i2 l2 (k+1)->IsPair h' s.heap.objs.size x y ->
     (∀ c o,c≠z->c≠TO->c≠i1->c≠i2->s.heap.get? c=some o->h'.get? c=some o)->Q (some (.ref s.heap.objs.size)) { s with heap:=h' }) :
   wpAny (model prog w) A (pyNext (.ref z)) Q E s:=by
 have T:s.TypeIs (.ref z) "zip":=⟨_,gz,rfl⟩
 unfold pyNext
 exact wpAny_bind (wpAny_attempt (wpAny_callSpecial?_slot (name:=Str.ofString "__next__") T F.slot_zip_next (wpAny_call_entry F.slot_zip_next T F.entry_zip_next
   (qh0 D gz gI gO j1 j2 m1 m2 ex ey fun h' c1 c2 c3 c4 c5 c6=>wpAny_pure (q h' c1 c2 c3 c4 c5 c6)) (F.args_zip_next_1 _))))
theorem qis {t:Bool}{z TI TO i1 i2 l1 l2:Addr}{k:Nat}{xs ys:Array Value}{a b:Value}{Q:Option Value->Shared->Prop} (hd:A.handled=none) (D:ZipApart z TI TO i1 i2 l1 l2)
   (gz:IsZip s.heap z TI TO .none) (gI:IsPair s.heap TI (.ref i1) (.ref i2)) (gO:IsPair s.heap TO a b) (j1:itK t s.heap i1 l1 k) (j2:itK t s.heap i2 l2 k) (m1:sqK t s.heap l1 xs) (m2:sqK t s.heap l2 ys) (en:xs[k]?=none∨ys[k]?=none)
   (q:∀ h',(∀ c o,c≠z->c≠TO->c≠i1->c≠i2->s.heap.get? c=some o->h'.get? c=some o)->Q none { s with heap:=h' }):wpAny (model prog w) A (pyNext (.ref z)) Q E s:=by
 have T:s.TypeIs (.ref z) "zip":=⟨_,gz,rfl⟩
 unfold pyNext
 refine wpAny_bind (wpAny_attempt (wpAny_callSpecial?_slot (name:=Str.ofString "__next__") T F.slot_zip_next (wpAny_call_entry F.slot_zip_next T F.entry_zip_next
   (qi9 hd D gz gI gO j1 j2 m1 m2 en fun h' v hk sv=>?_) (F.args_zip_next_1 _))))
 obtain⟨o,go,co⟩:=sv;exact wpAny_bind (wpAny_isInstance (T:="StopIteration") (b:=true) ⟨o,go,co⟩ isSubtype_stop (wpAny_pure (q _ hk)))
end
def itN:Bool->String
 | false=>"list_iterator"
 | true=>"tuple_iterator"
abbrev zk1 (t:Bool) (h:Heap) (u:Addr):Heap:=h.push { cls:=.type (itN t),data:=.fields #[.ref u,.int 0 0] }
abbrev zk3 (t:Bool) (h:Heap) (u v:Addr):Heap:=(zk1 t (zk1 t h u) v).push { cls:=.type "tuple",data:=.seq #[.ref h.objs.size,.ref (zk1 t h u).objs.size] }
abbrev zk4 (t:Bool) (h:Heap) (u v:Addr):Heap:=(zk3 t h u v).push { cls:=.type "tuple",data:=.seq #[.none,.none] }
abbrev zk5 (t:Bool) (h:Heap) (u v:Addr):Heap:=(zk4 t h u v).push { cls:=.type "zip",data:=.fields #[.none,.bool false,.bool false,.ref (zk1 t (zk1 t h u) v).objs.size,.ref (zk3 t h u v).objs.size] }
theorem qi8 (t:Bool) (u v:Addr) (xs ys:Array Value):Meets (Builtin.«zip.__new__» ⟨[.type "zip",.ref u,.ref v],[]⟩) (fun _ R s=>sqK t s.heap u xs∧sqK t s.heap v ys ∧
     R (.ok (.ret (.ref (zk4 t s.heap u v).objs.size))) { s with heap:=zk5 t s.heap u v }) :=
 .of_wp fun prog w A R s h=>by
   obtain⟨hp,g,d,tk,os⟩:=s;obtain⟨m1,m2,h⟩:=h;have hsub:=sub_zip
   cases t with
   | false =>
     have L1:Heap.IsList (Shared.heap ⟨hp,g,d,tk,os⟩) u xs:=m1;have L2:Heap.IsList (Shared.heap ⟨hp.push { cls:=.type "list_iterator",data:=.fields #[.ref u,.int 0 0] },g,d,tk,os⟩) v ys:=Heap.IsList.push m2 _
     wp_walk using wpAny_pyIter_list L1,wpAny_pyIter_list L2
     exact⟨_,rfl,h⟩
   | true =>
     have L1:Heap.IsTuple (Shared.heap ⟨hp,g,d,tk,os⟩) u xs:=m1;have L2:Heap.IsTuple (Shared.heap ⟨hp.push { cls:=.type "tuple_iterator",data:=.fields #[.ref u,.int 0 0] },g,d,tk,os⟩) v ys:=Heap.IsTuple.push m2 _
     wp_walk using wpAny_pyIter_tuple L1,wpAny_pyIter_tuple L2
     exact⟨_,rfl,h⟩
section
variable {prog:Program}{w:World}{A:Around}{E:Value->Shared->Prop}{s:Shared}
theorem itK.new {t:Bool}{h:Heap}{j u:Addr} (g:h.get? j=some { cls:=.type (itN t),data:=.fields #[.ref u,.int 0 0] }):itK t h j u 0:=by
 cases t with
 | false=>exact⟨_,g,rfl,rfl⟩
 | true=>exact⟨_,g,rfl,rfl⟩
theorem qfO {t:Bool}{u v:Addr}{xs ys:Array Value}{Q:Value->Shared->Prop} (m1:sqK t s.heap u xs) (m2:sqK t s.heap v ys)
   (q:∀ h',IsZip h' (s.heap.objs.size+4) (s.heap.objs.size+2) (s.heap.objs.size+3) .none->IsPair h' (s.heap.objs.size+2) (.ref s.heap.objs.size) (.ref (s.heap.objs.size+1)) ->
     IsPair h' (s.heap.objs.size+3) .none .none->itK t h' s.heap.objs.size u 0->itK t h' (s.heap.objs.size+1) v 0->(∀ c o,s.heap.get? c=some o->h'.get? c=some o)->Q (.ref (s.heap.objs.size+4)) { s with heap:=h' }) :
   wpAny (model prog w) A (call (.type "zip") [.ref u,.ref v]) Q E s:=by
 refine callType_new F.called_zip (by decide) (F.typeCall_zip_2 _ _) (F.newCall_zip_2 _ _) (fun obj=>F.args_object_init_3 obj _ _) F.entry_zip_new (qi8 t u v xs ys) ⟨m1,m2,?_⟩;have y1:(zk1 t s.heap u).objs.size=s.heap.objs.size+1:=Heap.size_push ..;have y2:(zk1 t (zk1 t s.heap u) v).objs.size=s.heap.objs.size+2:=by rw[Heap.size_push,y1]
 have y3:(zk3 t s.heap u v).objs.size=s.heap.objs.size+3:=by rw[Heap.size_push,y2]
 have y4:(zk4 t s.heap u v).objs.size=s.heap.objs.size+4:=by rw[Heap.size_push,y3]
 have f5:(zk5 t s.heap u v).get? (zk4 t s.heap u v).objs.size=some _:=Heap.get?_push_size _ rfl;have f4:(zk5 t s.heap u v).get? (zk3 t s.heap u v).objs.size=some _:=Heap.get?_push_of_some _ (Heap.get?_push_size _ rfl);have f3:(zk5 t s.heap u v).get? (zk1 t (zk1 t s.heap u) v).objs.size=some _:=Heap.get?_push_of_some _ (Heap.get?_push_of_some _ (Heap.get?_push_size _ rfl));have f2:(zk5 t s.heap u v).get? (zk1 t s.heap u).objs.size=some _:=Heap.get?_push_of_some _ (Heap.get?_push_of_some _ (Heap.get?_push_of_some _ (Heap.get?_push_size _ rfl)));have f1:(zk5 t s.heap u v).get? s.heap.objs.size=some _:=Heap.get?_push_of_some _ (Heap.get?_push_of_some _ (Heap.get?_push_of_some _ (Heap.get?_push_of_some _ (Heap.get?_push_size _ rfl))));show _∧_;rw[y2,y3,y4]at f5;rw[y1,y2]at f3;rw[y3]at f4;rw[y1]at f2;rw[y4];exact⟨⟨_,f5,rfl⟩,q _ f5 f3 f4 (.new f1) (.new f2) fun c o e=>Heap.get?_push_of_some _ (Heap.get?_push_of_some _ (Heap.get?_push_of_some _ (Heap.get?_push_of_some _ (Heap.get?_push_of_some _ e))))⟩
end
def SqK (K:Frag):Bool->Hp->Addr->List V->Prop
 | false=>SqL K
 | true=>SqT K
def Itz (K:Frag) (t:Bool) (a b:Addr):It :=
 ⟨fun i H=>∃ xs ys x y,SqK K t H a xs∧SqK K t H b ys∧xs[i]?=some x∧ys[i]?=some y,
  fun i H v H'=>∃ p x y,H p=none∧v=.ref p∧(∀ xs ys,SqK K t H a xs->SqK K t H b ys->xs[i]?=some x∧ys[i]?=some y)∧H'=upd H p (.tup [x,y]),
  fun i H=>∃ xs ys,SqK K t H a xs∧SqK K t H b ys∧(xs.length≤i∨ys.length≤i)⟩
section
variable {X:Cx}{pins:List (Addr×Obj)}{σ:St}{H:Hp}{s:Shared}
theorem Inv.seqK {t:Bool}{a:Addr}{xs:List V} (I:Inv X pins σ H s) (h:SqK X.K t H a xs):∃ its:List Value,Vals xs its∧sqK t s.heap a its.toArray∧xs.length≤sizeLine:=by
 cases t with
 | false =>
   obtain⟨its,rv,p,z⟩:=I.list h;exact⟨its,rv,p.isList,z⟩
 | true=>exact I.tuple h
theorem Inv.seqK_inj {t:Bool}{a:Addr}{xs ys:List V} (I:Inv X pins σ H s) (h:SqK X.K t H a xs) (h':SqK X.K t H a ys):xs=ys:=by
 cases t with
 | false=>exact I.list_inj h h'
 | true=>exact I.tuple_inj h h'
end
structure ZSt (t:Bool) (z TI TO i1 i2 a b:Addr) (i:Nat) (h:Heap):Prop where
 gz:IsZip h z TI TO .none
 gI:IsPair h TI (.ref i1) (.ref i2)
 gO:∃ u v,IsPair h TO u v
 j1:itK t h i1 a i
 j2:itK t h i2 b i
theorem qgg {P:Program}{w:World}{K:Frag}{elts:List Expr}{k:Nat}{pos:Pos}{t:Bool} (z TI TO i1 i2 a b:Addr) (D:ZipApart z TI TO i1 i2 a b) :
   qiZ P w K (.Tuple elts k pos) (Itz K t a b) [z,TI,TO,i1,i2] z (ZSt t z TI TO i1 i2 a b) where
 mem:=by simp
 obj:=fun i h st c hc=>by
   obtain⟨gz,gI,⟨u,v,gO⟩,j1,j2⟩:=st;simp only[List.mem_cons,List.not_mem_nil,or_false]at hc;rcases hc with rfl|rfl|rfl|rfl|rfl
   · exact⟨_,gz,fun v e=>by cases e⟩
   · exact⟨_,gI,fun v e=>by cases e⟩
   · exact⟨_,gO,fun v e=>by cases e⟩
   · obtain⟨o,g,d⟩:=j1.get;exact⟨o,g,fun v e=>by rw[d]at e;cases e⟩
   · obtain⟨o,g,d⟩:=j2.get;exact⟨o,g,fun v e=>by rw[d]at e;cases e⟩
 keep:=fun i h h' st kk=>by
   obtain⟨gz,gI,⟨u,v,gO⟩,j1,j2⟩:=st;exact⟨kk z (by simp) _ gz,kk TI (by simp) _ gI,⟨u,v,kk TO (by simp) _ gO⟩,j1.at fun o e=>kk i1 (by simp) o e,j2.at fun o e=>kk i2 (by simp) o e⟩
 item:=by
   intro X hP hw hK hc i pins s σ H E I hf st hg;subst hP hw hK;obtain⟨xs,ys,x,y,hq,hq2,hx,hy⟩:=hg;obtain⟨its,rv,p,hz⟩:=I.seqK hq;obtain⟨its2,rv2,p2,hz2⟩:=I.seqK hq2;obtain⟨u,hu,ru⟩:=rv.get hx;obtain⟨u2,hu2,ru2⟩:=rv2.get hy;obtain⟨gz,gI,⟨_,_,gO⟩,j1,j2⟩:=st;refine qgs (t:=t) D gz gI gO j1 j2 p p2 (x:=u) (y:=u2) (by simpa using hu) (by simpa using hu2) fun h1 w1 w2 w3 w4 w5 hk=>?_;refine⟨_,rfl,wpAny_letOwnedTupleGo_zip (s:={ s with heap:=h1 }) w1 fun h2 gz2 hs2=>?_⟩;have lz:z < s.heap.objs.size:=Heap.lt_size gz;have lI:TI < s.heap.objs.size:=Heap.lt_size gI;have lO:TO < s.heap.objs.size:=Heap.lt_size gO;have l1:i1 < s.heap.objs.size:=by obtain⟨o,g,_⟩:=j1.get;exact Heap.lt_size g
   have l2:i2 < s.heap.objs.size:=by obtain⟨o,g,_⟩:=j2.get;exact Heap.lt_size g
   have T2:h2.get? s.heap.objs.size=some { cls:=.type "tuple",data:=.seq #[u,u2] }:=(hs2.2 _ (Nat.ne_of_gt lz)).trans w5
   have I1:Inv X pins σ (upd H s.heap.objs.size (.tup [x,y])) { s with heap:=h2,toks:=s.toks }:=by
     refine I.turnLaid (ch:=[z,TI,TO,i1,i2]) (fun c o hc q=>?_) hf (Nat.le_refl _) ⟨by show 2≤sizeLine;decide,[u,u2],.cons ru (.cons ru2 .nil),⟨_,T2,rfl,_,rfl⟩⟩;have c1:c≠z:=fun e=>hc (by simp[e]);exact(hs2.2 c c1).trans (hk c o c1 (fun e=>hc (by simp[e])) (fun e=>hc (by simp[e])) (fun e=>hc (by simp[e])) q)
   refine⟨.ref s.heap.objs.size,_,I1,rfl,⟨_,x,y,I.hok.fresh (Nat.le_refl _),rfl,fun ys1 ys2 q1 q2=>by rw[I.seqK_inj q1 hq,I.seqK_inj q2 hq2];exact⟨hx,hy⟩,rfl⟩,?_,fun c hc=>?_⟩
   · exact⟨gz2,(hs2.2 _ D.TIz).trans (hk _ _ D.TIz D.TITO D.TIi1 D.TIi2 gI),⟨_,_,(hs2.2 _ D.TOz).trans w2⟩,w3.at fun o e=>(hs2.2 _ D.i1z).trans e,w4.at fun o e=>(hs2.2 _ D.i2z).trans e⟩
   · have hcl:c < s.heap.objs.size:=by
       simp only[List.mem_cons,List.not_mem_nil,or_false]at hc;rcases hc with rfl|rfl|rfl|rfl|rfl<;>assumption
     rw[qi (Nat.ne_of_lt hcl)];exact(hf c hc).1
 done:=by
   intro X hP hw hK hc i pins s σ H E I hf st hg;subst hP hw hK;obtain⟨xs,ys,hq,hq2,hx⟩:=hg;obtain⟨its,rv,p,hz⟩:=I.seqK hq;obtain⟨its2,rv2,p2,hz2⟩:=I.seqK hq2;obtain⟨gz,gI,⟨_,_,gO⟩,j1,j2⟩:=st;have e1:=rv.length;have e2:=rv2.length;refine qis (t:=t) (I.ok.hd hc) D gz gI gO j1 j2 p p2 (by simp;omega) fun h' hk=>⟨rfl,I.turnL (t':=s.toks) (ch:=[z,TI,TO,i1,i2]) (fun c o hc q=>hk c o (fun e=>hc (by simp[e])) (fun e=>hc (by simp[e])) (fun e=>hc (by simp[e])) (fun e=>hc (by simp[e])) q) hf⟩
 self:=fun _ _ _ _ _ st h=>wpAny_pyIter_zip st.gz h
theorem qfT:bootBuiltins "zip"=some (.type "zip"):=by decide +kernel
inductive qhP (K:Frag) (R:(It->Hp->Prop)) (vs:List V) (H1:Hp):Prop
 | mk (t a b:_) (h1:vs=[.ref a,.ref b]) (h2:(∃ xs,SqK K t H1 a xs)) (h3:(∃ ys,SqK K t H1 b ys)) (h4:R (Itz K t a b) H1):qhP K R vs H1
def qlT (K:Frag) (ta:TA):TI:=fun σ H R=>ta σ H fun vs H1=>qhP K R vs H1
section
variable {X:Cx}
theorem qeQ {e1 e2:Expr}{ta:TA}{p pos tp:Pos}{elts:List Expr}{kk:Nat} (hg:Gl X "zip") (hm:X.mg "zip"=none) (ha:PA X [e1,e2] ta) (hs:starEach [e1,e2] X.env=(false,eval e1 X.env)::starEach [e2] X.env:=by rfl)
   (hpl:(backTo pos (starEach [e2] X.env)).any (·.1)=false:=by rfl):PI X (.Tuple elts kk tp) (.Call (.Name "zip" p) [e1,e2] [] pos) (qlT X.K ta):=by
 intro pins s σ H R I h;refine Call_ (Q0 I hg hm qfT (PyProof.Rows.callWith_type1 (thn (ha pos pins s σ H _ I h) fun us s1 zz_=>?_) hs hpl));obtain⟨vs,H1,I1,r1,q1⟩:=zz_;obtain⟨t,a,b,e,⟨xs,hq⟩,⟨ys,hq2⟩,q⟩:=q1;subst e;obtain⟨u,v,rfl,ru,rv⟩:=qcj r1;cases ru;cases rv;obtain⟨its,rv,pl,hz⟩:=I1.seqK hq;obtain⟨its2,rv2,pl2,hz2⟩:=I1.seqK hq2;refine qfO (t:=t) pl pl2 fun h' gz gI gO j1 j2 hk=>?_;have I2:Inv X pins σ H1 { s1 with heap:=h' }:=I1.kept (t':=s1.toks) hk;have la:=pl.lt;have lb:=pl2.lt
 have D:ZipApart (s1.heap.objs.size+4) (s1.heap.objs.size+2) (s1.heap.objs.size+3) s1.heap.objs.size (s1.heap.objs.size+1) a b:=by
   constructor<;>(intro h;have h':=@id (@Eq Nat _ _) h;clear h;revert la lb h';exact fun (la:@LT.lt Nat _ _ _) (lb:@LT.lt Nat _ _ _) h'=>by omega)
 refine wpAny_pyIter_zip gz ⟨s1.heap.objs.size+4,_,_,Itz X.K t a b,H1,rfl,I2,qgg _ _ _ _ _ _ _ D,⟨gz,gI,⟨_,_,gO⟩,j1,j2⟩,fun c hc=>?_,q⟩
 have hc1:s1.heap.objs.size≤c:=by
   simp only[List.mem_cons,List.not_mem_nil,or_false]at hc;rcases hc with rfl|rfl|rfl|rfl|rfl<;>omega
 exact I1.fpOk hc1 (I1.hok.fresh hc1)
end
theorem qdF {K:Frag}{t:Bool}{a b:Addr}{xs ys:List V}{g:TG}{tt:TT}{te:TE}{D:Addr}{Q:VK}{σ0:St}{H0:Hp} (Pv:Nat->St->Hp->Prop) (he:xs.length=ys.length) (h0:Pv 0 σ0 H0)
   (hl:∀ i σ H,i≤xs.length->Pv i σ H->SqK K t H a xs∧SqK K t H b ys)
   (hs:∀ i x y σ H p,xs[i]?=some x->ys[i]?=some y->Pv i σ H->H p=none->g (.ref p) σ (upd H p (.tup [x,y])) fun σ3 H3=>tt σ3 H3 fun ok H4=>if ok=true then te σ3 H4 fun v H5=>∃ zs,H5 D=some (.lst zs)∧zs.length < sizeLine∧Pv (i+1) σ3 (upd H5 D (.lst (zs++[v]))) else Pv (i+1) σ3 H4)
   (hd:∀ σ H,Pv xs.length σ H->Q (.ref D) H):ZC (Itz K t a b) g tt te D Q σ0 H0:=by
 refine⟨fun i m σ H=>m=xs.length - i∧i≤xs.length∧Pv i σ H,⟨xs.length,by simp,Nat.zero_le _,h0⟩,?_⟩;rintro i m σ H ⟨rfl,hi,p⟩;obtain⟨q1,q2⟩:=hl i σ H hi p;by_cases hlt:i < xs.length
 · have hlt2:i < ys.length:=by omega
   refine .inr ⟨⟨xs,ys,xs[i],ys[i],q1,q2,by simp[hlt],by simp[hlt2]⟩,Pv (i+1),fun σ' H' p'=>⟨xs.length - (i+1),by omega,rfl,hlt,p'⟩,fun x H' y=>?_⟩;obtain⟨c,u,v,hn,rfl,z,rfl⟩:=y;obtain⟨z1,z2⟩:=z xs ys q1 q2;exact hs i u v σ _ c z1 z2 p hn
 · have e:i=xs.length:=by omega
   subst e;exact .inl ⟨⟨xs,ys,q1,q2,.inl (Nat.le_refl _)⟩,hd σ H p⟩
theorem Same.put {G H:Hp}{p:Addr} (s:Same G H) (n:G p=none) (o:HO):Same G (upd H p o):=fun c u e=>by rw[qi (qh e n)];exact s c u e
theorem Same.none {G H:Hp}{p:Addr} (s:Same G H) (n:H p=none):G p=none:=by
 cases e:G p with
 | none=>rfl
 | some o=>rw[s p o e]at n;cases n
theorem But.none {H H':Hp}{p q:Addr} (b:But p H H') (n:H' q=none) (h:q≠p):H q=none:=by
 cases e:H q with
 | none=>rfl
 | some o=>rw[b q o e h]at n;cases n
def cut (H:Hp) (ts:List Addr):Hp:=fun b=>if b∈ts then none else H b
theorem J1 {H:Hp}{ts:List Addr}{b:Addr} (h:b∈ts):cut H ts b=none:=by unfold cut;rw[if_pos h]
theorem Qv {H:Hp}{ts:List Addr}{b:Addr} (h:b∉ts):cut H ts b=H b:=by unfold cut;rw[if_neg h]
theorem qaX {α:Type}{xs:List α}{x y:α}{i:Nat} (h:(xs++[x])[i]?=some y):xs[i]?=some y∨(i=xs.length∧y=x):=by
 rw[List.getElem?_append]at h;by_cases hi:i < xs.length
 · rw[if_pos hi]at h;exact .inl h
 · rw[if_neg hi]at h
   have e:i - xs.length=0:=by
     cases n:i - xs.length with
     | zero=>rfl
     | succ k=>rw[n]at h;simp at h
   rw[e]at h;exact .inr ⟨by omega,by simpa using h.symm⟩
def qll (K:Frag):List V->Hp->VK->Prop:=fun xs H Q=>∃ p ys,xs=[.ref p]∧(SqL K H p ys∨SqT K H p ys)∧∀ l,H l=none->Q (.ref l) (upd H l (.lst ys))
section
variable {X:Cx}
theorem qcr {i:Nat}{x:Str}{pos' pos:Pos}{elt iter tg:Expr}{ifs:List Expr}{scope:Scope}{cpos:Pos}{wi:TI}{g:TG}{tt:TT}{te:TE}{N:List Str}{cl:List (Str×Addr)}{js:List (Option Nat)} (hN:X.N.Nodup) (hi0:X.N[i]?=some x) (hx:Loc X.env.scope x)
   (hc:X.calm=true) (k:CompOk X scope N cl js) (hi:PI X tg iter wi)
   (hg:∀ C s₀ H₀ ex pn,PG (qN X scope N cl C s₀ H₀ ex pn) tg g) (ht:∀ C s₀ H₀ ex pn,PTs (qN X scope N cl C s₀ H₀ ex pn) ifs tt) (he:∀ C s₀ H₀ ex pn,PE (qN X scope N cl C s₀ H₀ ex pn) elt te)
   (hsw:swapsWith (.ListComp elt [⟨tg,iter,ifs,0⟩] scope cpos) (some (.Name x pos')) pos.line X.env=pure true:=by rfl)
   (hf:X.fn x=true∨X.env.scope.names.lookup x=some .local:=by first|exact .inl rfl|exact .inr rfl|assumption)
   (hs:∀ x,foldedSetIterable iter X.env x=pure x:=by intro _;rfl) :
   PS X (.Assign [.Name x pos'] (.ListComp elt [⟨tg,iter,ifs,0⟩] scope cpos) pos) (qkC (qjr wi g tt te js) (qiO i)):=by
 intro pins s σ H D0 I h;rw[exec_Assign_Name_used _ _ _ _ hsw];refine wpAny_bind (wpAny_standAt (wpAny_bind ?_));show wpAny _ X.A (do let _ ← comprehension (.ListComp elt [⟨tg,iter,ifs,0⟩] scope cpos) scope X.env _ (newList []) false (eval iter X.env) (some (assign (.Name x pos') X.env))) _ _ s;refine wpAny_bind (wpAny_mono (wpAny_comprehension_free (use:=some (assign (.Name x pos') X.env)) (Q:=fun _ s'=>∃ σ' H',Inv X pins σ' H' s'∧D0.nx σ' H') rfl hs k.clos k.kind k.names ?_) (fun _ s' hq=>wpAny_pure (wpAny_pure hq)) fun _ _ e=>e);refine thn (hi pins s σ H _ I h) fun v s1 h1=>thn h1 fun itv s2 h2=>?_;obtain⟨it,fp,tn,J,H2,e,I2,T,st2,f2,hD⟩:=h2;subst e;refine wpAny_newObj_type (wpAny_newFunctionEnv k.cell (by intro y hy;simp at hy) (fun h₁ hns₁ hsb₁=>?_) k.kind);dsimp only at hns₁ hsb₁ ⊢;generalize hH2:s2.heap.push { cls:=.type "list",dict:=none,data:=.seq ([]:List Value).toArray }=P2 at hns₁ hsb₁ ⊢;have hC:P2.objs.size=s2.heap.objs.size+1:=by rw[← hH2,Heap.size_push]
 have hDC:s2.heap.objs.size≠P2.objs.size:=by rw[hC];exact Nat.ne_of_lt (Nat.lt_succ_self _)
 have hCle:s2.heap.objs.size≤P2.objs.size:=by rw[hC];exact Nat.le_succ _
 have old:∀ b o,s2.heap.get? b=some o->h₁.get? b=some o:=fun b o e=>hsb₁.extBut b o (Nat.ne_of_lt (Nat.lt_of_lt_of_le (Heap.lt_size e) hCle)) (Heap.get?_push_of_some _ (hH2▸Heap.get?_push_of_some _ e));have hacc:h₁.get? s2.heap.objs.size=some { cls:=.type "list",data:=.seq ([]:List Value).toArray }:=hsb₁.extBut _ _ hDC (Heap.get?_push_of_some _ (hH2▸Heap.get?_push_size _ rfl))
 have hfl:∀ b∈fp,b < s2.heap.objs.size:=fun b hb=>by
   obtain⟨o,e,_⟩:=T.obj _ _ st2 b hb;exact Heap.lt_size e
 have fD:H2 s2.heap.objs.size=none:=I2.hok.fresh (Nat.le_refl _);obtain⟨W,⟨m0,w0⟩,turn⟩:=hD _ fD
 have IX:Inv (qN X scope N cl P2.objs.size s2 H2 fp (X.pn++pins)) [] (st0 js σ) (upd H2 s2.heap.objs.size (.lst [])) { s2 with heap:=h₁,toks:=s2.toks+([]:List (Str×Value)).length } :=
   qdG k I2 f2 hfl (Nat.le_refl _) hCle hDC hns₁ hacc old
 have hg':=hg P2.objs.size s2 H2 fp (X.pn++pins);have ht':=ht P2.objs.size s2 H2 fp (X.pn++pins);have he':=he P2.objs.size s2 H2 fp (X.pn++pins)
 have stat:∀ {H':Hp},(∀ b∈fp,H' b=none)->∀ b∈fp,qd8 (qN X scope N cl P2.objs.size s2 H2 fp (X.pn++pins)) [] H' b:=fun hn b hb=>by
   obtain⟨g0,g1,g2,g3,g4,g5⟩:=f2 b hb;refine⟨hn b hb,Nat.ne_of_lt (Nat.lt_of_lt_of_le (hfl b hb) hCle),fun z=>?_,.inl hb,fun x c h=>g4 x c (k.sub _ _ h),fun p hp=>g5 p (by simpa[qN] using hp)⟩;rcases List.mem_cons.mp (I2.stkSub b z) with e|e
   · exact g1 e
   · exact g2 e
 have loop:∀ s₃:Shared,s₃={ s2 with heap:=h₁,toks:=s2.toks+([]:List (Str×Value)).length } ->
     codeAny (model X.prog X.w) X.A (.compLoop (.ListComp elt [⟨tg,iter,ifs,0⟩] scope cpos) 0 (.ref it) (.ref s2.heap.objs.size) (compEnvC scope cl P2.objs.size X.env))
       (compPost (model X.prog X.w) X.A X.xe (some (assign (.Name x pos') X.env)) (fun _ s'=>∃ σ' H',Inv X pins σ' H' s'∧D0.nx σ' H') (.ref s2.heap.objs.size) P2.objs.size) s₃:=by
   rintro s₃ rfl;refine J6 (fun n s'=>∃ i σ' H',Inv (qN X scope N cl P2.objs.size s2 H2 fp (X.pn++pins)) [] σ' H' s'∧tn i s'.heap∧(∀ b∈fp,H' b=none)∧W i n σ' H') ?_ m0
     ⟨0,st0 js σ,_,IX,T.keep _ _ _ st2 (fun b hb o e=>old b o e),fun b hb=>by rw[qi (Nat.ne_of_lt (hfl b hb))];exact(f2 b hb).1,w0⟩
   rintro n s3 ⟨i,σ3,H3,I3,st3,fr3,w3⟩;rcases turn i n σ3 H3 w3 with ⟨stop,qn⟩|⟨go,N2,hN,step⟩
   · refine thn (T.done (qN X scope N cl P2.objs.size s2 H2 fp (X.pn++pins)) rfl rfl rfl hc i [] s3 σ3 H3 noE I3 (stat fr3) st3 stop) fun r s4 ⟨hr,I4⟩=>?_;subst hr;obtain⟨m4,hn4,_⟩:=id I4.loc;have u4:Un (frs X.stack) fp H2 H3 s2.heap s4.heap:=I4.base;have fC:H3 P2.objs.size=none:=I4.free
     have I6:Inv X pins σ H3 s4:=I2.call' (s':=s4) I4.os u4 I4.hok I4.bare fun b hb=>by
       obtain⟨g0,g1,g2,g3,g4,g5⟩:=f2 b hb;exact⟨g3,g1,g4,g5⟩
     have fpC:qd8 X pins H3 P2.objs.size:=I2.fpOk hCle fC;have hn4':s4.heap.Ns P2.objs.size m4:=hn4;obtain⟨oC,esC,epC,gC,rC⟩:=id hn4';have I7:=I6.pinned (fp:=[P2.objs.size]) (fun b hb=>by rw[show b=P2.objs.size by simpa using hb];exact fpC) (fun b hb=>⟨oC,by rw[show b=P2.objs.size by simpa using hb];exact gC,fun v z=>by rw[rC.1]at z;cases z⟩);show wpAny _ X.A (assign (.Name x pos') X.env (.ref s2.heap.objs.size)) _ _ s4;refine wpAny_assign_Name (Zv I7 hN hi0 hx (v:=.ref s2.heap.objs.size) rfl (fun s5 I8=>?_) hf);have g5:=(I8.pin (P2.objs.size,oC) (List.mem_append_right _ (List.mem_append_right _ (zE (by simp) gC)))).1;refine⟨m4,hn4'.at' (fun o e=>by rw[gC]at e;cases e;exact g5),fun h' hsb=>⟨_,H3,?_,qn⟩⟩;exact I8.unpinned.turnL (t':=s5.toks) (ch:=[P2.objs.size]) (fun b o hb e=>hsb.extBut b o (fun z=>hb (by simp[z])) e) (fun b hb=>by rw[show b=P2.objs.size by simpa using hb];exact fpC)
   · refine thn (T.item (qN X scope N cl P2.objs.size s2 H2 fp (X.pn++pins)) rfl rfl rfl hc i [] s3 σ3 H3 noE I3 (stat fr3) st3 go) fun r s4 ⟨u,hr,h4⟩=>?_;subst hr;refine thn h4 fun _ s5 zz_=>?_;obtain⟨x,H5,I5,r5,y5,st5,fr5⟩:=zz_;have I5':=I5.pinned (stat fr5) (T.obj _ _ st5);refine thn (hg' _ s5 σ3 H5 x u _ I5' r5 (step x H5 y5)) fun _ s6 zz_=>?_;obtain⟨σ6,H6,I6,q6⟩:=zz_;refine thn (ht' _ s6 σ6 H6 _ I6 q6) fun ok s7 zz_=>?_;obtain⟨H7,I7,q7⟩:=zz_;have again:∀ {s8:Shared}{σ8:St}{H8:Hp},Inv (qN X scope N cl P2.objs.size s2 H2 fp (X.pn++pins)) ([]++qaF fp s5.heap) σ8 H8 s8->N2 σ8 H8 ->
         ∃ m,m < n∧∃ i σ' H',Inv (qN X scope N cl P2.objs.size s2 H2 fp (X.pn++pins)) [] σ' H' s8∧tn i s8.heap∧(∀ b∈fp,H' b=none)∧W i m σ' H':=fun {s8 σ8 H8} I8 n8=>by
       obtain⟨m',hm,w8⟩:=hN σ8 H8 n8;refine⟨m',hm,i+1,σ8,H8,I8.unpinned,T.keep _ _ _ st5 fun b hb o e=>(I8.pin (b,o) (List.mem_append_right _ (List.mem_append_right _ (zE hb e)))).1,fun b hb=>?_,w8⟩;obtain⟨o,e,d⟩:=T.obj _ _ st5 b hb;exact(I8.pin (b,o) (List.mem_append_right _ (List.mem_append_right _ (zE hb e)))).2.1
     cases ok with
     | false=>exact again I7 (by simpa using q7)
     | true =>
       have q7':te σ6 H7 fun y H5=>∃ ys,H5 s2.heap.objs.size=some (.lst ys)∧ys.length < sizeLine∧N2 σ6 (upd H5 s2.heap.objs.size (.lst (ys++[y]))):=by simpa using q7
       refine thn (he' _ s7 σ6 H7 _ I7 q7') fun xv s8 zz_=>?_;obtain⟨y,H8,I8,r8,ys,hy,hlen,n8⟩:=zz_;refine thn (Qf (X:=qN X scope N cl P2.objs.size s2 H2 fp (X.pn++pins)) _ s8 σ6 H8 (.ref s2.heap.objs.size) [y] (.ref s2.heap.objs.size) [xv] (fun _ H9=>N2 σ6 H9) I8 rfl (.cons r8 .nil) ⟨_,ys,y,rfl,rfl,hy,hlen,n8⟩) fun _ s9 ⟨_,H9,I9,_,n9⟩=>again I9 n9
 exact codeAny_compStart_list (loop _ rfl) (T.self _ 0 _ _ _ (T.keep _ _ _ st2 (fun b hb o e=>old b o e)) (loop _ rfl))
end
theorem zH {t u:TS}{D:qd9}{σ:St}{H:Hp} (Post:St->Hp->Prop) (h1:∀ N:St->Hp->Prop,(∀ σ' H',Post σ' H'->N σ' H')->t { D with nx:=N } σ H) (h2:∀ σ' H',Post σ' H'->u D σ' H'):qld t u D σ H:=h1 (u D) h2
inductive qf4 (H:Hp) (p:Addr):Prop
 | mk (c x y:Int) (h1:0≤c) (h2:H p=some (.lst [.int c,.int x,.int y])):qf4 H p
def PenAt (H:Hp) (p:Addr):Prop:=qf4 H p
theorem PenAt.ne {H:Hp}{p q:Addr} (h:PenAt H p) (hq:H q=none):q≠p:=by
 obtain⟨c,x,y,_,e⟩:=h;exact(qh e hq).symm
theorem PenAt.upd {H:Hp}{p q:Addr} (h:PenAt H p) (n:q≠p) (o:HO):PenAt (L2.upd H q o) p:=by
 obtain⟨c,x,y,k,e⟩:=h;exact⟨c,x,y,k,by rw[qi n.symm];exact e⟩
inductive qkb {β:Type} (f:β->List V) (H:Hp) (ps:List β) (i:Nat) (z:V):Prop
 | mk (p:β) (t:Addr) (h1:ps[i]?=some p) (h2:z=.ref t) (h3:H t=some (.tup (f p))):qkb f H ps i z
inductive qkc {β:Type} (f:β->List V) (H:Hp) (zs:List V) (i:Nat) (p:β):Prop
 | mk (t:Addr) (h1:zs[i]?=some (.ref t)) (h2:H t=some (.tup (f p))):qkc f H zs i p
def TupL {β:Type} (f:β->List V) (H:Hp) (zs:List V) (ps:List β):Prop:=zs.length=ps.length∧∀ (i:Nat) z p,zs[i]?=some z->ps[i]?=some p->∃ t,z=.ref t∧H t=some (.tup (f p))
section
variable {β:Type}{f:β->List V}{H H':Hp}{zs:List V}{ps:List β}
theorem TupL.nil:TupL f H [] []:=⟨rfl,fun i z p e=>by simp at e⟩
theorem TupL.same (h:TupL f H zs ps) (s:Same H H'):TupL f H' zs ps:=⟨h.1,fun i z p e1 e2=>by
 obtain⟨t,e,q⟩:=h.2 i z p e1 e2
 exact⟨t,e,s _ _ q⟩⟩
theorem TupL.put {q:Addr}{xs ys:List V} (h:TupL f H zs ps) (hq:H q=some (.lst xs)):TupL f (upd H q (.lst ys)) zs ps:=⟨h.1,fun i z y e1 e2=>by
 obtain⟨t,e,r⟩:=h.2 i z y e1 e2
 exact⟨t,e,by rw[qi (zd r hq (by intro z;cases z))];exact r⟩⟩
theorem TupL.snoc {t:Addr}{p:β} (h:TupL f H zs ps) (q:H t=some (.tup (f p))):TupL f H (zs++[.ref t]) (ps++[p]):=⟨by rw[List.length_append,List.length_append,h.1];rfl,fun i z y e1 e2=>by
 rcases qaX e1 with e|⟨ei,e⟩
 · rcases qaX e2 with e'|⟨ei',_⟩
   · exact h.2 i z y e e'
   · have:=(List.getElem?_eq_some_iff.mp e).1
     rw[ei',← h.1]at this;exact absurd this (Nat.lt_irrefl _)
 · rcases qaX e2 with e'|⟨_,e'⟩
   · have:=(List.getElem?_eq_some_iff.mp e').1
     rw[ei,h.1]at this;exact absurd this (Nat.lt_irrefl _)
   · exact⟨t,e,e'▸q⟩⟩
theorem TupL.at_ (h:TupL f H zs ps) {i:Nat}{p:β} (e:ps[i]?=some p):qkc f H zs i p:=by
 have hi:i < zs.length:=by rw[h.1];exact(List.getElem?_eq_some_iff.mp e).1
 obtain⟨t,et,q⟩:=h.2 i _ p (List.getElem?_eq_getElem hi) e;exact⟨t,by rw[List.getElem?_eq_getElem hi,et],q⟩
theorem TupL.of (h:TupL f H zs ps) {i:Nat}{z:V} (e:zs[i]?=some z):qkb f H ps i z:=by
 have hi:i < ps.length:=by rw[← h.1];exact(List.getElem?_eq_some_iff.mp e).1
 obtain⟨t,et,q⟩:=h.2 i z _ e (List.getElem?_eq_getElem hi);exact⟨_,t,List.getElem?_eq_getElem hi,et,q⟩
end
theorem qfF {H:Hp}:∀ (ns:List Int),DVs H (ns.map V.int) (ns.map PyData.int)
 | []=>.nil
 | n::r=>.cons (.int n) (qfF r)
theorem qdt:∀ (ns:List Int),PyData.canLayAll0 (ns.map PyData.int)=true∧PyData.depthAll (ns.map PyData.int)≤1
 | []=>⟨rfl,by simp[PyData.depthAll]⟩
 | n::r=>by
   obtain⟨h1,h2⟩:=qdt r;refine⟨by simp[PyData.canLayAll0,PyData.canLay0,h1],?_⟩;simp only[List.map_cons,PyData.depthAll,PyData.depth];omega
theorem qcG {β:Type}{g:β->List Int}{H:Hp}:∀ {zs:List V}{ps:List β},TupL (fun p=>(g p).map V.int) H zs ps->DVs H zs (ps.map fun p=>PyData.tuple ((g p).map PyData.int))
 | [],[],_=>.nil
 | z::zs,p::ps,h=>by
   obtain⟨t,e,q⟩:=h.2 0 z p rfl rfl;subst e;refine .cons (.tup (.inl q) (qfF _)) (qcG ⟨by simpa using h.1,fun i z p e1 e2=>h.2 (i+1) z p (by simpa using e1) (by simpa using e2)⟩)
 | [],_::_,h=>by simp[TupL]at h
 | _::_,[],h=>by simp[TupL]at h
theorem qds {β:Type}{g:β->List Int}:∀ (ps:List β),PyData.canLayAll0 (ps.map fun p=>PyData.tuple ((g p).map PyData.int))=true∧PyData.depthAll (ps.map fun p=>PyData.tuple ((g p).map PyData.int))≤2
 | []=>⟨rfl,by simp[PyData.depthAll]⟩
 | p::r=>by
   obtain⟨h1,h2⟩:=qds (g:=g) r;obtain⟨h3,h4⟩:=qdt (g p);refine⟨?_,?_⟩
   · simp only[List.map_cons,PyData.canLayAll0,PyData.canLay0,h1,h3];rfl
   · simp only[List.map_cons,PyData.depthAll,PyData.depth];omega
theorem qiz {β:Type}{g:β->List Int}{H:Hp}{a b:Addr}{zs ys:List V}{ps:List β}{Q:VK} (h1:H a=some (.lst zs)) (h2:H b=some (.lst ys)) (t1:TupL (fun p=>(g p).map V.int) H zs ps) (t2:TupL (fun p=>(g p).map V.int) H ys ps) (q:Q (.bl false) H) :
   qik (.ref a) (.ref b) H Q:=by
 have d1:=qcG t1;have d2:=qcG t2;obtain⟨l1,l2⟩:=qds (g:=g) ps;have cl:PyData.canLay0 (.list (ps.map fun p=>PyData.tuple ((g p).map PyData.int)))=true:=by simp only[PyData.canLay0,l1]
 have sh:SeqAt.shaped (.list (ps.map fun p=>PyData.tuple ((g p).map PyData.int)))=true:=by
   unfold SeqAt.shaped;rw[cl,Bool.true_and];refine decide_eq_true ?_;simp only[PyData.depth];omega
 refine .inr ⟨_,_,.lst (.inl h1) d1,.lst (.inl h2) d2,sh,sh,?_⟩;rw[SeqAt.eqv_refl _ cl];exact q
end L2
namespace KC
open PySem L2 PySem.NumText PyProof.Rows
theorem qaT {xs:List V}{i:Int} (h0:0≤i) (h1:i < xs.length):∃ v,atI xs i=some v∧v∈xs:=by
 obtain⟨n,rfl⟩:=Int.eq_ofNat_of_zero_le h0;have hn:n < xs.length:=by omega
 exact⟨xs[n],Zu (List.getElem?_eq_getElem hn),List.getElem_mem hn⟩
end KC
namespace L2
open PySem PySem.Spec PyProof.Rows
open PySem.W (Frag InstAt hasDictIn findIn isFn Looks looks_clsIn typeIn looks_findIn keepIn specialIn mroIn callWith_K methodCall_KW clsIn notCls looks_mroIn check_slot findCls subIn isClsIn)
def ExO (ea C:Addr) (dx:Option Addr) (tb:Value):Heap->Prop:=fun h =>
 ∃ o vs,h.get? ea=some o∧o.cls=.ref C∧o.dict=dx∧o.data=.fields vs∧vs.size=6∧vs[1]?=some tb∧vs[2]?=some Value.none
def TbO (T:Addr):Heap->Prop:=fun h=>∃ o ts,h.get? T=some o∧o.data=.fields ts∧ts[3]?=some Value.none
def XAt (H:Hp) (ea C:Addr) (dx:Option Addr):Prop :=
 ∃ tb,H ea=some (.ext (ExO ea C dx tb))∧(tb=.none∨∃ T,tb=.ref T∧H T=some (.ext (TbO T))∧T≠ea)
theorem qdB {P:Program}{w:World}{H:Hp}{h:Heap}{ea C:Addr}{dx:Option Addr}{tb:Value} (x:ExO ea C dx tb h):ObjOk P w H h ea (.ext (ExO ea C dx tb)):=by
 obtain⟨o,vs,e,r⟩:=id x;exact⟨x,⟨o,e⟩,fun h1 h2 ⟨o',vs',e',r'⟩ k=>⟨o',vs',k _ e',r'⟩⟩
theorem qjh {P:Program}{w:World}{H:Hp}{h:Heap}{T:Addr} (x:TbO T h):ObjOk P w H h T (.ext (TbO T)):=by
 obtain⟨o,vs,e,r⟩:=id x;exact⟨x,⟨o,e⟩,fun h1 h2 ⟨o',vs',e',r'⟩ k=>⟨o',vs',k _ e',r'⟩⟩
section
variable {M:Model}{A:Around}{E:Value->Shared->Prop}{s:Shared}
structure qf6 (L:List Addr) (e:Addr) (oe:Obj) (h h':Heap) (T:Addr) (fl:Value):Prop where
 new:T=h.objs.size
 keep:∀ b o,b≠e->b∉L->h.get? b=some o->h'.get? b=some o
 slot:∀ b o,b≠e->h.get? b=some o->∃ sl,h'.get? b=some { o with slots:=sl }
 exc:h'.get? e=some (oe.mapFields (·.setIfInBounds 1 (.ref T)))
 tb:∃ oT ts,h'.get? T=some oT∧oT.data=.fields ts∧ts[3]?=some fl
theorem qaN {base:Heap}{env:Env}{outer:List Env}{L e:Addr}{oe:Obj}{vs:Array Value}{head:Value}{hadNext:Bool}{Q:Unit->Shared->Prop}
   (hfr:A.frames=some (env::outer)) (hl:s.heap.FunFrames base (env::outer)) (hf:env.frame=some L)
   (he:s.heap.get? e=some oe) (hd:oe.data=.fields vs) (hsz:1 < vs.size)
   (h:∀ h' T,qf6 (frs (env::outer)) e oe s.heap h' T (rawInt L)->Q () { s with heap:=h' }) :
   wpAny M A (do
     let a ← frameOf env;let pl ← entryPlaceOf L hadNext;let b ← EntryCells.newEntry head a .none (rawInt L) .none pl
     setField (.ref e) 1 b) Q E s:=by
 have hene:e∉(env::outer).filterMap (·.frame):=fun hm=>by
   obtain⟨_,o,ho,hnf⟩:=hl.mem hm;rw[he]at ho;cases ho;exact hnf vs hd
 refine wpAny_bind (wpAny_frameOf_fun hfr hl hf fun g1 hs1=>?_);refine wpAny_bind (wpAny_entryPlaceOf fun pl hpl=>?_);unfold EntryCells.newEntry newFields;refine wpAny_bind (wpAny_newObj_type ?_ (hpl.sizeOk5 _ _ _ _ _));have he1:g1.get? e=some oe:=(hs1.2.1 e hene).trans he;generalize hob:({ cls:=.type "traceback",dict:=none,data:=.fields ([head,.ref L,.none,rawInt L,.none]++(if pl.isEmpty then List.replicate 6 Value.none else pl)).toArray }:Obj)=ob;have hobd:ob.data=.fields ([head,.ref L,.none,rawInt L,.none]++(if pl.isEmpty then List.replicate 6 Value.none else pl)).toArray:=by rw[← hob]
 have hof:ob.isFreed=false:=by rw[← hob];rfl
 have he2:=Heap.get?_push_of_some (h:=g1) ob he1;refine wpAny_setField he2 hd hsz (h _ g1.objs.size ?_);have hTe:g1.objs.size≠e:=Nat.ne_of_gt (Heap.lt_size he1);have hd3:=Obj.data_mapFields hd (·.setIfInBounds 1 (Value.ref g1.objs.size))
 have keep:∀ b o,b≠e->g1.get? b=some o->((g1.push ob).update e (Obj.mapFields (·.setIfInBounds 1 (Value.ref g1.objs.size)))).get? b=some o:=fun b o hbe hb=>by
   rw[Heap.get?_update_other _ _ (Ne.symm hbe)];exact Heap.get?_push_of_some _ hb
 refine⟨hs1.1,fun b o hbe hbL hb=>keep b o hbe ((hs1.2.1 b hbL).trans hb),fun b o hbe hb=>?_,Heap.get?_update_self _ he2 (Obj.isFreed_of_fields hd3),ob,_,?_,hobd,?_⟩
 · obtain⟨sl,q⟩:=hs1.2.2 b o hb;exact⟨sl,keep b _ hbe q⟩
 · rw[Heap.get?_update_other _ _ (Ne.symm hTe)];exact Heap.get?_push_size g1 hof
 · simp
theorem qfa {base:Heap}{env:Env}{outer:List Env}{L e:Addr}{oe:Obj}{vs:Array Value}{tb:Value}{Q:Unit->Shared->Prop}
   (hfr:A.frames=some (env::outer)) (hl:s.heap.FunFrames base (env::outer)) (hf:env.frame=some L)
   (he:s.heap.get? e=some oe) (hd:oe.data=.fields vs) (h1:vs[1]?=some tb) (ht:tb=.none∨∃ T,tb=.ref T∧TbO T s.heap)
   (h:∀ h' T,qf6 (frs (env::outer)) e oe s.heap h' T (rawInt L)->Q () { s with heap:=h' }):wpAny M A (noteFrame (.ref e) env) Q E s:=by
 unfold noteFrame;simp only[hf];refine wpAny_bind (wpAny_field he hd h1 ?_);have hsz:=(Array.getElem?_eq_some_iff.mp h1).1;rcases ht with rfl|⟨T,rfl,oT,ts,hT,hdT,h3⟩
 · rw[if_neg (by decide)];exact qaN hfr hl hf he hd hsz h
 · rw[if_pos (show (Value.ref T != Value.none)=true from by simp)];refine wpAny_bind (wpAny_field hT hdT h3 ?_);rw[if_neg (show ¬ ((Value.none == rawInt L)=true) from by simp[rawInt])];refine wpAny_bind (wpAny_setField hT hdT (Array.getElem?_eq_some_iff.mp h3).1 ?_);rw[Heap.update_setField_same s.heap T oT ts 3 Value.none hT hdT h3];exact qaN hfr hl hf he hd hsz h
theorem qfj {base:Heap}{env:Env}{outer:List Env}{L e:Addr}{oe:Obj}{vs:Array Value}{tb:Value}{Q:Unit->Shared->Prop}
   (hfr:A.frames=some (env::outer)) (hl:s.heap.FunFrames base (env::outer)) (hf:env.frame=some L)
   (he:s.heap.get? e=some oe) (hd:oe.data=.fields vs) (h1:vs[1]?=some tb) (ht:tb=.none∨∃ T,tb=.ref T∧TbO T s.heap)
   (h:∀ h' T,qf6 (frs (env::outer)) e oe s.heap h' T .none->Q () { s with heap:=h' }) :
   wpAny M A (noteFrame (.ref e) env) (fun _ s2=>wpAny M A (setFlight (.ref e) none) Q E s2) E s:=by
 refine qfa hfr hl hf he hd h1 ht fun h' T K=>?_;obtain⟨k1,k2,k3,k4,oT,ts,k5,k6,k7⟩:=K;have hsz:=(Array.getElem?_eq_some_iff.mp h1).1;have h3:3 < ts.size:=(Array.getElem?_eq_some_iff.mp k7).1;have hTe:e≠T:=by rw[k1];exact Nat.ne_of_lt (Heap.lt_size he)
 unfold setFlight;refine wpAny_bind (wpAny_field k4 (Obj.data_mapFields hd _) (x:=.ref T) (by simp[hsz]) ?_);rw[if_pos (show (Value.ref T != Value.none)=true from by simp)];refine wpAny_setField k5 k6 h3 (h _ T ⟨k1,fun b o hbe hbL hb=>?_,fun b o hbe hb=>?_,?_,_,_,Heap.get?_update_self _ k5 (Obj.isFreed_of_fields (Obj.data_mapFields k6 _)),Obj.data_mapFields k6 _,by simp[h3]⟩)
 · have:T≠b:=by rw[k1];exact Nat.ne_of_gt (Heap.lt_size hb)
   rw[Heap.get?_update_other _ _ this];exact k2 b o hbe hbL hb
 · have:T≠b:=by rw[k1];exact Nat.ne_of_gt (Heap.lt_size hb)
   rw[Heap.get?_update_other _ _ this];exact k3 b o hbe hb
 · rw[Heap.get?_update_other _ _ (Ne.symm hTe)];exact k4
end
section
variable {X:Cx}{pins:List (Addr×Obj)}{σ:St}{H:Hp}{s:Shared}{ea C:Addr}{dx:Option Addr}
def Q1 (H:Hp) (ea C:Addr) (dx:Option Addr) (T:Addr):Hp:=upd (upd H ea (.ext (ExO ea C dx (.ref T)))) T (.ext (TbO T))
theorem JR {T:Addr}{b:Addr}{o:HO} (hT:H T=none) (hb:b≠ea) (e:H b=some o):Q1 H ea C dx T b=some o:=by
 unfold Q1;rw[qi (qh e hT),qi hb];exact e
theorem qfk {T:Addr} (hT:H T=none) (hne:T≠ea):XAt (Q1 H ea C dx T) ea C dx:=by
 refine⟨.ref T,?_,.inr ⟨T,rfl,?_,hne⟩⟩
 · unfold Q1;rw[qi (Ne.symm hne),qb]
 · unfold Q1;rw[qb]
theorem qfi {M:Model}{A:Around}{E:Value->Shared->Prop}{Q:Unit->Shared->Prop} (I:Inv X pins σ H s) (hst:X.stack=X.env::X.outer) (hf:X.env.frame=some X.env.locals) (hfr:A.frames=some X.stack) (x:XAt H ea C dx)
   (h:∀ s' T,H T=none->T≠ea->Inv X pins σ (Q1 H ea C dx T) s'->Q () s') :
   wpAny M A (noteFrame (.ref ea) X.env) (fun _ s2=>wpAny M A (setFlight (.ref ea) none) Q E s2) E s:=by
 obtain⟨tb,e1,e2⟩:=x;obtain⟨⟨oe,vs,he,hc,hdx,hd,hz,h1,hx2⟩,_,_⟩:=(show ObjOk X.prog X.w H s.heap ea (.ext (ExO ea C dx tb)) from I.hok ea _ e1)
 have ht:tb=.none∨∃ T,tb=.ref T∧TbO T s.heap:=by
   rcases e2 with e2|⟨T,e2,e3,_⟩
   · exact .inl e2
   · obtain⟨q,_,_⟩:=(show ObjOk X.prog X.w H s.heap T (.ext (TbO T)) from I.hok T _ e3)
     exact .inr ⟨T,e2,q⟩
 have hl:=I.stack;rw[hst]at hl hfr;have hea:ea∉frs X.stack:=fun z=>by have:=I.stkFree ea z;rw[e1]at this;cases this
 refine qfj hfr hl hf he hd h1 ht fun h' T K=>?_;obtain⟨k1,k2,k3,k4,oT,ts,k5,k6,k7⟩:=K;rw[← hst]at k2;have hT:H T=none:=I.hok.fresh (by rw[k1];exact Nat.le_refl _);have hTe:T≠ea:=by rw[k1];exact Nat.ne_of_gt (Heap.lt_size he)
 have nT:∀ b ob,s.heap.get? b=some ob->b≠T:=fun b ob e=>by rw[k1];exact Nat.ne_of_lt (Heap.lt_size e)
 have trk:∀ b u,H b=some u->b∉frs X.stack:=fun b u e z=>by have:=I.stkFree b z;rw[e]at this;cases this
 have nex:∀ b u,H b=some u->(∀ φ,u≠.ext φ)->b≠ea:=fun b u e n z=>by subst z;rw[e1]at e;cases e;exact n _ rfl
 have old:∀ b u,H b=some u->(∀ φ,u≠.ext φ)->Q1 H ea C dx T b=some u:=fun b u e n=>JR hT (nex b u e n) e
 have un:Un (frs X.stack) [] H (Q1 H ea C dx T) s.heap h':=by
   refine⟨fun b o e n hb _=>k2 b o (fun z=>by subst z;rw[e1]at n;cases n) hb e,fun b o e n hb _=>k3 b o (fun z=>by subst z;rw[e1]at n;cases n) e,fun b o e n _=>?_,fun b o e _=>?_,
     fun b xs e=>old b _ e fun φ z=>(nomatch z),fun b o u e=>old b _ e fun φ z=>(nomatch z),fun b ps e=>⟨#[],by rw[old b _ e fun φ z=>(nomatch z)];simp⟩⟩
   · unfold Q1;rw[qi (nT b o e),qi fun z=>by subst z;rw[e1]at n;cases n];exact n
   · by_cases z:b=ea
     · subst z;exact⟨_,k4⟩
     · obtain⟨sl,q⟩:=k3 b o z e;exact⟨_,q⟩
 have hok:HOk X.prog X.w (Q1 H ea C dx T) h':=fun b u e=>by
   by_cases z:b=T
   · subst z;unfold Q1 at e;rw[qb]at e;cases e;exact qjh ⟨oT,ts,k5,k6,k7⟩
   · by_cases z2:b=ea
     · subst z2;unfold Q1 at e;rw[qi z,qb]at e;cases e;refine qdB ⟨_,_,k4,(Obj.cls_mapFields _ _).trans hc,?_,Obj.data_mapFields hd _,by simp[hz],by simp[hz],by rw[Array.getElem?_setIfInBounds_ne (by decide)];exact hx2⟩;rw[← hdx];obtain⟨oc,od,odt,osl⟩:=oe;have hd':odt=.fields vs:=hd;subst hd';rfl
     · have e':H b=some u:=by
         unfold Q1 at e;rw[qi z,qi z2]at e;exact e
       refine(I.hok b u e').stay (fun c v hc q=>?_) (fun c q=>old c _ q fun φ z=>(nomatch z)) fun c xs q=>old c _ q fun φ z=>(nomatch z)
       rcases hc with hc|hc
       · subst hc;exact k2 c v z2 (trk c u e') q
       · exact k2 c v (nex c _ hc fun φ z=>(nomatch z)) (trk c _ hc) q
 exact h _ T hT hTe (I.call' (s':={ s with heap:=h' }) rfl un hok I.bare fun b z=>absurd z (by simp))
def Sure (E:XK) (C ea:Addr) (dx:Option Addr) (H:Hp):Prop:=∀ H',(∀ b o,b≠ea->H b=some o->H' b=some o)->XAt H' ea C dx->E (.ref C) (some ea) H'
theorem Sure.look {E:XK}{T:Addr} (h:Sure E C ea dx H) (hT:H T=none):Sure E C ea dx (Q1 H ea C dx T):=fun H' k x=>h H' (fun b o hb e=>k b o hb (JR hT hb e)) x
inductive qke (P:Program) (w:World) (outer:List Env) (H:Hp) (s:Shared) (E:XK) (e:Value) (s':Shared):Prop
 | mk (ea C dx H':_) (h1:e=.ref ea) (h2:s'.os=s.os) (h3:AllBare s'.gens) (h4:Un (frs outer) [] H H' s.heap s'.heap) (h5:HOk P w H' s'.heap) (h6:XAt H' ea C dx) (h7:Sure E C ea dx H'):qke P w outer H s E e s'
def CX1 (P:Program) (w:World):CXT:=fun outer H s E e s'=>qke P w outer H s E e s'
def Throws (X:Cx) (E:XK):Prop:=∀ (pins:List (Addr×Obj)) (σ:St) (H:Hp) (s:Shared) (ea C:Addr) (dx:Option Addr),Inv X pins σ H s->XAt H ea C dx->Sure E C ea dx H->X.xe (.ref ea) s
theorem Throws.passes {E:XK} (t:Throws X E):jo (CX1 X.prog X.w) X E:=by
 intro pins σ H s e s' I ⟨ea,C,dx,H',e1,os,bare,un,hok,x,q⟩;subst e1;exact t pins σ H' s' ea C dx (I.call' os un hok bare fun b z=>absurd z (by simp)) x q
theorem throws_cx {P:Program}{w:World}{K:Frag}{mg:Str->Option Value}{base:Heap}{N:List Str}{qual:Str}{scope:Scope}{f:Addr}{cd:Value}{A:Around}{outer:List Env}{s₀:Shared}{H₀:Hp}{E:XK} :
   Throws (qZ (CX1 P w) P w K mg base N qual scope f cd A outer s₀ H₀ E) E:=by
 intro pins σ H s ea C dx I x q;show wpAny _ _ (leaving _ _) _ _ _;unfold leaving;refine wpAny_bind (qfi I rfl rfl I.ok.frames x fun s' T hT hne J=>?_);exact⟨ea,C,dx,_,rfl,J.os,J.bare,J.base,J.hok,qfk hT hne,q.look hT⟩
end
def tyS:Value->String
 | .type a=>a
 | _=>""
theorem qje {v:Value}{s:String} (h:tyS v=s) (n:s≠""):v=.type s:=by
 cases v with
 | type a=>exact congrArg _ h
 | _=>exact absurd h.symm n
theorem qh4 {l:List Value}:∀ {ss:List String},l.map tyS=ss->(∀ s∈ss,s≠"")->l=ss.map Value.type:=by
 induction l with
 | nil=>intro ss h _;rw[← h];rfl
 | cons v l ih =>
   intro ss h n
   cases ss with
   | nil=>cases h
   | cons s ss =>
     have h1:tyS v=s:=(List.cons.inj h).1;have h2:l.map tyS=ss:=(List.cons.inj h).2;rw[qje h1 (n s List.mem_cons_self),ih h2 fun x m=>n x (List.mem_cons_of_mem _ m)];rfl
def jY:List Value->Bool
 | []=>false
 | x::r=>match x with
   | .ref _=>jY r
   | _=>(x::r).map tyS == ["ValueError","Exception","BaseException","object"]
theorem Jh {l:List Value} (e:jY l=true):(∃ c r,l=.ref c::r∧jY r=true)∨l=[.type "ValueError",.type "Exception",.type "BaseException",.type "object"]:=by
 cases l with
 | nil=>cases e
 | cons x r =>
   unfold jY at e;split at e
   · exact .inl ⟨_,r,rfl,e⟩
   · exact .inr (qh4 (eq_of_beq e) (by decide))
theorem z9 {T:String}{v:Bool} (h4:([.type "ValueError",.type "Exception",.type "BaseException",.type "object"]:List Value).contains (.type T)=v) {l:List Value}:jY l=true->l.contains (.type T)=v:=by
 induction l with
 | nil=>intro e;cases e
 | cons x r ih =>
   intro e;rcases Jh e with ⟨c,r',h,e'⟩|h
   · cases h;rw[List.contains_cons,ih e',show (Value.type T == Value.ref c)=false from rfl,Bool.false_or]
   · rw[h];exact h4
inductive qhY (K:Frag) (C:Addr):Prop
 | mk (nm qn:Str) (N:Addr) (bs bm:List Value) (sn:List Str) (sub:List Value) (ab:Bool) (col:Option Bool) (dd:Option Addr) (k0 k1 k2 k3 k5:Option Value) (h1:K.lookup C=some (excClassObj nm qn C N bs bm true sn sub ab col dd k0 k1 k2 k3 k5 "ValueError.__new__")) (h2:jY bm=true):qhY K C
def qk6 (K:Frag) (C:Addr):Prop:=qhY K C
noncomputable def xIn (K:Frag) (C:Addr):Bool:=@decide (qk6 K C) (Classical.propDecidable _)
theorem xIn_iff {K:Frag}{C:Addr}:xIn K C=true↔qk6 K C:=@decide_eq_true_iff (qk6 K C) (Classical.propDecidable _)
theorem qkf {K:Frag}{h:Heap}{C:Addr} (X:K.In h) (q:xIn K C=true):∃ nm qn N bs bm sn sub ab col dd k0 k1 k2 k3 k5,
   h.get? C=some (excClassObj nm qn C N bs bm true sn sub ab col dd k0 k1 k2 k3 k5 "ValueError.__new__")∧jY bm=true:=by
 obtain⟨nm,qn,N,bs,bm,sn,sub,ab,col,dd,k0,k1,k2,k3,k5,ho,hx⟩:=xIn_iff.mp q;exact⟨nm,qn,N,bs,bm,sn,sub,ab,col,dd,k0,k1,k2,k3,k5,X _ _ ho,hx⟩
section
variable {M:Model}{A:Around}{E:Value->Shared->Prop}{h:Heap}{g:Array GenState}{d:Drawn}{t:Nat}{os:OsState}
variable {nm q:Str}{C N:Addr}{bs bm bmB:List Value}{sn:List Str}{sub:List Value}{ab:Bool}{col:Option Bool}{dd:Option Addr}{k0 k1 k2 k3 k5:Option Value}{B newId initId:String}
theorem qci (F:ExcBaseFacts B newId initId bmB) {rest:List Value}{Q:Unit->Shared->Prop} (hC:h.get? C=some (excClassObj nm q C N bs bm true sn sub ab col dd k0 k1 k2 k3 k5 newId))
   (hcont:(Value.ref C::bm).contains (.type B)=true) (hq:Q () ⟨h,g,d,t,os⟩):wpAny M A (checkBuiltinCall newId ⟨.ref C::rest,[]⟩) Q E ⟨h,g,d,t,os⟩:=by
 have hstar:=F.noStar;simp only[checkBuiltinCall,F.newKind,F.newSplit,F.newRow]
 repeat (first
   | refine wpAny_loadPart_at hC ?_
   | (refine wpAny_isSubtype_exc hC ?_;rw[hcont])
   | refine wpAny_staticBase_exc hC ?_
   | refine wpAny_madeBy_exc hC ?_
   | simp only[bne_self_eq_false,Bool.false_eq_true,if_false]
   | wp_step)
 exact hq
end
section
variable {prog:Program}{w:World}{A:Around}{R:Result->Shared->Prop}{E:Value->Shared->Prop}{h:Heap}{g:Array GenState}{d:Drawn}{t:Nat}{os:OsState}
variable {nm q:Str}{C N:Addr}{bs bm bmB:List Value}{sn:List Str}{sub:List Value}{ab:Bool}{col:Option Bool}{dd:Option Addr}{k0 k1 k2 k3 k5:Option Value}{B newId initId:String}
abbrev ZS (C:Addr) (t:Addr):Obj:={ cls:=.ref C,data:=.fields #[.ref t,.none,.none,.none,.bool false,.none] }
theorem qkn (F:ExcBaseFacts B newId initId bmB) {rest:List Value} (hC:h.get? C=some (excClassObj nm q C N bs bm true sn sub ab col dd k0 k1 k2 k3 k5 newId))
   (hcB:(Value.ref C::bm).contains (.type B)=true) (hcA:(Value.ref C::bm).contains (.type "AttributeError")=false) (hcN:(Value.ref C::bm).contains (.type "NameError")=false)
   (hq:R (.ok (.ret (.ref (h.objs.size+1)))) ⟨(h.push { cls:=.type "tuple",data:=.seq rest.toArray }).push (ZS C h.objs.size),g,d,t,os⟩) (hrest:rest.length≤sizeLine) :
   codeAny (model prog w) A (.builtin newId ⟨.ref C::rest,[]⟩) R ⟨h,g,d,t,os⟩:=by
 have hends:=F.ends;refine codeAny_builtinAt F.entry ?_;unfold Builtin.«BaseException.__new__»;refine PySem.wpAt_bind ?_;show PySem.wpAt _ _ _ (stack >>= _) _ _ _;refine PySem.wpAt_bind (PySem.wpAt_stack fun p below=>PySem.wpAt_of_wpAny ?_)
 wp_walk
 refine PySem.wpAt_of_wpAny ?_;rw[F.owner]
 repeat (first
   | with_reducible refine wpAny_madeHere_exc F.canon hC ?_
   | with_reducible refine wpAny_loadPart_at hC ?_
   | (with_reducible refine wpAny_isSubtype_exc hC ?_;first|rw[hcB]|rw[hcA]|rw[hcN])
   | wp_step)
 show R _ _;rw[Heap.size_push];exact hq
theorem qja {K:Frag}{rest:List Value}{fI:Addr}{Q:Value->Shared->Prop} (X:K.In h) (xi:xIn K C=true)
   (hi:findIn K (.ref C) "__init__"=some (some (.ref fI))) (hf:typeIn K (.ref fI)=some (.type "function"))
   (hq:wpAny (model prog w) (A.under (.builtin "type.__call__" ⟨.ref C::rest,[]⟩)) (call (.ref fI) (.ref (h.objs.size+1)::rest)) (fun r s'=>r=.none∧Q (.ref (h.objs.size+1)) s') E
     ⟨(h.push { cls:=.type "tuple",data:=.seq rest.toArray }).push (ZS C h.objs.size),g,d,t,os⟩) (hrest:rest.length≤sizeLine) :
   wpAny (model prog w) A (call (.ref C) rest) Q E ⟨h,g,d,t,os⟩:=by
 obtain⟨nm,qn,N,bs,bm,sn,sub,ab,col,dd,k0,k1,k2,k3,k5,hC,hx⟩:=qkf X xi;have F:=PySem.F.excBase_ValueError;have f1:=tc_lookup;have f2:=tc_bind (.ref C);have hT:(⟨h,g,d,t,os⟩:Shared).TypeIs (.ref C) "type":=⟨_,hC,rfl⟩
 have hcB:(Value.ref C::bm).contains (.type "ValueError")=true:=by rw[List.contains_cons,z9 (v:=true) (by decide +kernel) hx,Bool.or_true]
 have hcA:(Value.ref C::bm).contains (.type "AttributeError")=false:=by rw[List.contains_cons,z9 (v:=false) (by decide +kernel) hx];rfl
 have hcN:(Value.ref C::bm).contains (.type "NameError")=false:=by rw[List.contains_cons,z9 (v:=false) (by decide +kernel) hx];rfl
 refine wpAny_call (codeAny_of_tree ?_);show wpAny _ _ (callAny (.ref C) _) _ _ _
 repeat (any_goals (first
   | assumption
   | with_reducible refine wpAny_loadPart_at hC ?_
   | wp_step))
 refine⟨rfl,?_⟩;refine codeAny_call_builtin_at (Code.quiet_builtin _ (by decide +kernel)) entry_typeCall (wpAny_check_type_call_sub hC ?_)
 repeat (first
   | with_reducible refine wpAny_loadPart_at hC ?_
   | with_reducible refine wpAny_madeBy_exc hC ?_
   | wp_step)
 refine codeAny_call_builtin_code (Code.quiet_builtin _ F.quiet) (qci F hC hcB ?_);refine qkn F hC hcB hcA hcN ?_ hrest;show wpAny _ _ _ _ _ (⟨(h.push { cls:=.type "tuple",data:=.seq rest.toArray }).push (ZS C h.objs.size),g,d,t,os⟩:Shared);have kp:∀ b o,h.get? b=some o->((h.push { cls:=.type "tuple",data:=.seq rest.toArray }).push (ZS C h.objs.size)).get? b=some o:=fun b o e=>Heap.get?_push_of_some _ (Heap.get?_push_of_some _ e);have hC1:=kp _ _ hC;have X1:=X.keeps kp;have hget:((h.push { cls:=.type "tuple",data:=.seq rest.toArray }).push (ZS C h.objs.size)).get? (h.objs.size+1)=some (ZS C h.objs.size):=by heap_get
 have hcC:(Value.ref C::bm).contains (.ref C)=true:=by simp
 unfold isInstance
 repeat (first
   | with_reducible refine wpAny_loadPart_at hget ?_
   | (show wpAny _ _ (isSubtype (.ref C) _) _ _ _;with_reducible refine wpAny_isSubtype_exc hC1 ?_;rw[hcC])
   | wp_step)
 show wpAny _ _ (typeLookup (.ref C) _) _ _ _;refine(looks_findIn X1 hi).at ?_;refine wpAny_holding (wpAny_bind ((PySem.W.bind_fn X1 _ hf).at ?_));refine wpAny_bind (wpAny_mono hq (fun r s' hr=>?_) fun _ _ x=>x);obtain⟨rfl,hQ⟩:=hr
 wp_walk
 exact hQ
end
theorem xcd {K:Frag}{C:Addr} (q:xIn K C=true):∃ cd bm,clsIn K C=some cd∧cd.mro=.ref C::bm∧jY bm=true∧cd.hasDict=true:=by
 obtain⟨nm,qn,N,bs,bm,sn,sub,ab,col,dd,k0,k1,k2,k3,k5,ho,hx⟩:=xIn_iff.mp q
 have e:∃ cd,clsIn K C=some cd∧cd.mro=.ref C::bm∧cd.hasDict=true:=by
   unfold clsIn;rw[ho];exact⟨_,rfl,rfl,rfl⟩
 obtain⟨cd,h1,h2,h3⟩:=e;exact⟨cd,bm,h1,h2,hx,h3⟩
theorem qlc {K:Frag}{C:Addr}{T:String} (q:xIn K C=true) (h4:([.type "ValueError",.type "Exception",.type "BaseException",.type "object"]:List Value).contains (.type T)=true):mroIn K C (.type T)=some true:=by
 obtain⟨cd,bm,h1,h2,h3,_⟩:=xcd q;unfold mroIn;rw[h1,Option.bind_some,h2,if_neg (by simp),List.contains_cons,z9 h4 h3,Bool.or_true]
section
variable {M:Model}{A:Around}{E:Value->Shared->Prop}{s:Shared}{env:Env}
theorem qh1 {x:Sem Value}{Q:Flow->Shared->Prop} (hh:A.handled=none)
   (h:wpAny M A x (fun v s1=>∃ (ea C:Addr) (o:Obj) (vs:Array Value) (K:Frag),v=.ref ea∧K.In s1.heap∧xIn K C=true∧s1.heap.get? ea=some o∧o.cls=.ref C∧o.data=.fields vs∧vs[1]?=some .none∧E (.ref ea) s1) E s) :
   wpAny M A (raiseStmt env (some x) none) Q E s:=by
 unfold raiseStmt;refine wpAny_bind (wpAny_mono h (fun v s1 h1=>?_) fun _ _ x=>x);obtain⟨ea,C,o,vs,K,rfl,X,xi,he,hc,hd,hv,hE⟩:=h1;obtain⟨nm,qn,N,bs,bm,sn,sub,ab,col,dd,k0,k1,k2,k3,k5,hC,hx⟩:=qkf X xi;have hcB:(Value.ref C::bm).contains (.type "BaseException")=true:=by rw[List.contains_cons,z9 (v:=true) (by decide +kernel) hx,Bool.or_true]
 obtain⟨oc,od,odt,osl⟩:=o;dsimp only at hc hd;subst hc hd;obtain⟨hp,g,d,tk,os⟩:=s1
 repeat (first
   | with_reducible refine wpAny_field he rfl hv ?_
   | with_reducible refine wpAny_loadPart_at he ?_
   | with_reducible refine wpAny_loadPart_at hC ?_
   | (with_reducible refine wpAny_isSubtype_exc hC ?_;rw[hcB])
   | wp_step)
 exact wpAny_raiseNew_none hh hE
end
section
variable {prog:Program}{w:World}{A:Around}{E:Value->Shared->Prop}{s:Shared}{K:Frag}{C x:Addr}{ox:Obj}{name:Str}{v:Value}
theorem qh3 {rest:List Value}{vs:Array Value}{Q:Value->Shared->Prop} (X:K.In s.heap) (xi:xIn K C=true) (hx:s.heap.get? x=some ox) (hc:ox.cls=.ref C) (hd:ox.data=.fields vs) (hz:vs.size=6) (hl:rest.length≤sizeLine)
   (h:∀ h' tp,(∀ b o,b≠x->s.heap.get? b=some o->h'.get? b=some o)->h'.get? x=some (ox.mapFields (·.setIfInBounds 0 tp))->Q .none { s with heap:=h' }) :
   wpAny (model prog w) A (call (.builtin "ValueError.__init__") (.ref x::rest)) Q E s:=by
 obtain⟨hp,g,d,tk,os⟩:=s;have F:=PySem.F.excBase_ValueError;obtain⟨nm,qn,N,bs,bm,sn,sub,ab,col,dd,k0,k1,k2,k3,k5,hC,hxt⟩:=qkf X xi;have hcB:(Value.ref C::bm).contains (.type "ValueError")=true:=by rw[List.contains_cons,z9 (v:=true) (by decide +kernel) hxt,Bool.or_true]
 have hshort:=F.noStar
 have chk:wpAny (model prog w) A.in1 (checkBuiltinCall "ValueError.__init__" ⟨.ref x::rest,[]⟩) (fun _ s'=>s'=⟨hp,g,d,tk,os⟩) (fun _ _=>False) ⟨hp,g,d,tk,os⟩:=by
   simp only[checkBuiltinCall,F.initKind,F.initSplit,F.initRow]
   repeat (first
     | (with_reducible refine wpAny_loadPart_at hx ?_;rw[hc])
     | with_reducible refine wpAny_loadPart_at hC ?_
     | (with_reducible refine wpAny_isSubtype_exc hC ?_;rw[hcB])
     | wp_step)
   refine wpAny_onRaise ?_
   rw[show ∀ (a b:String) (n:Nat),Bind.check ⟨.positional,"*","ValueError",.self,[⟨"args",.varPos,false⟩]⟩ a b n (List.map (fun x=>x.fst) ({ pos:=Value.ref x::rest }:Args).kw)=pure () from
     fun a b n=>check_star_args _ _ _ _ _ _]
   exact wpAny_pure rfl
 refine wpAny_call (codeAny_call_builtin F.init.plain F.initEntry (wpAny_mono chk (fun _ s1 e=>?_) fun _ _ z=>z.elim));subst e;unfold Builtin.«BaseException.__init__»
 repeat (first
   | with_reducible refine wpAny_loadPart_at hx ?_
   | wp_step)
 obtain⟨a0,h0⟩:∃ a0,vs[0]?=some a0:=⟨_,Array.getElem?_eq_getElem (by omega)⟩
 rw[hd];refine wpAny_pure ?_;rw[h0];refine wpAny_pure ?_;have hx1:(hp.push { cls:=.type "tuple",data:=.seq rest.toArray }).get? x=some ox:=Heap.get?_push_of_some _ hx;refine wpAny_bind (wpAny_setField hx1 hd (by omega) ?_)
 have fin:=h ((hp.push { cls:=.type "tuple",data:=.seq rest.toArray }).update x (Obj.mapFields (·.setIfInBounds 0 (.ref hp.objs.size)))) (.ref hp.objs.size) (fun b o hb e=>by
   rw[Heap.get?_update_other _ _ (Ne.symm hb)]
   exact Heap.get?_push_of_some _ e) (Heap.get?_update_self _ hx1 (Obj.isFreed_of_fields (Obj.data_mapFields hd _)))
 cases a0<;>(repeat wp_step)<;>exact fin
end
theorem qgb (self:Value) {l:List Value}:jY l=true->refuseLoop self "__setattr__" l=pure ():=by
 induction l with
 | nil=>intro e;cases e
 | cons x r ih =>
   intro e;rcases Jh e with ⟨c,r',h,e'⟩|h
   · cases h;rw[refuseLoop_ref];exact ih e'
   · rw[h];exact PySem.F.store_ValueError.passes self
section
variable {prog:Program}{w:World}{A:Around}{E:Value->Shared->Prop}{s:Shared}{K:Frag}{C x:Addr}{ox:Obj}{name:Str}{v:Value}
theorem qkm {vs:Array Value}{Q:Unit->Shared->Prop} (X:K.In s.heap) (xi:xIn K C=true) (hx:s.heap.get? x=some ox) (hc:ox.cls=.ref C) (hd:ox.data=.fields vs) (hdn:ox.dict=none)
   (hs:findIn K (.ref C) "__setattr__"=some (some (.builtin "object.__setattr__"))) (ha:findIn K (.ref C) name=some none)
   (h:∀ h' dx,s.heap.objs.size≤dx->h'.get? x=some { ox with dict:=some dx }->h'.Ns1 dx (fun y=>if y=name then some v else none)->(∀ b o,b≠x->s.heap.get? b=some o->h'.get? b=some o) ->
     Q () { s with heap:=h',toks:=s.toks+2 }) :
   wpAny (model prog w) A (setAttr (.ref x) name v) Q E s:=by
 have SF:=PySem.F.store_object;obtain⟨cd,bm,hcd,hmro,hxt,hdict⟩:=xcd xi;have I:InstAt s.heap x ox C none:=⟨hx,hc,by unfold notCls;rw[hd],by rw[hdn];exact True.intro⟩
 refine PySem.W.set_plain X I hs ?_;have sub:Looks (model prog w) s.heap (isInstance (.ref x) (.type "object")) true:=I.type.andThen (looks_mroIn X (qlc xi (by decide +kernel)));refine codeAny_call_builtin SF.slot.plain SF.entry (@check_slot (model prog w) _ _ { s with toks:=s.toks+1 } "object.__setattr__" "object" "__setattr__" (.ref x) [.str name s.toks,v] [] _ SF.kind SF.split sub (SF.args (.ref x) (.str name s.toks) v) ?_);have hm:Looks (model prog w) s.heap (mroOf (.ref C)) cd.mro:=(looks_clsIn X hcd).andThen .now;rw[PySem.W.osa_eq,refuse_eq];refine wpAny_bind (wpAny_bind (I.type.here (s:={ s with toks:=s.toks+1 }) (wpAny_bind (hm.here (s:={ s with toks:=s.toks+1 }) ?_))));rw[hmro,refuseLoop_ref,qgb _ hxt];refine wpAny_pure (wpAny_bind (I.type.here (s:={ s with toks:=s.toks+1 }) (wpAny_bind ((looks_findIn X ha).here (s:={ s with toks:=s.toks+1 }) (wpAny_bind (wpAny_pure ?_))))));dsimp only;unfold PySem.Builtin.ObjectAttr.storeInOwnDict;refine wpAny_bind (wpAny_pure ?_);rw[if_neg (by simp)];refine wpAny_bind (wpAny_bind (wpAny_loadPart hx ?_));rw[hc];dsimp only;refine wpAny_bind ((looks_clsIn X hcd).here (s:={ s with toks:=s.toks+1 }) ?_);rw[hdict,hdn,if_neg (by decide)];dsimp only;rw[if_neg (by simp[typeHasDict]),hd];dsimp only;have hx1:(s.heap.push { cls:=.type "dict",data:=.dict #[] }).get? x=some ox:=Heap.get?_push_of_some _ hx;have hxs:x≠s.heap.objs.size:=Nat.ne_of_lt (Heap.lt_size hx);refine wpAny_bind (wpAny_alloc' ?_);refine wpAny_bind (wpAny_update' hx1 ?_);refine wpAny_pure (a:=some s.heap.objs.size) ?_;generalize hg:((s.heap.push { cls:=.type "dict",data:=.dict #[] }).update x fun o=>{ cls:=o.cls,dict:=some s.heap.objs.size,data:=o.data,slots:=o.slots })=g1
 have hgd:g1.get? s.heap.objs.size=some { cls:=.type "dict",data:=.dict #[] }:=by
   rw[← hg];exact(Heap.get?_update_ne _ _ _ _ hxs.symm).trans (Heap.get?_push_at rfl rfl)
 have hnd:g1.Ns s.heap.objs.size (fun _=>none):=⟨_,#[],_,hgd,rfl,fun e he=>absurd he (by simp),fun _=>rfl⟩
 have hgx:g1.get? x=some { ox with dict:=some s.heap.objs.size }:=by
   rw[← hg];refine Heap.get?_update_self _ hx1 ?_;have hfr:=(Heap.get?_some_iff.mp hx).2;obtain⟨oc,od,odt,osl⟩:=ox;cases odt<;>first|rfl|exact hfr
 have hgo:∀ b o,b≠x->s.heap.get? b=some o->g1.get? b=some o:=fun b o hb e=>by
   rw[← hg];exact(Heap.get?_update_ne _ _ _ _ hb).trans (Heap.get?_push_of_some _ e)
 show wpAny _ _ (PySem.Builtin.ObjectAttr.storeInDict s.heap.objs.size (.str name s.toks) name v) _ _ _;unfold PySem.Builtin.ObjectAttr.storeInDict PySem.Builtin.ObjectAttr.newKeyGuard;refine wpAny_bind (wpAny_pure (wpAny_bind (wpAny_nsSet1 (Heap.Ns1.of_empty hnd) fun h' hn' hs'=>?_)));obtain⟨oD,esD,epD,hoD,hdD,hcD⟩:=hn'.count (Within.cons name v Within.nil);refine wpAny_bind (wpAny_lookBehind hoD (by rw[hdD];exact pastItsLine_dict (Nat.le_trans hcD (by rw[List.length_cons,List.length_nil,sizeLine_eq];omega))) ?_);refine wpAny_pure (h h' s.heap.objs.size (Nat.le_refl _) ((hs'.2 x hxs).trans hgx) hn' fun b o hb e=>(hs'.2 b (Nat.ne_of_lt (Heap.lt_size e))).trans (hgo b o hb e))
end
section
variable {prog:Program}{w:World}{A:Around}{E:Value->Shared->Prop}{s:Shared}{K:Frag}{C x:Addr}{ox:Obj}{od:Option Obj}{name:Str}{v:Value}
theorem qh2 {tk:Tok}{fill expr:Bool}{Q:Value->Shared->Prop} (X:K.In s.heap) (I:InstAt s.heap x ox C od) (xi:xIn K C=true)
   (hga:findIn K (.ref C) "__getattribute__"=some (some (.builtin "BaseException.__getattribute__"))) (hna:findIn K (.ref C) "__getattr__"=some none)
   (h:wpAny (model prog w) A.in1 (Builtin.«object.__getattribute__» ⟨[.ref x,.str name tk],[]⟩) (fun fin s'=>match fin with|.done (.ret v)=>wpAny (model prog w) A (handedOut v) Q E s'|_=>False) (fun _ _=>False) s) :
   wpAny (model prog w) A (getAttrBy (.ref x) (.str name tk) fill expr) Q E s:=by
 have hx2:(Value.builtin "BaseException.__getattribute__" == Value.builtin "object.__getattribute__")=false:=by decide +kernel
 unfold getAttrBy;refine wpAny_holding (wpAny_bind (I.type.here (wpAny_bind ((looks_findIn X hga).here ?_))));dsimp only;rw[hx2,Bool.and_false,if_neg (by decide)];unfold getAttrByItsOwn;refine wpAny_bind ((PySem.W.looks_hook X (r:=none) (by rw[if_pos (by rfl)];exact hna)).here (wpAny_bind (wpAny_attempt (wpAny_holding ?_))));unfold callGetattribute;rw[show (expr && onTheHeap (Value.builtin "BaseException.__getattribute__"))=false from by cases expr<;>rfl,if_neg (by decide)];unfold boundAndCalled;rw[PySem.F.excAttr_ValueError.ga.bind];refine wpAny_bind (wpAny_pure ?_);show wpAny _ _ (call (.builtin "BaseException.__getattribute__") [.ref x,.str name tk]) _ _ _;refine wpAny_call (codeAny_call_builtin PySem.F.excAttr_ValueError.ga.plain PySem.F.entry_bexc_ga ?_);refine @check_slot (model prog w) _ _ s "BaseException.__getattribute__" "BaseException" "__getattribute__" (.ref x) [.str name tk] [] _ (by decide +kernel) (by decide +kernel) (I.type.andThen (looks_mroIn X (qlc xi (by decide +kernel)))) (PySem.F.args_bexc_ga (.ref x) (.str name tk)) ?_;refine wpAny_mono h (fun fin s' z=>?_) fun _ _ z=>z.elim;rcases fin with (_|_|_|_)|_<;>first|exact z|exact z.elim
theorem qko {expr:Bool}{Q:Value->Shared->Prop} (X:K.In s.heap) (I:InstAt s.heap x ox C od) (xi:xIn K C=true)
   (hga:findIn K (.ref C) "__getattribute__"=some (some (.builtin "BaseException.__getattribute__"))) (hna:findIn K (.ref C) "__getattr__"=some none)
   (hf:PySem.W.findObj K C od name=some (.value v)) (hh:PySem.W.handedIn v=true) (h:Q v { s with toks:=s.toks+1 }):wpAny (model prog w) A (getAttr (.ref x) name expr) Q E s:=by
 unfold getAttr;refine wpAny_bind (wpAny_mkText (qh2 (s:={ s with toks:=s.toks+1 }) X I xi hga hna ?_));have L1:=PySem.W.looks_find (M:=model prog w) X I hf;unfold Builtin.«object.__getattribute__»;refine wpAny_bind (wpAny_pure (wpAny_bind (wpAny_pure (wpAny_bind (I.type.here (s:={ s with toks:=s.toks+1 }) (wpAny_bind (L1.here (s:={ s with toks:=s.toks+1 }) ?_)))))));refine wpAny_pure ?_;show wpAny _ _ (handedOut v) _ _ _;rw[PySem.W.handedOut_of hh];exact wpAny_pure h
end
structure XC (K:Frag) (C:Addr):Prop where
 xi:xIn K C=true
 ga:findIn K (.ref C) "__getattribute__"=some (some (.builtin "BaseException.__getattribute__"))
 na:findIn K (.ref C) "__getattr__"=some none
 sa:findIn K (.ref C) "__setattr__"=some (some (.builtin "object.__setattr__"))
 cl:findIn K (.ref C) "__class__"=some (some (.builtin "object.__class__"))
 gt:specialIn K (.builtin "object.__class__") "__get__"=some (some (.builtin "getset_descriptor.__get__"))
 tk:PySem.W.takesIn K (.builtin "object.__class__")=some true
section
variable {X:Cx}{pins:List (Addr×Obj)}{σ:St}{H:Hp}{s:Shared}{h':Heap}
theorem Inv.two {x a:Addr}{o1 o2:HO}{t':Nat} (I:Inv X pins σ H s) (mu:Mut (H x)) (hp:s.heap.objs.size≤a) (k:∀ b u,b≠x->s.heap.get? b=some u->h'.get? b=some u) (hx:∃ u,h'.get? x=some u)
   (n1:ObjOk X.prog X.w (upd (upd H x o1) a o2) h' x o1) (n2:ObjOk X.prog X.w (upd (upd H x o1) a o2) h' a o2):Inv X pins σ (upd (upd H x o1) a o2) { s with heap:=h',toks:=t' }:=by
 have ha:H a=none:=I.hok.fresh hp;have ne:∀ b,H b=none->b≠x:=fun b n z=>by subst z;rw[n]at mu;exact mu
 have nm:∀ b u,H b=some u->¬ Mut (some u)->b≠x:=fun b u q n z=>by subst z;rw[q]at mu;exact n mu
 have old:∀ b u,H b=some u->¬ Mut (some u)->upd (upd H x o1) a o2 b=some u:=fun b u q n=>by rw[qi (qh q ha),qi (nm b u q n)];exact q
 refine I.un ⟨fun b u e n _ _=>k b u (ne b n) e,fun b u e n _ _=>⟨u.slots,k b u (ne b n) e⟩,fun b u e n _=>?_,fun b u e _=>?_,fun b xs e=>old b _ e fun z=>z,fun b o u e=>old b _ e fun z=>z,fun b ps e=>⟨#[],by rw[old b _ e fun z=>z];simp⟩⟩ fun b u e=>?_
 · rw[qi (Nat.ne_of_lt (Nat.lt_of_lt_of_le (Heap.lt_size e) hp)),qi (ne b n)];exact n
 · by_cases z:b=x
   · subst z;exact hx
   · exact⟨u,k b u z e⟩
 · by_cases z:b=a
   · subst z;rw[qb]at e;cases e;exact n2
   · rw[qi z]at e;by_cases z2:b=x
     · subst z2;rw[qb]at e;cases e;exact n1
     · rw[qi z2]at e;refine(I.hok b u e).stay (fun c v hc q=>?_) (fun c q=>old c _ q fun z=>z) fun c xs q=>old c _ q fun z=>z;rcases hc with hc|hc
       · subst hc;exact k c v z2 q
       · exact k c v (nm c _ hc fun z=>z) q
end
section
variable {X:Cx}{o e value:Expr}{es:List Expr}{f x:Str}{p apos pos pos' tpos:Pos}{ta tv:TE}{t:TA}{C fa:Addr}
structure XMk (K:Frag) (C f:Addr):Prop where
 c:XC K C
 init:findIn K (.ref C) "__init__"=some (some (.ref f))
 fn:isFn K (.ref f)=true
 kp:keepIn K (.ref C)=true
def qjj (C:Addr) (sp:Sp) (t:TA):TE:=fun σ H Q=>t σ H fun vs H1=>vs.length≤10∧∀ ea,H1 ea=none ->
 sp (.ref ea::vs) (upd H1 ea (.ext (ExO ea C none .none))) (fun v H2=>v=.non∧Q (.ref ea) H2) E0
theorem qeG {k:Nat}{fd:FuncData}{ps:List Str}{sp:Sp}{pins:List (Addr×Obj)}{σ:St}{H:Hp}{s:Shared}{Q:VK}{us:List Value}{vs:List V} (M:XMk X.K C fa) (F:qx X.prog X.w X.K X.mg X.base CX0 k fa fd ps sp)
   (hr:Room (k+1) X.A) (hb:Binds X.K fd ps []) (I:Inv X pins σ H s) (r:Vals vs us) (hl10:vs.length≤10)
   (h:∀ ea,H ea=none->sp (.ref ea::vs) (upd H ea (.ext (ExO ea C none .none))) (fun v H2=>v=.non∧Q (.ref ea) H2) E0) :
   wpAny (model X.prog X.w) X.A (call (.ref C) us) (EP X pins σ Q) X.xe s:=by
 have hq:=h (s.heap.objs.size+1) (I.hok.fresh (Nat.le_succ _));have hul:us.length≤sizeLine:=by rw[← r.length,sizeLine_eq];omega
 have kp:∀ b o,s.heap.get? b=some o->((s.heap.push { cls:=.type "tuple",data:=.seq us.toArray }).push (ZS C s.heap.objs.size)).get? b=some o:=fun b o e=>Heap.get?_push_of_some _ (Heap.get?_push_of_some _ e);have hget:((s.heap.push { cls:=.type "tuple",data:=.seq us.toArray }).push (ZS C s.heap.objs.size)).get? (s.heap.objs.size+1)=some (ZS C s.heap.objs.size):=by heap_get
 have I2:Inv X pins σ (upd H (s.heap.objs.size+1) (.ext (ExO (s.heap.objs.size+1) C none .none))) { s with heap:=(s.heap.push { cls:=.type "tuple",data:=.seq us.toArray }).push (ZS C s.heap.objs.size) } :=
   I.laid (t':=s.toks) kp (Nat.le_succ _) (qdB ⟨_,_,hget,rfl,rfl,rfl,rfl,rfl,rfl⟩)
 have r2:Vals (V.ref (s.heap.objs.size+1)::vs) (Value.ref (s.heap.objs.size+1)::us):=.cons rfl r
 have hl:(Value.ref (s.heap.objs.size+1)::us++[]).length=ps.length:=by
   have e:=r2.length;rw[F.len _ _ _ _ hq]at e;rw[List.append_nil];exact e.symm
 obtain⟨hp,g,d,tk,os⟩:=s
 refine qja I.kIn M.c.xi M.init (beq_iff_eq.mp M.fn) (wpAny_call (codeAny_mono (F.run _ X.stack _ _ ⟨Value.ref (hp.objs.size+1)::us,[]⟩ (Value.ref (hp.objs.size+1)::us) _ _ E0 (hr.make C us [])
   (I2.env0.make C us []) (by have:=hb _ (Value.ref (hp.objs.size+1)::us) I2.kIn hl;rw[List.append_nil]at this;exact this) r2 hq) fun r s' hq'=>?_)) hul
 cases r with
 | error e=>exact False.elim hq'
 | ok fl =>
   cases fl with
   | ret u =>
     obtain⟨v,H',I3,rv,ev,q3⟩:=I2.after hq';subst ev;exact⟨rv,⟨V.ref (hp.objs.size+1),H',I3,rfl,q3⟩⟩
   | next=>exact False.elim hq'
   | brk=>exact False.elim hq'
   | cont=>exact False.elim hq'
theorem qgu {k:Nat}{fd:FuncData}{ps:List Str}{sp:Sp} (M:XMk X.K C fa) (F:qx X.prog X.w X.K X.mg X.base CX0 k fa fd ps sp) (hr:Room (k+1) X.A) (hg:Gl X x) (hm:X.mg x=some (.ref C)) (hb:Binds X.K fd ps [])
   (ha:PA X (e::es) t) (hdb:(x == ("__debug__":Str))=false:=by decide) (he:starEach (e::es) X.env=(false,eval e X.env)::starEach es X.env:=by rfl) (hpl:(backTo pos (starEach es X.env)).any (·.1)=false:=by rfl) :
   PE X (.Call (.Name x p) (e::es) [] pos) (qjj C sp t):=by
 intro pins s σ H Q I h;refine wpAny_Call_Name_kw (jy I hg hm ?_ hdb);refine callWith_K (h₀:=X.base) I.ok.mod.kin M.kp (thn (ha pos pins s σ H _ I h) fun us s1 ⟨vs,H1,I1,r,q⟩=>⟨I1.kIn,?_⟩) he hpl;exact qeG M F hr hb I1 r q.1 q.2
inductive qcS (K:Frag) (E:XK) (x:V) (H1:Hp):Prop
 | mk (ea C dx:_) (h1:x=.ref ea) (h2:xIn K C=true) (h3:H1 ea=some (.ext (ExO ea C dx .none))) (h4:Sure E C ea dx H1):qcS K E x H1
def qjo (K:Frag) (E:XK) (te:TE):TS:=fun _ σ H=>te σ H fun x H1=>qcS K E x H1
theorem qgr {E:XK}{te:TE} (th:Throws X E) (hc:X.calm=true) (he:PE X e te):PS X (.Raise (some e) none pos) (qjo X.K E te):=by
 intro pins s σ H D I h;rw[arm_exec_Raise];refine wpAny_bind (wpAny_standAt ?_);simp only[evalOpt,Option.map];refine qh1 (I.ok.hd hc) (wpAny_bind (thn (he pins s σ H _ I h) fun u s1 ⟨x,H1,I1,rx,ea,C,dx,ex,xi,e1,sr⟩=>wpAny_bind (wpAny_standAt (wpAny_pure ?_))));subst ex;obtain rfl:u=Value.ref ea:=rx;obtain⟨⟨oe,vs,hx,hcl,hdx,hd,hz,h1,hx2⟩,_,_⟩:=(show ObjOk X.prog X.w H1 s1.heap ea (.ext (ExO ea C dx .none)) from I1.hok ea _ e1)
 exact⟨ea,C,oe,vs,X.K,rfl,I1.kIn,xi,hx,hcl,hd,h1,th pins σ H1 s1 ea C dx I1 ⟨.none,e1,.inl rfl⟩ sr⟩
inductive qcR (K:Frag) (Q:VK) (vs:List V) (H1:Hp):Prop
 | mk (ea C dx tb rest:_) (h1:vs=.ref ea::rest) (h2:rest.length≤10) (h3:H1 ea=some (.ext (ExO ea C dx tb))) (h4:xIn K C=true) (h5:Q .non H1):qcR K Q vs H1
def qjm (K:Frag) (t:TA):TE:=fun σ H Q=>t σ H fun vs H1=>qcR K Q vs H1
theorem qge {H:Hp}{a:Addr}{o:HO} (h:H a=some o):upd H a o=H:=by
 funext b;unfold upd;split
 · rename_i e;rw[e,h]
 · rfl
theorem qeb:findCls [] (.type "ValueError") (.type "type") "__init__"=some (.val (.builtin "ValueError.__init__")):=by kernel_rfl
theorem qgv {pl:Sem Bool} (hg:Gl X x) (hm:X.mg x=none) (hv:bootBuiltins x=some (.type "ValueError")) (ha:PA X (e::es) t) (hn:x≠"__name__":=by decide) (hdb:(x == ("__debug__":Str))=false:=by decide)
   (hst:starEach (e::es) X.env=(false,eval e X.env)::starEach es X.env:=by rfl) (hpl:(backTo pos (starEach es X.env)).any (·.1)=false:=by rfl)
   (ht:eval (.Call (.Attribute (.Name x p) "__init__" apos) (e::es) [] pos) X.env=(do
     let ov ← eval (.Name x p) X.env
     standAt apos.atName
     let (f,first) ← holding [ov] (getMethod ov "__init__" pl)
     callWith pos f first (backTo pos (starEach (e::es) X.env)) (backToKw pos (keywordEach [] X.env))):=by rfl) :
   PE X (.Call (.Attribute (.Name x p) "__init__" apos) (e::es) [] pos) (qjm X.K t):=by
 intro pins s σ H Q I h;refine methodCall_KW (pl:=pl) (Q0 I hg hm hv ?_ hn hdb) ht;obtain⟨m,F⟩:=I.fr;refine PySem.W.method_type (v:=.builtin "ValueError.__init__") F I.mod.kin (by kernel_rfl) (by decide +kernel) qeb rfl ?_;have I0:=I.tok (s.toks+1);refine PyProof.Rows.callWith_builtin1 (thn (ha pos pins _ σ H _ I0 h) fun us s1 zz_=>?_) hst hpl;obtain⟨vs,H1,I1,r,ea,C,dx,tb,rest,ev,hl,e1,xi,q⟩:=zz_;subst ev
 obtain⟨u0,us0,rfl,r0,r1⟩:∃ u0 us0,us=u0::us0∧RelV (.ref ea) u0∧Vals rest us0:=by
   cases r with
   | cons a b=>exact⟨_,_,rfl,a,b⟩
 obtain rfl:u0=Value.ref ea:=r0;obtain⟨⟨oe,vs,hx,hcl,hdx,hd,hz,h1,hx2⟩,_,_⟩:=(show ObjOk X.prog X.w H1 s1.heap ea (.ext (ExO ea C dx tb)) from I1.hok ea _ e1)
 refine qh3 I1.kIn xi hx hcl hd hz (by rw[← r1.length,sizeLine_eq];omega) fun h' tp k1 k2=>⟨.non,H1,?_,rfl,q⟩
 have J:Inv X pins σ (upd H1 ea (.ext (ExO ea C dx tb))) { s1 with heap:=h',toks:=s1.toks }:=by
   refine I1.write (x:=ea) (e:=ea) (by rw[e1];exact True.intro) (.inl rfl) k1 ⟨_,k2⟩ (qdB ⟨_,_,k2,(Obj.cls_mapFields _ _).trans hcl,?_,Obj.data_mapFields hd _,by simp[hz],?_,?_⟩)
   · rw[← hdx];obtain⟨oc,od,odt,osl⟩:=oe;have hd':odt=.fields vs:=hd;subst hd';rfl
   · rw[Array.getElem?_setIfInBounds_ne (by decide)];exact h1
   · rw[Array.getElem?_setIfInBounds_ne (by decide)];exact hx2
 rw[qge e1]at J;exact J
structure qf7 (K:Frag) (C f:Addr):Prop where
 sp:specialIn K (.ref C) "__getattribute__"=some (some (.builtin "type.__getattribute__"))
 rd:PySem.W.readsIn K C (.type "type")=true
 at_:findCls K (.ref C) (.type "type") "__init__"=some (.val (.ref f))
 kp:keepIn K (.ref f)=true
theorem Zw {k:Nat}{fd:FuncData}{ps:List Str}{sp:Sp}{pl:Sem Bool} (c:qf7 X.K C fa) (F:qx X.prog X.w X.K X.mg X.base CX0 k fa fd ps sp) (hr:Room k X.A) (hb:Binds X.K fd ps []) (hg:Gl X x) (hm:X.mg x=some (.ref C))
   (ha:PA X (e::es) t) (hdb:(x == ("__debug__":Str))=false:=by decide)
   (hst:starEach (e::es) X.env=(false,eval e X.env)::starEach es X.env:=by rfl) (hpl:(backTo pos (starEach es X.env)).any (·.1)=false:=by rfl)
   (ht:eval (.Call (.Attribute (.Name x p) "__init__" apos) (e::es) [] pos) X.env=(do
     let ov ← eval (.Name x p) X.env
     standAt apos.atName
     let (f,first) ← holding [ov] (getMethod ov "__init__" pl)
     callWith pos f first (backTo pos (starEach (e::es) X.env)) (backToKw pos (keywordEach [] X.env))):=by rfl) :
   PE X (.Call (.Attribute (.Name x p) "__init__" apos) (e::es) [] pos) (qjt sp [] E0 t):=by
 intro pins s σ H Q I h;refine methodCall_KW (pl:=pl) (jy I hg hm ?_ hdb) ht;refine PySem.W.method_cls I.kIn c.sp (PySem.W.cls_value I.kIn c.rd c.at_ rfl ?_);have I0:=I.tok (s.toks+1);refine callWith_K (h₀:=X.base) I.ok.mod.kin c.kp (thn (ha pos pins _ σ H _ I0 h) fun us s1 ⟨vs,H1,I1,r,q⟩=>⟨I1.kIn,?_⟩) hst hpl;exact qdc F hr hb .nil qr I1 r q
def qkF (K:Frag) (ta tv:TE) (f:Str):TS:=fun D σ H=>tv σ H fun y H1=>ta σ H1 fun x H2=>∃ ea C tb,x=.ref ea∧H2 ea=some (.ext (ExO ea C none tb))∧XC K C∧NoAttr K C f ∧
 ∀ dx,H2 dx=none->dx≠ea->D.nx σ (upd (upd H2 ea (.ext (ExO ea C (some dx) tb))) dx (.xd [(f,y)]))
theorem qio (ha:PE X o ta) (hv:PE X value tv) (hs:swapsWith value (some (.Attribute o f pos')) pos.line X.env=pure false):PS X (.Assign [.Attribute o f pos'] value pos) (qkF X.K ta tv f):=by
 intro pins s σ H D I h;refine plainObj_wpAny_Assign_Attribute (thn (hv pins s σ H _ I h) fun u s1 ⟨y,H1,I1,ry,q⟩=>thn (ha pins s1 σ H1 _ I1 q) fun ov s2 zz_=>?_) hs;obtain⟨x,H2,I2,rx,ea,C,tb,ex,e1,c,n,q2⟩:=zz_;subst ex;obtain rfl:ov=Value.ref ea:=rx;obtain⟨⟨oe,vs,hx,hcl,hdx,hd,hz,h1,hx2⟩,_,_⟩:=(show ObjOk X.prog X.w H2 s2.heap ea (.ext (ExO ea C none tb)) from I2.hok ea _ e1)
 refine qkm I2.kIn c.xi hx hcl hd hdx c.sa n fun h' dx hp k1 k2 k3=>⟨σ,_,?_,q2 dx (I2.hok.fresh hp) (Nat.ne_of_gt (Nat.lt_of_lt_of_le (Heap.lt_size hx) hp))⟩
 refine I2.two (by rw[e1];exact True.intro) hp k3 ⟨_,k1⟩ (qdB ⟨_,_,k1,hcl,rfl,hd,hz,h1,hx2⟩) ⟨_,k2,fun g=>?_⟩;by_cases z:g=f
 · subst z;simp[List.lookup];exact ry
 · have:(g == f)=false:=by simp[z]
   simp[List.lookup,this,z];exact True.intro
inductive qei (K:Frag) (f:Str) (Q:VK) (x:V) (H1:Hp):Prop
 | mk (ea C dx fs v:_) (h1:x=.ref ea) (h2:XAt H1 ea C (some dx)) (h3:H1 dx=some (.xd fs)) (h4:XC K C) (h5:NoAttr K C f) (h6:fs.lookup f=some v) (h7:Q v H1):qei K f Q x H1
def qjk (K:Frag) (ta:TE) (f:Str):TE:=fun σ H Q=>ta σ H fun x H1=>qei K f Q x H1
theorem qjb {pins:List (Addr×Obj)}{σ:St}{H:Hp}{s:Shared}{ea C dx:Addr}{fs:List (Str×V)} (I:Inv X pins σ H s) (x:XAt H ea C (some dx)) (hd:H dx=some (.xd fs)) :
   ∃ (ox od:Obj) (mA:Str->Option Value),InstAt s.heap ea ox C (some od)∧(∀ name,PySem.W.lookIn name od=some (mA name))∧∀ f,RelO (fs.lookup f) (mA f):=by
 obtain⟨tb,e1,_⟩:=x;obtain⟨⟨oe,vs,hx,hcl,hdx,hdt,hz,h1,hx2⟩,_,_⟩:=(show ObjOk X.prog X.w H s.heap ea (.ext (ExO ea C (some dx) tb)) from I.hok ea _ e1)
 obtain⟨mA,n,r⟩:=(show ObjOk X.prog X.w H s.heap dx (.xd fs) from I.hok dx _ hd)
 obtain⟨od,ho,hl⟩:=qbX n;exact⟨oe,od,mA,⟨hx,hcl,by unfold notCls;rw[hdt],by rw[hdx];exact ho⟩,hl,r⟩
theorem qit (he:PE X e ta) (hb:attributeBase e f X.env (eval e X.env)=eval e X.env):PE X (.Attribute e f pos) (qjk X.K ta f):=by
 intro pins s σ H Q I h;refine qf1 hb (thn (he pins s σ H _ I h) fun u s1 zz_=>?_);obtain⟨x,H1,I1,rx,ea,C,dx,fs,v,ex,xa,hd,c,n,l,q⟩:=zz_;subst ex;obtain rfl:u=Value.ref ea:=rx;obtain⟨ox,od,mA,J,hl,r⟩:=qjb I1 xa hd;obtain⟨uv,hu,ru⟩:=RelO.some_of (v:=v) (o:=mA f) (by rw[← l];exact r f)
 have hh:hasDictIn X.K C=true:=by
   obtain⟨cd,bm,hcd,_,_,hdict⟩:=xcd c.xi;unfold hasDictIn;rw[hcd];exact hdict
 exact qko I1.kIn J c.xi c.ga c.na (PySem.W.findObj_own hh n rfl (by rw[hl,hu])) (qb4 ru) ⟨v,H1,I1.tok _,ru,q⟩
def qjc (K:Frag) (C:Addr):V->Option Bool
 | .ref D=>if (clsIn K D).isSome && typeIn K (.ref D) == some (.type "type") then subIn K (.ref C) (.ref D) else none
 | .ty T=>if T == "ValueError" then some true else none
 | _=>none
end
abbrev qhd (X:Cx):Cx:={ X with xe:=fun _ _=>False }
abbrev qgL (X:Cx) (ea:Addr):Cx:={ X with A:=X.A.mark (some (.ref ea)),calm:=false,xe:=fun _ _=>False }
section
variable {X:Cx}{pins:List (Addr×Obj)}{σ:St}{H:Hp}{s:Shared}
theorem Inv.dead (I:Inv X pins σ H s):Inv (qhd X) pins σ H s:=by
 obtain⟨⟨a1,a2,a3,a4,a5,a6,a7,a8,a9,a10,a11,a12,a13,a14,a15,a16,a17,a18⟩,b1,b2,b3,b4,b5,b6,b7,b8,b9,b10⟩:=I;exact⟨⟨a1,a2,a3,a4,a5,a6,a7,a8,a9,a10,a11,a12,a13,a14,a15,a16,a17,a18⟩,b1,b2,b3,b4,b5,b6,b7,b8,b9,b10⟩
theorem Inv.live (I:Inv (qhd X) pins σ H s):Inv X pins σ H s:=by
 obtain⟨⟨a1,a2,a3,a4,a5,a6,a7,a8,a9,a10,a11,a12,a13,a14,a15,a16,a17,a18⟩,b1,b2,b3,b4,b5,b6,b7,b8,b9,b10⟩:=I;exact⟨⟨a1,a2,a3,a4,a5,a6,a7,a8,a9,a10,a11,a12,a13,a14,a15,a16,a17,a18⟩,b1,b2,b3,b4,b5,b6,b7,b8,b9,b10⟩
theorem Inv.mark (I:Inv X pins σ H s) (ea:Addr):Inv (qgL X ea) pins σ H s:=by
 obtain⟨⟨a1,a2,a3,a4,a5,a6,a7,a8,a9,a10,a11,a12,a13,a14,a15,a16,a17,a18⟩,b1,b2,b3,b4,b5,b6,b7,b8,b9,b10⟩:=I;exact⟨⟨a1,a2,a3,a4,a5,a6,a7,a8,fun z=>(nomatch z),a10,a11,a12,a13,a14,a15,a16,a17,a18⟩,b1,b2,b3,b4,b5,b6,b7,b8,b9,b10⟩
theorem Inv.unmark {ea:Addr}{A0:Prop} (k:X.Ok) (I:Inv (qgL X ea) pins σ H s):Inv X pins σ H s:=by
 obtain⟨_,b1,b2,b3,b4,b5,b6,b7,b8,b9,b10⟩:=I;exact⟨k,b1,b2,b3,b4,b5,b6,b7,b8,b9,b10⟩
theorem Inv.lose {h':Heap}{m':Str->Option Value}{t':Nat} (I:Inv X pins σ H s) (hn:h'.Ns X.env.locals m') (hs:Heap.SameBut X.env.locals s.heap h'):Inv X pins (List.replicate X.N.length none) H { s with heap:=h',toks:=t' }:=by
 have neL:∀ b o,X.s₀.heap.get? b=some o->b≠X.env.locals:=fun b o e=>Nat.ne_of_lt (Nat.lt_of_lt_of_le (Heap.lt_size e) I.ok.above);have up:∀ b o,b≠X.env.locals->s.heap.get? b=some o->h'.get? b=some o:=fun b o hb e=>(hs.2 b hb).trans e
 refine⟨I.ok,I.os,I.bare,⟨fun b o e n hb hx=>up b o (neL b o e) (I.base.keep b o e n hb hx),fun b o e n hb hx=>?_,I.base.free,fun b o e hx=>?_,I.base.tups,I.base.frzs,I.base.tbls⟩,
   ⟨m',hn,fun i x v _ e2 _=>?_⟩,fun x c e=>?_,I.free,I.freeC,fun p hp=>?_,fun b u e=>?_,by simp⟩
 · obtain⟨sl,q⟩:=I.base.slot b o e n hb hx;exact⟨sl,up b _ (neL b o e) q⟩
 · obtain⟨o',q⟩:=I.base.there b o e hx;exact⟨o',up b _ (neL b o e) q⟩
 · rw[List.getElem?_replicate]at e2;split at e2<;>cases e2
 · obtain⟨v,o,ho,hd⟩:=I.cell x c e;exact⟨v,o,up c o (I.cne x c e) ho,hd⟩
 · obtain⟨e,n,ne,nf,d⟩:=I.pin p hp;exact⟨up p.1 p.2 ne e,n,ne,nf,d⟩
 · refine(I.hok b u e).stay (fun c v hc q=>up c v (fun z=>?_) q) (fun _ q=>q) fun _ _ q=>q;rcases hc with hc|hc
   · rw[← hc,z,I.free]at e;cases e
   · rw[z,I.free]at hc;cases hc
end
section
variable {M:Model}{A:Around}{E:Value->Shared->Prop}{s:Shared}
theorem qea {K:Frag}{C L x:Addr}{ox:Obj}{Q:Bool->Shared->Prop} (X:K.In s.heap) (xc:xIn K C=true) (xl:xIn K L=true) (hm:mroIn K C (.ref L)=some true) (hx:s.heap.get? x=some ox) (hc:ox.cls=.ref C)
   (h:Q true s):wpAny M A (excMatches (.ref x) (.ref L)) Q E s:=by
 obtain⟨hp,g,d,tk,os⟩:=s;obtain⟨nm,qn,N,bs,bm,sn,sub,ab,col,dd,k0,k1,k2,k3,k5,hC,hxt⟩:=qkf X xl;have hcB:(Value.ref L::bm).contains (.type "BaseException")=true:=by rw[List.contains_cons,z9 (v:=true) (by decide +kernel) hxt,Bool.or_true]
 have f:=tc_notTuple;have LL:=looks_mroIn (M:=M) X hm;unfold excMatches
 repeat (first
   | (with_reducible refine wpAny_loadPart_at hx ?_;rw[hc])
   | with_reducible refine wpAny_loadPart_at hC ?_
   | (with_reducible refine wpAny_isSubtype_exc hC ?_;rw[hcB])
   | (with_reducible refine LL.at ?_)
   | wp_step)
 exact h
end
abbrev XTE:=St->Hp->VK->XK->Prop
abbrev XTS:=qd9->XK->St->Hp->Prop
def qk7 (X:Cx) (pins:List (Addr×Obj)) (σ:St) (E:XK) (Ex:Value->Shared->Prop):Prop :=
 ∀ (ea C:Addr) (dx:Option Addr) (H':Hp) (s':Shared),Inv X pins σ H' s'->XAt H' ea C dx->Sure E C ea dx H'->Ex (.ref ea) s'
def PEX (X:Cx) (e:Expr) (t:XTE):Prop :=
 ∀ (pins:List (Addr×Obj)) (s:Shared) (σ:St) (H:Hp) (Q:VK) (E:XK) (Ex:Value->Shared->Prop),Inv X pins σ H s->t σ H Q E->qk7 X pins σ E Ex->wpAny (model X.prog X.w) X.A (eval e X.env) (EP X pins σ Q) Ex s
def PX (X:Cx) (st:List Stmt) (t:XTS):Prop :=
 ∀ (pins:List (Addr×Obj)) (s:Shared) (σ:St) (H:Hp) (D:qd9) (E:XK) (Ex:Value->Shared->Prop),Inv X pins σ H s->t D E σ H->qk7 X pins σ E Ex->wpAny (model X.prog X.w) X.A (execs st X.env) (SP X pins D) Ex s
section
variable {X:Cx}{e o c:Expr}{es:List Expr}{a b:List Stmt}{x m:Str}{p pos apos:Pos}{ta:TE}{t:TA}{tc:TT}{f C:Addr}{fd:FuncData}{ps:List Str}{sp:Sp}{k:Nat}
theorem qab {α:Type}{u:Sem α}{Q:α->Shared->Prop}{M:Model}{A:Around}{Ex:Value->Shared->Prop}{s:Shared} (h:wpAny M A u Q (fun _ _=>False) s):wpAny M A u Q Ex s:=wpAny_mono h (fun _ _ z=>z) fun _ _ z=>z.elim
theorem qih {pins:List (Addr×Obj)}{σ:St}{H:Hp}{s:Shared}{Q:VK}{E:XK}{Ex:Value->Shared->Prop}{us:List Value}{vs:List V} (F:qx X.prog X.w X.K X.mg X.base (CX1 X.prog X.w) k f fd ps sp) (hr:Room k X.A) (hb:Binds X.K fd ps [])
   (I:Inv X pins σ H s) (r:Vals vs us) (h:sp vs H Q E) (w:qk7 X pins σ E Ex):wpAny (model X.prog X.w) X.A (call (.ref f) us) (EP X pins σ Q) Ex s:=by
 have hl:(us++[]).length=ps.length:=by rw[List.append_nil,← r.length];exact F.len _ _ _ _ h
 have hbb:=hb s us I.kIn hl;rw[List.append_nil]at hbb;refine wpAny_call (codeAny_mono (F.run X.A X.stack s H ⟨us,[]⟩ us vs Q E hr I.env0 hbb r h) fun r s' hq=>?_)
 cases r with
 | error e =>
   obtain⟨ea,C,dx,H',e1,os,bare,un,hok,x,q⟩:=hq;subst e1;exact w ea C dx H' s' (I.call' os un hok bare fun b z=>absurd z (by simp)) x q
 | ok fl =>
   cases fl with
   | ret u=>exact I.after hq
   | next=>exact False.elim hq
   | brk=>exact False.elim hq
   | cont=>exact False.elim hq
def qkp (C:Addr) (m:Str) (sp:Sp) (ta:TE) (t:TA):XTE:=fun σ H Q E=>ta σ H fun x H1=>∃ a dx fs,x=.ref a∧H1 a=some (.ins C dx fs)∧fs.lookup m=none∧t σ H1 fun vs H2=>sp (x::vs) H2 Q E
theorem qgt {pl:Sem Bool} (he:PE (qhd X) o ta) (c:Cls X.K C) (hm:qf5 X.K C m f) (F:qx X.prog X.w X.K X.mg X.base (CX1 X.prog X.w) k f fd ps sp) (hr:Room k X.A) (hb:Binds X.K fd ps []) (ha:PA (qhd X) (e::es) t)
   (hst:starEach (e::es) X.env=(false,eval e X.env)::starEach es X.env:=by rfl) (hpl:(backTo pos (starEach es X.env)).any (·.1)=false:=by rfl)
   (ht:eval (.Call (.Attribute o m apos) (e::es) [] pos) X.env=(do
     let ov ← eval o X.env
     standAt apos.atName
     let (f,first) ← holding [ov] (getMethod ov m pl)
     callWith pos f first (backTo pos (starEach (e::es) X.env)) (backToKw pos (keywordEach [] X.env))):=by rfl) :
   PEX X (.Call (.Attribute o m apos) (e::es) [] pos) (qkp C m sp ta t):=by
 intro pins s σ H Q E Ex I h w;refine methodCall_KW (pl:=pl) (thn (qab (he pins s σ H _ I.dead h)) fun u s1 zz_=>?_) ht;obtain⟨x,H1,I1,rx,a,dx,fs,ex,ea,l,q⟩:=zz_;subst ex;obtain rfl:u=Value.ref a:=rx;refine jA I1.live ea c hm l ?_;refine callWith_K (first:=[.ref a]) (h₀:=X.base) I.ok.mod.kin hm.kp (thn (qab (ha pos pins s1 σ H1 _ I1 q)) fun us s2 ⟨vs,H2,I2,r,q2⟩=>⟨I2.kIn,?_⟩) hst hpl;exact qih (us:=.ref a::us) (vs:=.ref a::vs) F hr hb I2.live (.cons rfl r) q2 w
def qkq (te:XTE):XTS:=fun D E σ H=>te σ H (fun _ H1=>D.nx σ H1) E
theorem qin {te:XTE} (he:PEX X e te) (hs:swapsWith e none pos.line X.env=pure false:=by rfl):PX X [.Expr e pos] (qkq te):=by
 intro pins s σ H D E Ex I h w;refine wpAny_execs_cons (wpAny_Expr_any (thn (he pins s σ H _ E Ex I h w) fun v s1 zz_=>?_) I.quiet hs);obtain⟨x,H1,I1,r1,q1⟩:=zz_;exact wpAny_execs_nil (show SP X pins D .next s1 from ⟨σ,H1,I1,q1⟩)
end
def qiI (v:Value):Bool:=match v with
 | .type s=>s == "type"
 | _=>false
def qiJ (v:Option Value):Bool:=match v with
 | some (.builtin s)=>s == "ValueError.__new__"
 | _=>false
def qkL (C:Addr) (l:List Value):Bool:=match l with
 | .ref C1::bm=>C1 == C && jY bm
 | _=>false
def xOb (C:Addr) (o:Obj):Bool:=match o.data with
 | .cls cd=>qiI o.cls && qkL C cd.mro && !cd.hasDel && cd.hasDict && o.slots.size == 6 && qiJ (o.slots.getD 4 none)
 | _=>false
theorem qg7 {v:Value} (h:qiI v=true):v=.type "type":=by
 cases v with
 | type s=>rw[eq_of_beq (show (s == "type")=true from h)]
 | _=>cases h
theorem qg8 {v:Option Value} (h:qiJ v=true):v=some (.builtin "ValueError.__new__"):=by
 cases v with
 | none=>cases h
 | some v =>
   cases v with
   | builtin s=>rw[eq_of_beq (show (s == "ValueError.__new__")=true from h)]
   | _=>cases h
theorem qiB {C:Addr}{l:List Value} (h:qkL C l=true):∃ bm,l=.ref C::bm∧jY bm=true:=by
 cases l with
 | nil=>cases h
 | cons v bm =>
   cases v with
   | ref C1 =>
     have h':(C1 == C && jY bm)=true:=h;rw[Bool.and_eq_true]at h';exact⟨bm,by rw[eq_of_beq h'.1],h'.2⟩
   | _=>cases h
theorem six {α:Type}{l:List α} (h:l.length=6):∃ a b c d e f,l=[a,b,c,d,e,f]:=by
 obtain⟨a,l,rfl⟩:=List.exists_cons_of_length_eq_add_one h;obtain⟨b,l,rfl⟩:=List.exists_cons_of_length_eq_add_one (Nat.succ.inj h);obtain⟨c,l,rfl⟩:=List.exists_cons_of_length_eq_add_one (Nat.succ.inj (Nat.succ.inj h));obtain⟨d,l,rfl⟩:=List.exists_cons_of_length_eq_add_one (Nat.succ.inj (Nat.succ.inj (Nat.succ.inj h)));obtain⟨e,l,rfl⟩:=List.exists_cons_of_length_eq_add_one (Nat.succ.inj (Nat.succ.inj (Nat.succ.inj (Nat.succ.inj h))));obtain⟨f,l,rfl⟩:=List.exists_cons_of_length_eq_add_one (Nat.succ.inj (Nat.succ.inj (Nat.succ.inj (Nat.succ.inj (Nat.succ.inj h)))))
 have:l=[]:=List.eq_nil_of_length_eq_zero (Nat.succ.inj (Nat.succ.inj (Nat.succ.inj (Nat.succ.inj (Nat.succ.inj (Nat.succ.inj h))))))
 subst this;exact⟨a,b,c,d,e,f,rfl⟩
theorem xIn_of {K:Frag}{C:Addr}{o:Obj} (h:K.lookup C=some o) (q:xOb C o=true):xIn K C=true:=by
 obtain⟨oc,dd,od,⟨sl⟩⟩:=o
 cases od with
 | cls cd =>
   have q':(qiI oc && qkL C cd.mro && !cd.hasDel && cd.hasDict && sl.length == 6 && qiJ ((Array.mk sl).getD 4 none))=true:=q;simp only[Bool.and_eq_true,beq_iff_eq,Bool.not_eq_true']at q';obtain⟨⟨⟨⟨⟨q0,q1⟩,q2⟩,q3⟩,q4⟩,q5⟩:=q';obtain⟨bm,hm,hx⟩:=qiB q1;obtain⟨k0,k1,k2,k3,k4,k5,rfl⟩:=six q4;have e4:k4=some (.builtin "ValueError.__new__"):=qg8 q5;have e0:=qg7 q0;obtain⟨nm,bs,mro,ns,qn,hdc,sn,sub,ab,col,del⟩:=cd;dsimp only at hm q2 q3;subst hm q2 q3 e4 e0;exact xIn_iff.mpr ⟨nm,qn,ns,bs,bm,sn,sub,ab,col,dd,k0,k1,k2,k3,k5,h,hx⟩
 | _=>cases q
theorem xIsa_of {K:Frag}{C D:Addr}{b:Bool} (h1:isClsIn K D=true) (h2:typeIn K (.ref D)=some (.type "type")) (h3:subIn K (.ref C) (.ref D)=some b):qjc K C (.ref D)=some b:=by
 unfold qjc;have h1':(clsIn K D).isSome=true:=h1;simp only[h1',h2,Bool.true_and,beq_self_eq_true,if_true];exact h3
theorem qj8 {P:Program}{w:World}{X:Cx}:jo (CX1 P w) X E0:=fun _ _ _ _ _ _ _ ⟨_,_,_,H',_,_,_,_,_,x,q⟩=>(q H' (fun _ _ _ e=>e) x).elim
def Rz (C:Addr) (f:Str) (v:V) (H:Hp) (E:XK):Prop:=∀ (ea dx:Addr) (H':Hp),Same H H'->H ea=none->H dx=none->H' dx=some (.xd [(f,v)])->XAt H' ea C (some dx)->E (.ref C) (some ea) H'
theorem Rz.same {C:Addr}{f:Str}{v:V}{H G:Hp}{E:XK} (h:Rz C f v H E) (s:Same H G):Rz C f v G E:=fun ea dx H' s' n1 n2 e x=>h ea dx H' (s.trans s') (s.none n1) (s.none n2) e x
theorem Rz.sure {C:Addr}{f:Str}{v:V}{H:Hp}{E:XK} (h:Rz C f v H E) {ea dx:Addr}{tb:Value} (n1:H ea=none) (n2:H dx=none) (ne:dx≠ea) :
   Sure E C ea (some dx) (upd (upd (upd H ea (.ext (ExO ea C none .none))) ea (.ext (ExO ea C (some dx) tb))) dx (.xd [(f,v)])):=by
 intro H' k x;refine h ea dx H' (fun b o e=>k b o (qh e n1) ?_) n1 n2 (k dx _ ne qb) x;rw[qi (qh e n2),qi (qh e n1),qi (qh e n1)];exact e
section
variable {P:Program}{w:World}{K:Frag}{mg:Str->Option Value}{base:Heap}
theorem Fun.okX {x qual:Str}{st:Stmt}{f:Addr}{fd:FuncData}{N ps:List Str}{k:Nat}{sp:Sp} (F:Fun K x qual st f fd) (S:qk N ps (qe st)) (len:∀ vs H Q E,sp vs H Q E->vs.length=ps.length)
   (hbody:∀ (cdv:Value) (A:Around) (outer:List Env) (s:Shared) (H:Hp) (vs:List V) (Q:VK) (E:XK),Room k (A.deeper (envOfC qual (qe st) s.heap.objs.size f cdv))->sp vs H Q E ->
     ∃ t,PSs (qZ (CX1 P w) P w K mg base N qual (qe st) f cdv A outer s H E) (qM st) t∧t { nx:=fun _ H'=>Q .non H',rt:=Q } (jp N vs) H):qx P w K mg base (CX1 P w) (k+1) f fd ps sp:=by
 obtain⟨oc,od,kV,doc,pm,an,cdv,ct,osl,rfl,lk,hcd⟩:=F.ex;exact qj5 lk hcd S len fun A outer s H vs Q E hr hsp=>hbody cdv A outer s H vs Q E hr hsp
end
theorem CompOk.defX {CX:CXT}{P:Program}{w:World}{K:Frag}{mg:Str->Option Value}{base:Heap}{N0:List Str}{qual:Str}{sc0:Scope}{f:Addr}{cd:Value}{A:Around}{outer:List Env}{s:Shared}{H:Hp}{E:XK}{scope:Scope}
   (N:List Str) (js:List (Option Nat)) (hk0:sc0.kind=.function:=by rfl) (hk:scope.kind=.function:=by rfl) (hcell:∀ y∈scope.names,y.2≠.cell:=by decide +kernel) (hnames:∀ y∈scope.names,y.2=.local->scope.names.lookup y.1=some .local:=by decide +kernel)
   (hfr0:∀ y∈scope.names,y.2=.free->sc0.names.lookup y.1=some .cell:=by decide +kernel) (len:js.length=N.length:=by rfl) (hfr:qiP scope N0 N js=true:=by decide +kernel) :
   CompOk (qZ CX P w K mg base N0 qual sc0 f cd A outer s H E) scope N (qQ (qZ CX P w K mg base N0 qual sc0 f cd A outer s H E).env.cells scope.names []) js :=
 CompOk.of hk hcell hnames hk0 (fun y hy z=>⟨hfr0 y hy z,Option.isSome_iff_exists.mp (PySem.W.cellsFrom_some _ _ _ (.inl (hfr0 y hy z)))⟩) len (qdz hfr)
theorem qiQ {K:Frag}{t:Bool}{a b:Addr}{xs ys:List V}{g:TG}{tb:TS}{D:qd9}{σ:St}{H:Hp} (Pv:Nat->St->Hp->Prop) (he:xs.length=ys.length) (h0:Pv 0 σ H) (hl:∀ i σ H,i≤xs.length->Pv i σ H->SqK K t H a xs∧SqK K t H b ys)
   (hs:∀ i x y σ H p,xs[i]?=some x->ys[i]?=some y->Pv i σ H->H p=none->g (.ref p) σ (upd H p (.tup [x,y])) fun σ2 H2=>tb { D with nx:=Pv (i+1),ct:=Pv (i+1),bk:=D.nx } σ2 H2) (hd:∀ σ H,Pv xs.length σ H->D.nx σ H) :
   ∃ W:Nat->Nat->St->Hp->Prop,(∃ m,W 0 m σ H)∧∀ i m σ H,W i m σ H ->
     ((Itz K t a b).stop i H∧D.nx σ H)∨((Itz K t a b).go i H∧∃ N:St->Hp->Prop,(∀ σ' H',N σ' H'->∃ m',m' < m∧W (i+1) m' σ' H')∧∀ x H',(Itz K t a b).yld i H x H'->g x σ H' fun σ2 H2=>tb { D with nx:=N,ct:=N,bk:=D.nx } σ2 H2):=by
 refine⟨fun i m σ H=>m=xs.length - i∧i≤xs.length∧Pv i σ H,⟨xs.length,by simp,Nat.zero_le _,h0⟩,?_⟩;rintro i m σ H ⟨rfl,hi,p⟩;obtain⟨q1,q2⟩:=hl i σ H hi p;by_cases hlt:i < xs.length
 · have hlt2:i < ys.length:=by omega
   refine .inr ⟨⟨xs,ys,xs[i],ys[i],q1,q2,by simp[hlt],by simp[hlt2]⟩,Pv (i+1),fun σ' H' p'=>⟨xs.length - (i+1),by omega,rfl,hlt,p'⟩,fun x H' y=>?_⟩;obtain⟨c,u,v,hn,rfl,z,rfl⟩:=y;obtain⟨z1,z2⟩:=z xs ys q1 q2;exact hs i u v σ _ c z1 z2 p hn
 · have e:i=xs.length:=by omega
   subst e;exact .inl ⟨⟨xs,ys,q1,q2,.inl (Nat.le_refl _)⟩,hd σ H p⟩
theorem qkl {K:Frag}{C:Addr} (q:xIn K C=true):mroIn K C (.ref C)=some true:=by
 obtain⟨cd,bm,h1,h2,_,_⟩:=xcd q;unfold mroIn;rw[h1,Option.bind_some,h2,if_neg (by simp)];simp
theorem qhe (zs:List V) (n:Nat) (k:Int) (hk:k=(n:Int)):qga zs none (some k)=zs.take n:=by
 subst hk;unfold qga;rw[HT.sIx_none,HT.sIx_nat,Nat.sub_zero,List.drop_zero];by_cases h:n≤zs.length
 · rw[Nat.min_eq_left h]
 · rw[Nat.min_eq_right (by omega),List.take_of_length_le (Nat.le_refl _),List.take_of_length_le (by omega)]
theorem qiy {h:Heap}{a:Addr}{m m':Str->Option Value} (x:h.Ns a m) (y:h.Ns a m'):m=m':=by
 obtain⟨o,es,ep,ho,hd,_,f⟩:=x;obtain⟨o',es',ep',ho',hd',_,f'⟩:=y;rw[ho]at ho';cases ho';rw[hd]at hd';cases hd';exact funext fun n=>(f n).symm.trans (f' n)
section
variable {X:Cx}{pins:List (Addr×Obj)}{σ:List (Option V)}{H:Hp}{s:Shared}{pos:Pos}
theorem Inv.gone {h':Heap}{m:Str->Option Value}{n:Str}{i:Nat}{v:Option Value}{t':Nat} (I:Inv X pins σ H s) (hN:X.N.Nodup) (hi:X.N[i]?=some n) (hm:s.heap.Ns X.env.locals m)
   (hn:h'.Ns X.env.locals (fun x=>if x=n then v else m x)) (hs:Heap.SameBut X.env.locals s.heap h'):Inv X pins (σ.set i none) H { s with heap:=h',toks:=t' }:=by
 have J:=I.lose (t':=t') hn hs;refine⟨J.ok,J.os,J.bare,J.base,?_,J.cell,J.free,J.freeC,J.pin,J.hok,by rw[List.length_set];exact I.len⟩;obtain⟨m0,hm0,hl⟩:=I.loc;rw[qiy hm0 hm]at hl;refine⟨_,hn,fun j x w e1 e2 e3=>?_⟩
 have ne:i≠j:=fun z=>by
   subst z;by_cases lt:i < σ.length
   · rw[List.getElem?_set_self lt]at e2;cases e2
   · rw[List.getElem?_eq_none (by rw[List.length_set];omega)]at e2;cases e2
 rw[List.getElem?_set_ne ne]at e2;have nx:x≠n:=fun z=>ne (qbe hN hi (z▸e1));obtain⟨u,r,l⟩:=hl j x w e1 e2 e3;refine⟨u,r,?_⟩;rcases l with l|⟨k,c,e,ob,ho,hd⟩
 · refine .inl ⟨l.1,?_⟩;show (if x=n then v else m x)=some u;rw[if_neg nx];exact l.2
 · exact .inr ⟨k,c,e,ob,(hs.2 c (I.cne x c e)).trans ho,hd⟩
def qkr (K:Frag) (LC:Addr) (i:Nat) (tb:XTS) (th:TS):TS:=fun D σ H=>tb D (fun Cv eo H'=>∃ C ea,Cv=.ref C∧eo=some ea∧xIn K C=true∧mroIn K C (.ref LC)=some true ∧
 th { nx:=fun σ' H2=>D.nx (σ'.set i none) H2,rt:=D.rt } (σ.set i (some (.ref ea))) H') σ H
theorem qip {body suite:List Stmt}{b₀:Stmt}{lx n:Str}{np hpos:Pos}{i:Nat}{LC:Addr}{tb:XTS}{th:TS} (hst:X.stack=X.env::X.outer) (hfr:X.env.frame=some X.env.locals)
   (hb:PX X body tb) (hg:Gl X lx) (hm:X.mg lx=some (.ref LC)) (xl:xIn X.K LC=true) (hN:X.N.Nodup) (hi:X.N[i]?=some n) (hx:Loc X.env.scope n) (hloc:X.env.kindOf n=some .local)
   (hh:∀ ea,PSs (qgL X ea) (b₀::suite) th) (hdb:(lx == ("__debug__":Str))=false:=by decide) (hf:X.fn n=true∨X.env.scope.names.lookup n=some .local:=by first|exact .inl rfl|exact .inr rfl) :
   PS X (.Try body [.ExceptHandler (some (.Name lx np)) (some n) (b₀::suite) hpos] [] [] pos) (qkr X.K LC i tb th):=by
 intro pins s σ H D I h;refine wpAny_Try_except ?_;refine wpAny_mono (hb pins s σ H D _ (fun e s₁=>wpAny (model X.prog X.w) X.A (noteFrame e X.env) (fun _ s₂=>wpAny (model X.prog X.w) X.A (setFlight e none) (fun _ s₃=>wpAny (model X.prog X.w) X.A (handleBy e X.env [.ExceptHandler (some (.Name lx np)) (some n) (b₀::suite) hpos]) (SP X pins D) X.xe s₃) X.xe s₂) X.xe s₁) I h ?_)
   (fun f s1 q=>?_) fun e s1 q=>q
 · intro ea C dx H' s' J xa sr;refine qfi J hst hfr J.ok.frames xa fun s2 T hT hne J2=>?_;obtain⟨C1,ea1,e1,e2,xc,hmr,q⟩:=sr _ (fun b o hb e=>JR hT hb e) (qfk hT hne);cases e1;cases e2;have tb1:Q1 H' ea C dx T ea=some (.ext (ExO ea C dx (.ref T))):=by unfold Q1;rw[qi (Ne.symm hne),qb]
   have tb2:Q1 H' ea C dx T T=some (.ext (TbO T)):=by unfold Q1;rw[qb]
   obtain⟨⟨oe,vs,hx1,hcl,hdx,hd,hz,h1,hx2⟩,_,_⟩:=(show ObjOk X.prog X.w _ s2.heap ea (.ext (ExO ea C dx (.ref T))) from J2.hok ea _ tb1)
   obtain⟨⟨oT,ts,hT1,hTd,hT3⟩,_,_⟩:=(show ObjOk X.prog X.w _ s2.heap T (.ext (TbO T)) from J2.hok T _ tb2)
   have JM:=J2.mark ea;refine wpAny_handleBy_cons (codeAny_handlers_test (jy (X:=qgL X ea) JM hg hm ?_ hdb)) (by intro z;cases z);refine qea J2.kIn xc xl hmr hx1 hcl ?_;refine codeAny_handlers_suite_as ?_;unfold setFlight;refine wpAny_bind (wpAny_field hx1 hd h1 ?_);rw[if_pos (show (Value.ref T != Value.none)=true from by simp)];refine wpAny_setField hT1 hTd (Array.getElem?_eq_some_iff.mp hT3).1 ?_;rw[show s2.heap.update T (Obj.mapFields (·.setIfInBounds 3 ((none:Option Addr).elim Value.none fun f=>rawInt f)))=s2.heap from Heap.update_setField_same s2.heap T oT ts 3 Value.none hT1 hTd hT3];refine Zv (v:=.ref ea) J2 hN hi hx rfl (fun s3 J3=>?_) hf;refine wpAny_mono (hh ea pins s3 _ _ _ (J3.mark ea) q) (fun fl s4 q4=>?_) fun _ _ z=>z.elim
   cases fl with
   | next =>
     obtain⟨σ',H4,J4,z⟩:=q4;have J5:=Inv.unmark (A0:=True) J2.ok J4;obtain⟨m,hn,_⟩:=id J5.loc;refine wpAny_nameGoes_keeps hloc hn (by rw[J2.ok.kind];rfl) fun h' v hn' hs'=>?_;exact⟨_,H4,J5.gone hN hi hn hn' hs',z⟩
   | brk=>obtain⟨_,_,_,z⟩:=q4;exact z.elim
   | cont=>obtain⟨_,_,_,z⟩:=q4;exact z.elim
   | ret u =>
     obtain⟨v,σ',H4,J4,rv,z⟩:=q4;have J5:=Inv.unmark (A0:=True) J2.ok J4;obtain⟨m,hn,_⟩:=J5.loc;refine wpAny_nameGoes hloc hn (by rw[J2.ok.kind];rfl) fun h' m' hn' hs'=>?_;exact⟨v,_,H4,J5.lose hn' hs',rv,z⟩
 · cases f with
   | next=>exact wpAny_execs_nil q
   | ret v=>exact q
   | brk=>exact q
   | cont=>exact q
end
def qlb (i j:Int):Prop:=0 < j∧j < 340282366920938463463374607431768211456
theorem qgw {X:Cx}:OpR X (binaryOp .FloorDiv) (rI qlb fun i j=>.int (i / j)):=opI fun i j _ _ _ _ _ hc q=>by
 have h1:(0:Int) < j:=hc.1;have h2:j < 340282366920938463463374607431768211456:=hc.2;have h3:j.natAbs < 2 ^ 128:=by omega
 have h4:j.natAbs.log2 < 128:=(Nat.log2_lt (by omega)).mpr h3;exact floordiv_int (by omega) (by rw[Int.fdiv_eq_ediv_of_nonneg i (by omega)];exact q) (.inl (PyProof.noPylong_of_log2 (by omega)))
def qkG:Value->Option Addr
 | .ref a=>some a
 | _=>none
theorem qeI (D:Addr):∀ l:List Value,l.contains (.ref D)=(l.map qkG).contains (some D)
 | []=>rfl
 | v::l=>by
   rw[List.map_cons,List.contains_cons,List.contains_cons,qeI D l];congr 1
   cases v with
   | ref c =>
     show (Value.ref D == Value.ref c)=(some D == some c);by_cases e:D=c
     · subst e;simp
     · rw[beq_eq_false_iff_ne.mpr (fun z=>e (Value.ref.inj z)),beq_eq_false_iff_ne.mpr (fun z=>e (Option.some.inj z))]
   | _=>rfl
def XMro (K:Frag) (C:Addr) (l:List (Option Addr)):Prop:=∃ cd,clsIn K C=some cd∧cd.mro.map qkG=l
def qjO (l:List (Option Addr)) (o:Obj):Bool:=match o.data with
 | .cls cd=>cd.mro.map qkG == l
 | _=>false
theorem XMro.of {K:Frag}{C:Addr}{o:Obj}{l:List (Option Addr)} (h:K.lookup C=some o) (q:qjO l o=true):XMro K C l:=by
 obtain⟨oc,od,odt,osl⟩:=o;unfold qjO at q
 cases odt with
 | cls cd =>
   refine⟨cd,?_,eq_of_beq q⟩;unfold clsIn;rw[h]
 | _=>cases q
def qhr (K:Frag) (D:Addr):Prop:=isClsIn K D=true∧typeIn K (.ref D)=some (.type "type")
theorem qgc {K:Frag}{C D:Addr}{l:List (Option Addr)} (m:XMro K C l) (hl:l≠[]) (d:qhr K D):qjc K C (.ref D)=some (l.contains (some D)):=by
 obtain⟨cd,h1,h2⟩:=m;refine xIsa_of d.1 d.2 ?_;show mroIn K C (.ref D)=_;unfold mroIn;rw[h1,Option.bind_some,if_neg,qeI,h2];intro z;rw[List.isEmpty_iff]at z;rw[z]at h2;exact hl h2.symm
end L2
namespace Srt
open PySem PySem.W PyProof.Rows
def RunP {α:Type} (lt:Nat->Nat->Bool) (n:Nat):KasT α->(α->Prop)->Prop
 | .ret a,P=>P a
 | .ask i j k,P=>i < n∧j < n∧RunP lt n (k (lt i j)) P
section
variable {lt:Nat->Nat->Bool}{n:Nat}
theorem RunP.bind {α β:Type}{f:α->KasT β}{P:β->Prop}:∀ {t:KasT α},RunP lt n t (fun a=>RunP lt n (f a) P)->RunP lt n (t.bind f) P
 | .ret _,h=>h
 | .ask i j k,h=>⟨h.1,h.2.1,RunP.bind (t:=k (lt i j)) h.2.2⟩
theorem RunP.mono {α:Type}{P P':α->Prop} (hp:∀ a,P a->P' a):∀ {t:KasT α},RunP lt n t P->RunP lt n t P'
 | .ret _,h=>hp _ h
 | .ask i j k,h=>⟨h.1,h.2.1,RunP.mono hp (t:=k (lt i j)) h.2.2⟩
theorem RunP.wp {α:Type}{cmp:Nat->Nat->(Bool->Shared->Prop)->Shared->Prop}{Q:α->Shared->Prop}{P:α->Prop}{s:Shared} (hc:∀ i j (C:Bool->Shared->Prop),i < n->j < n->C (lt i j) s->cmp i j C s) (hq:∀ a,P a->Q a s):∀ {t:KasT α},RunP lt n t P->t.kasWp cmp Q s
 | .ret _,h=>hq _ h
 | .ask i j k,h=>hc i j _ h.1 h.2.1 (RunP.wp hc hq (t:=k (lt i j)) h.2.2)
theorem RunP.ite {α:Type}{c:Prop} [Decidable c] {t u:KasT α}{P:α->Prop} (h1:c->RunP lt n t P) (h2:¬ c->RunP lt n u P):RunP lt n (if c then t else u) P:=by
 by_cases h:c
 · rw[if_pos h];exact h1 h
 · rw[if_neg h];exact h2 h
def Bd (n:Nat) (p:Array Nat):Prop:=∀ x,p.getD x 0 < n
theorem JY {p q:Array Nat}{x y:Nat} (h:p[x]?=q[y]?):p.getD x 0=q.getD y 0:=by
 simp only[Array.getD_eq_getD_getElem?,h]
theorem qaE {p:Array Nat}{i j:Nat} (hj:j≤p.size) (x:Nat):(kas_rev p i j).getD x 0=if i≤x∧x < j then p.getD (i+j - 1 - x) 0 else p.getD x 0:=by
 have h:=getElem?_mirror_all (xs:=p) (i:=i) hj x;by_cases c:i≤x∧x < j
 · rw[if_pos c]at h ⊢;exact JY h
 · rw[if_neg c]at h ⊢;exact JY h
theorem Bd.rev {p:Array Nat}{i j:Nat} (h:Bd n p) (hj:j≤p.size):Bd n (kas_rev p i j):=fun x=>by
 rw[qaE hj];split<;>exact h _
theorem qfS {p:Array Nat}{k d:Nat} (hk:k < p.size) (hd:d≤k) (x:Nat):(bubble p k d).getD x 0=if x=k - d then p.getD k 0 else if k - d < x∧x≤k then p.getD (x - 1) 0 else p.getD x 0:=by
 have h:=getElem?_bubble (xs:=p) hk d hd x;by_cases c:x=k - d
 · rw[if_pos c]at h ⊢;exact JY h
 · rw[if_neg c]at h ⊢;by_cases c2:k - d < x∧x≤k
   · rw[if_pos c2]at h ⊢;exact JY h
   · rw[if_neg c2]at h ⊢;exact JY h
theorem Bd.bub {p:Array Nat}{k d:Nat} (h:Bd n p) (hk:k < p.size) (hd:d≤k):Bd n (bubble p k d):=fun x=>by
 rw[qfS hk hd];by_cases c:x=k - d
 · rw[if_pos c];exact h _
 · rw[if_neg c];by_cases c2:k - d < x∧x≤k
   · rw[if_pos c2];exact h _
   · rw[if_neg c2];exact h _
structure Ord (lt:Nat->Nat->Bool):Prop where
 tr:∀ a b c,lt b a=false->lt c b=false->lt c a=false
 asy:∀ a b,lt a b=true->lt b a=false
theorem Ord.irr (O:Ord lt) (a:Nat):lt a a=false:=by
 cases h:lt a a with
 | false=>rfl
 | true=>rw[← h];exact O.asy _ _ h
def Up (lt:Nat->Nat->Bool) (p:Array Nat) (k:Nat):Prop:=∀ x,x+1 < k->lt (p.getD (x+1) 0) (p.getD x 0)=false
def Dn (lt:Nat->Nat->Bool) (p:Array Nat) (k:Nat):Prop:=∀ x,x+1 < k->lt (p.getD x 0) (p.getD (x+1) 0)=false
def Eqv (lt:Nat->Nat->Bool) (a b:Nat):Prop:=lt a b=false∧lt b a=false
theorem Eqv.not (O:Ord lt) {a a' b b':Nat} (h1:Eqv lt a a') (h2:Eqv lt b b') (h:lt a b=false):lt a' b'=false:=O.tr _ _ _ (O.tr _ _ _ h2.1 h) h1.2
theorem Up.le (O:Ord lt) {p:Array Nat}{k:Nat} (h:Up lt p k) {x:Nat}:∀ d,x+d < k->lt (p.getD (x+d) 0) (p.getD x 0)=false
 | 0,_=>O.irr _
 | d+1,hd=>O.tr _ _ _ (Up.le O h d (by omega)) (h (x+d) (by omega))
theorem qf2 (p:Array Nat) (hb:Bd n p):∀ (f m:Nat),1≤m->Up lt p m->RunP lt n (kas_asc p f m) fun r=>m≤r∧r≤m+f∧Up lt p r∧(r < m+f->lt (p.getD r 0) (p.getD (r - 1) 0)=true)
 | 0,m,_,hu=>⟨Nat.le_refl _,Nat.le_refl _,hu,fun h=>absurd h (by omega)⟩
 | f+1,m,h1,hu=>by
   refine⟨hb _,hb _,RunP.ite (fun c=>?_) (fun c=>?_)⟩
   · exact⟨Nat.le_refl _,by omega,hu,fun _=>c⟩
   · have c:lt (p.getD m 0) (p.getD (m - 1) 0)=false:=by simpa using c
     refine RunP.mono (fun r h=>?_) (qf2 p hb f (m+1) (by omega) (fun x hx=>?_))
     · exact⟨by omega,by omega,h.2.2.1,fun z=>h.2.2.2 (by omega)⟩
     · by_cases e:x+1=m
       · have e1:x=m - 1:=by omega
         rw[e1,show m - 1+1=m by omega];exact c
       · exact hu x (by omega)
def Blk (lt:Nat->Nat->Bool) (p:Array Nat) (m q:Nat):Prop:=q+1≤m∧∀ x,m - (q+1)≤x->x < m->Eqv lt (p.getD x 0) (p.getD (m - 1) 0)
theorem Blk.rev (O:Ord lt) {p:Array Nat}{m q:Nat} (hm:m≤p.size) (h:Blk lt p m q) (x:Nat) (hx:x < m):Eqv lt (p.getD x 0) ((kas_rev p (m - (q+1)) m).getD x 0):=by
 rw[qaE hm];by_cases c:m - (q+1)≤x∧x < m
 · rw[if_pos c];have h1:=h.2 x c.1 c.2;have hq:=h.1;have h2:=h.2 (m - (q+1)+m - 1 - x) (by omega) (by omega);exact⟨O.tr _ _ _ h2.2 h1.1,O.tr _ _ _ h1.2 h2.1⟩
 · rw[if_neg c];exact⟨O.irr _,O.irr _⟩
theorem Dn.eqv (O:Ord lt) {p p':Array Nat}{m:Nat} (h:Dn lt p m) (e:∀ x,x < m->Eqv lt (p.getD x 0) (p'.getD x 0)):Dn lt p' m:=fun x hx=>(e x (by omega)).not O (e (x+1) hx) (h x hx)
theorem qbk (O:Ord lt):∀ (f:Nat) (p:Array Nat) (m q:Nat),Bd n p->1≤m->m+f≤p.size->Dn lt p m->Blk lt p m q->RunP lt n (kas_desc f p m q) fun r =>
   Bd n r.1∧r.1.Perm p∧r.1.size=p.size∧m≤r.2.1∧r.2.1≤m+f∧Dn lt r.1 r.2.1∧Blk lt r.1 r.2.1 r.2.2
 | 0,p,m,q,hb,h1,hs,hd,bl=>⟨hb,Array.Perm.refl _,rfl,Nat.le_refl _,Nat.le_refl _,hd,bl⟩
 | f+1,p,m,q,hb,h1,hs,hd,bl=>by
   have one:∀ p':Array Nat,p'.getD m 0=p'.getD (m+1 - 1) 0:=fun p'=>rfl;refine⟨hb _,hb _,RunP.ite (fun c=>RunP.ite (fun hq=>?_) (fun hq=>?_)) (fun c=>⟨hb _,hb _,RunP.ite (fun d=>?_) (fun d=>?_)⟩)⟩
   · have hm:m≤p.size:=by omega
     have ev:=bl.rev O hm;have sz:(kas_rev p (m - (q+1)) m).size=p.size:=kas_rev_size _ _;have out:(kas_rev p (m - (q+1)) m).getD m 0=p.getD m 0:=by rw[qaE hm,if_neg (by omega)]
     refine RunP.mono (fun r h=>?_) (qbk O f (kas_rev p (m - (q+1)) m) (m+1) 0 (hb.rev hm) (by omega) (by omega) (fun x hx=>?_) ⟨by omega,fun x h0 h2=>?_⟩)
     · exact⟨h.1,h.2.1.trans (mirror_perm _ _ _ _),by rw[h.2.2.1,sz],by omega,by omega,h.2.2.2.2.2.1,h.2.2.2.2.2.2⟩
     · by_cases e:x+1=m
       · have e1:x=m - 1:=by omega
         subst e1;rw[show m - 1+1=m by omega,out];exact(ev (m - 1) (by omega)).not O ⟨O.irr _,O.irr _⟩ (O.asy _ _ c)
       · exact hd.eqv O ev x (by omega)
     · have e:x=m:=by omega
       subst e;exact⟨O.irr _,O.irr _⟩
   · refine RunP.mono (fun r h=>?_) (qbk O f p (m+1) 0 hb (by omega) (by omega) (fun x hx=>?_) ⟨by omega,fun x h0 h2=>?_⟩)
     · exact⟨h.1,h.2.1,h.2.2.1,by omega,by omega,h.2.2.2.2.2.1,h.2.2.2.2.2.2⟩
     · by_cases e:x+1=m
       · have e1:x=m - 1:=by omega
         subst e1;rw[show m - 1+1=m by omega];exact O.asy _ _ c
       · exact hd x (by omega)
     · have e:x=m:=by omega
       subst e;exact⟨O.irr _,O.irr _⟩
   · exact⟨hb,Array.Perm.refl _,rfl,Nat.le_refl _,(by show m≤m+(f+1);omega),hd,bl⟩
   · have c:lt (p.getD m 0) (p.getD (m - 1) 0)=false:=by simpa using c
     have d:lt (p.getD (m - 1) 0) (p.getD m 0)=false:=by simpa using d
     refine RunP.mono (fun r h=>?_) (qbk O f p (m+1) (q+1) hb (by omega) (by omega) (fun x hx=>?_) ⟨by have:=bl.1;omega,fun x h0 h2=>?_⟩)
     · exact⟨h.1,h.2.1,h.2.2.1,by omega,by omega,h.2.2.2.2.2.1,h.2.2.2.2.2.2⟩
     · by_cases e:x+1=m
       · have e1:x=m - 1:=by omega
         subst e1;rw[show m - 1+1=m by omega];exact d
       · exact hd x (by omega)
     · show Eqv lt (p.getD x 0) (p.getD m 0);by_cases e:x=m
       · rw[e];exact⟨O.irr _,O.irr _⟩
       · have:=bl.2 x (by omega) (by omega)
         exact⟨O.tr _ _ _ d this.1,O.tr _ _ _ this.2 c⟩
theorem Dn.rev {p:Array Nat}{m:Nat} (h:Dn lt p m) (hm:m≤p.size):Up lt (kas_rev p 0 m) m:=fun x hx=>by
 rw[qaE hm,qaE hm,if_pos ⟨Nat.zero_le _,by omega⟩,if_pos ⟨Nat.zero_le _,by omega⟩]
 have:=h (m - 2 - x) (by omega)
 rw[show m - 2 - x+1=0+m - 1 - x by omega]at this;rw[show 0+m - 1 - (x+1)=m - 2 - x by omega];exact this
def Cnt (lt:Nat->Nat->Bool) (n N:Nat) (p:Array Nat) (r:Nat×Array Nat):Prop:=Bd n r.2∧r.2.Perm p∧r.2.size=p.size∧1≤r.1∧r.1≤N∧Up lt r.2 r.1
theorem qcQ {N m:Nat}{p:Array Nat} (hb:Bd n p) (h1:1≤m) (hm:m≤N) (hs:N≤p.size) (hd:Dn lt p m):RunP lt n (kas_tail3 m N p) (Cnt lt n N p):=by
 unfold kas_tail3;refine RunP.bind (RunP.mono (fun r h=>?_) (qf2 (kas_rev p 0 m) (hb.rev (by omega)) (N - m) m h1 (hd.rev (by omega))));exact⟨hb.rev (by omega),mirror_perm _ _ _ _,kas_rev_size _ _,by omega,by omega,h.2.2.1⟩
theorem J0 (O:Ord lt) {N m:Nat}{p:Array Nat} (hb:Bd n p) (h1:1≤m) (hm:m < N) (hs:N≤p.size) (hd:Dn lt p (m+1)):RunP lt n (kas_descPart m N p) (Cnt lt n N p):=by
 unfold kas_descPart
 refine RunP.bind (RunP.mono (fun r h=>?_) (qbk O (N - (m+1)) p (m+1) 0 hb (by omega) (by omega) hd ⟨by omega,fun x h0 h2=>by
   have e:x=m:=by omega
   subst e
   exact⟨O.irr _,O.irr _⟩⟩))
 obtain⟨g1,g2,g3,g4,g5,g6,g7⟩:=h;refine RunP.ite (fun hq=>?_) (fun hq=>?_)
 · have hm2:r.2.1≤r.1.size:=by omega
   refine RunP.mono (fun z hz=>?_) (qcQ (g1.rev hm2) (by omega) (by omega) (by rw[kas_rev_size];omega) (g6.eqv O (g7.rev O hm2)));exact⟨hz.1,(hz.2.1.trans (mirror_perm _ _ _ _)).trans g2,by rw[hz.2.2.1,kas_rev_size,g3],hz.2.2.2⟩
 · refine RunP.mono (fun z hz=>?_) (qcQ g1 (by omega) (by omega) (by omega) g6);exact⟨hz.1,hz.2.1.trans g2,by rw[hz.2.2.1,g3],hz.2.2.2⟩
theorem qhf (O:Ord lt) {N:Nat}{p:Array Nat} (hb:Bd n p) (h2:1≤N) (hs:N≤p.size):RunP lt n (kas_count N p) (Cnt lt n N p):=by
 unfold kas_count;refine RunP.bind (RunP.mono (fun m h=>?_) (qf2 p hb (N - 1) 1 (Nat.le_refl _) (fun x hx=>by omega)));obtain⟨m1,mN,up,stop⟩:=h;refine RunP.ite (fun c=>?_) (fun c=>?_)
 · exact⟨hb,Array.Perm.refl _,rfl,m1,by omega,up⟩
 · have c:m≠N:=by simpa using c
   have st:=stop (by omega);refine RunP.ite (fun g=>⟨hb _,hb _,RunP.ite (fun e=>?_) (fun e=>?_)⟩) (fun g=>?_)
   · exact⟨hb,Array.Perm.refl _,rfl,m1,by omega,up⟩
   · have e:lt (p.getD 0 0) (p.getD (m - 1) 0)=false:=by simpa using e
     -- all of the first m are alike
     have alike:∀ x,x < m->Eqv lt (p.getD x 0) (p.getD (m - 1) 0):=fun x hx=>by
       have a1:=up.le O (x:=x) (m - 1 - x) (by omega);rw[show x+(m - 1 - x)=m - 1 by omega]at a1;have a2:=up.le O (x:=0) x (by omega);rw[Nat.zero_add]at a2;exact⟨O.tr _ _ _ e a2,a1⟩
     have hmp:m≤p.size:=by omega
     have blk:Blk lt p m (m - 1):=⟨by omega,fun x _ hx=>alike x hx⟩
     have ev:=blk.rev O hmp;rw[show m - (m - 1+1)=0 by omega]at ev;have dn0:Dn lt p m:=fun x hx=>O.tr _ _ _ (alike (x+1) hx).2 (alike x (by omega)).1
     have dn:Dn lt (kas_rev p 0 m) (m+1):=fun x hx=>by
       by_cases e1:x+1=m
       · have e2:x=m - 1:=by omega
         subst e2;have out:(kas_rev p 0 m).getD (m - 1+1) 0=p.getD m 0:=by rw[qaE hmp,if_neg (by omega),show m - 1+1=m by omega]
         rw[out];exact(ev (m - 1) (by omega)).not O ⟨O.irr _,O.irr _⟩ (O.asy _ _ st)
       · exact dn0.eqv O ev x (by omega)
     refine RunP.mono (fun z hz=>?_) (J0 O (hb.rev hmp) m1 (by omega) (by rw[kas_rev_size];exact hs) dn);exact⟨hz.1,hz.2.1.trans (mirror_perm _ _ _ _),by rw[hz.2.2.1,kas_rev_size],hz.2.2.2⟩
   · have e1:m=1:=by omega
     subst e1
     exact J0 O hb (Nat.le_refl _) (by omega) hs (fun x hx=>by
       have:x=0:=by omega
       subst this
       exact O.asy _ _ st)
theorem qa8 (O:Ord lt) {p:Array Nat}{k:Nat} (hb:Bd n p) (up:Up lt p k):∀ (f l r:Nat),l≤r->r≤k->r - l≤f->(∀ x,x < l->lt (p.getD k 0) (p.getD x 0)=false)->(∀ x,r≤x->x < k->lt (p.getD k 0) (p.getD x 0)=true) ->
   RunP lt n (kas_place p k f l r) fun m=>m≤k∧(∀ x,x < m->lt (p.getD k 0) (p.getD x 0)=false)∧∀ x,m≤x->x < k->lt (p.getD k 0) (p.getD x 0)=true
 | 0,l,r,h1,h2,h3,a,b=>⟨by omega,a,fun x hx=>b x (by omega)⟩
 | f+1,l,r,h1,h2,h3,a,b=>by
   refine RunP.ite (fun c=>?_) (fun c=>⟨hb _,hb _,RunP.ite (fun d=>?_) (fun d=>?_)⟩)
   · exact⟨by omega,a,fun x hx=>b x (by omega)⟩
   · refine qa8 O hb up f l ((l+r) / 2) (by omega) (by omega) (by omega) a fun x hx hk=>?_
     cases hz:lt (p.getD k 0) (p.getD x 0) with
     | true=>rfl
     | false =>
       have q:=up.le O (x:=(l+r) / 2) (x - (l+r) / 2) (by omega);rw[show (l+r) / 2+(x - (l+r) / 2)=x by omega]at q
       have:=O.tr _ _ _ q hz
       rw[d]at this;cases this
   · have d:lt (p.getD k 0) (p.getD ((l+r) / 2) 0)=false:=by simpa using d
     refine qa8 O hb up f ((l+r) / 2+1) r (by omega) h2 (by omega) (fun x hx=>?_) b;have q:=up.le O (x:=x) ((l+r) / 2 - x) (by omega);rw[show x+((l+r) / 2 - x)=(l+r) / 2 by omega]at q;exact O.tr _ _ _ q d
theorem qhV (O:Ord lt):∀ (f:Nat) (p:Array Nat) (k:Nat),Bd n p->k+f≤p.size->Up lt p k->RunP lt n (kas_bin f p k) fun r=>r.Perm p∧Up lt r (k+f)
 | 0,p,k,hb,hs,up=>⟨Array.Perm.refl _,up⟩
 | f+1,p,k,hb,hs,up=>by
   refine RunP.bind (RunP.mono (fun l h=>?_) (qa8 O hb up k 0 k (Nat.zero_le _) (Nat.le_refl _) (by omega) (fun x hx=>absurd hx (by omega)) (fun x h1 h2=>absurd h1 (by omega))));obtain⟨lk,lo,hi⟩:=h;have hk:k < p.size:=by omega
   refine RunP.mono (fun r h=>⟨h.1.trans (bubble_perm _ _ _),by rw[show k+(f+1)=k+1+f by omega];exact h.2⟩) (qhV O f (bubble p k (k - l)) (k+1) (hb.bub hk (by omega)) (by rw[bubble_size];omega) (fun x hx=>?_));have e:k - (k - l)=l:=by omega
   rw[qfS hk (by omega),qfS hk (by omega),e];by_cases c1:x+1=l
   · rw[if_pos c1,if_neg (by omega),if_neg (by omega)];exact lo x (by omega)
   · rw[if_neg c1];by_cases c2:x=l
     · rw[if_pos c2,if_pos ⟨by omega,by omega⟩,show x+1 - 1=x by omega];exact O.asy _ _ (hi x (by omega) (by omega))
     · rw[if_neg c2];by_cases c3:l < x
       · rw[if_pos ⟨by omega,by omega⟩,if_pos ⟨c3,by omega⟩]
         have:=up (x - 1) (by omega)
         rw[show x - 1+1=x by omega]at this;rw[show x+1 - 1=x by omega];exact this
       · rw[if_neg (by omega),if_neg (by omega)];exact up x (by omega)
theorem sort_ok (O:Ord lt) (h:1≤n):RunP lt n (kas_sort n) fun r=>r.Perm (List.toArray (List.range n))∧Up lt r n:=by
 have hb:Bd n (List.toArray (List.range n)):=fun x=>by
   simp only[Array.getD_eq_getD_getElem?,List.getElem?_toArray];by_cases hx:x < n
   · rw[List.getElem?_range hx];exact hx
   · rw[List.getElem?_eq_none (by simp;omega)];exact h
 have sz:(List.toArray (List.range n)).size=n:=by simp
 unfold kas_sort;refine RunP.bind (RunP.mono (fun r hr=>?_) (qhf O hb h (by omega)));obtain⟨g1,g2,g3,g4,g5,g6⟩:=hr;refine RunP.ite (fun c=>?_) (fun c=>?_)
 · have e:max r.1 1=r.1:=by omega
   rw[e];refine RunP.mono (fun z hz=>⟨hz.1.trans g2,?_⟩) (qhV O (n - r.1) r.2 r.1 g1 (by omega) g6)
   have:=hz.2
   rw[show r.1+(n - r.1)=n by omega]at this;exact this
 · have e:r.1=n:=by omega
   rw[e]at g6;exact⟨g2,g6⟩
end
end Srt
namespace L2
open PySem PySem.Spec PyProof.Rows
open PySem.W (Frag kitOne)
theorem ObjOk.lies {P:Program}{w:World}{H:Hp}{h:Heap}{a:Addr}{o:HO} (x:ObjOk P w H h a o):∃ ob,h.get? a=some ob:=by
 cases o with
 | lst xs=>obtain⟨_,_,_,_,e⟩:=x;exact⟨_,e⟩
 | tup xs=>obtain⟨_,_,_,o,e,_⟩:=x;exact⟨_,e⟩
 | dK kvs=>obtain⟨_,_,_,_,o,_,_,e,_⟩:=x;exact⟨_,e⟩
 | dT kvs=>obtain⟨_,_,_,_,o,_,_,e,_⟩:=x;exact⟨_,e⟩
 | set S n=>obtain⟨o,_,_,_,e,_⟩:=x;exact⟨_,e⟩
 | ins C dx fs=>obtain⟨_,_,_,e,_⟩:=x;exact⟨_,e⟩
 | own y=>obtain⟨_,e⟩:=x;exact⟨_,e⟩
 | xd fs=>obtain⟨_,⟨_,_,_,e,_⟩,_⟩:=x;exact⟨_,e⟩
 | rng lo hi=>obtain⟨_,_,_,e⟩:=x;exact⟨_,e⟩
 | frz ob u=>obtain⟨e,_⟩:=x;exact⟨_,e⟩
 | tbl ps=>exact⟨_,(show h.get? a=some _ from x)⟩
 | met f y=>exact⟨_,(show h.get? a=some _ from x)⟩
 | ext φ=>obtain⟨_,⟨_,e⟩,_⟩:=x;exact⟨_,e⟩
section
variable {X:Cx}{pins:List (Addr×Obj)}{σ:List (Option V)}{H:Hp}{s:Shared}{h':Heap}
theorem Inv.unlaid {a:Addr} (I:Inv X pins σ H s) (e:s.heap.get? a=none):H a=none:=by
 cases q:H a with
 | none=>rfl
 | some o =>
   obtain⟨ob,z⟩:=(I.hok a o q).lies;rw[e]at z;cases z
theorem Inv.laidL {a:Addr}{o:HO}{t':Nat} (I:Inv X pins σ H s) (k:∀ b u,b≠X.env.locals->s.heap.get? b=some u->h'.get? b=some u) (ns:∀ m,s.heap.Ns X.env.locals m->h'.Ns X.env.locals m)
   (hp:s.heap.get? a=none) (new:ObjOk X.prog X.w (upd H a o) h' a o):Inv X pins σ (upd H a o) { s with heap:=h',toks:=t' }:=by
 have hn:H a=none:=I.unlaid hp;have nL:∀ b u,H b=some u->b≠X.env.locals:=fun b u e z=>by rw[z,I.free]at e;cases e
 have na:∀ b u,s.heap.get? b=some u->b≠a:=fun b u q z=>by rw[z,hp]at q;cases q
 refine I.step (g':=s.gens) (d':=s.drawn) (ch:=[]) (fun _ z=>nomatch z) (fun b o hb _ _ e _=>k b o hb e) (fun b o hb _ _ e _=>⟨o.slots,k b o hb e⟩) (fun b o _ e n=>by rw[qi (na b o e)];exact n) (fun b o _ e=>?_)
   (fun b xs q=>by rw[qi (qh q hn)];exact q) (fun b u xs q=>by rw[qi (qh q hn)];exact q) (fun b ps q=>⟨#[],by rw[qi (qh q hn),q];simp⟩) ns (fun b u e=>?_) I.bare
 · by_cases z:b=X.env.locals
   · obtain⟨m,hm,_⟩:=I.loc;obtain⟨o',_,_,ho',_⟩:=ns m hm;exact⟨o',by rw[z];exact ho'⟩
   · exact⟨o,k b o z e⟩
 · by_cases z:b=a
   · subst z;rw[qb]at e;cases e;exact new
   · rw[qi z]at e;refine(I.hok b u e).stay (fun c v hc q=>k c v ?_ q) (fun c q=>by rw[qi (qh q hn)];exact q) fun c xs q=>by rw[qi (qh q hn)];exact q
     rcases hc with z|z
     · rw[z];exact nL b u e
     · exact nL c _ z
end
def qcf (base h:Heap) (L:Addr):List (Addr×Obj):=(List.range h.objs.size).filterMap fun a=>if a=L then none else if (base.get? a).isSome then none else (h.get? a).map fun o=>(a,o)
theorem qaU (base h:Heap) (L:Addr):News base L h (qcf base h L):=by
 intro p hp;unfold qcf at hp;obtain⟨a,_,e⟩:=List.mem_filterMap.mp hp;by_cases c1:a=L
 · rw[if_pos c1]at e;cases e
 · rw[if_neg c1]at e;by_cases c2:(base.get? a).isSome=true
   · rw[if_pos c2]at e;cases e
   · rw[if_neg c2]at e
     cases q:h.get? a with
     | none=>rw[q]at e;cases e
     | some o =>
       rw[q]at e;cases e;refine⟨q,c1,?_⟩
       cases z:base.get? a with
       | none=>rfl
       | some _=>rw[z]at c2;exact absurd rfl c2
theorem jn {base h:Heap}{L b:Addr}{o:Obj} (e:h.get? b=some o) (ne:b≠L) (n:base.get? b=none):(b,o)∈qcf base h L:=by
 unfold qcf;refine List.mem_filterMap.mpr ⟨b,List.mem_range.mpr (Heap.lt_size e),?_⟩;rw[if_neg ne,n,e];rfl
theorem qhM {h:Heap}{a:Addr}{m m':Str->Option Value} (x:h.Ns a m) (y:h.Ns a m'):m=m':=by
 obtain⟨o,es,ep,ho,hd,_,f⟩:=x;obtain⟨o',es',ep',ho',hd',_,f'⟩:=y;rw[ho]at ho';cases ho';rw[hd]at hd';cases hd';exact funext fun n=>(f n).symm.trans (f' n)
section
variable {X:Cx}{pins:List (Addr×Obj)}{σ:List (Option V)}{H:Hp}{s:Shared}{h':Heap}
theorem Inv.laidN {D:Addr}{m:Str->Option Value}{vs:List Value}{c:Nat}{ys:List V} (I:Inv X pins σ H s) (F:Fr X.base X.env.locals s.heap m) (F':Fr X.base X.env.locals h' m)
   (N':News X.base X.env.locals h' ((D,PySem.W.listOf vs.toArray c)::qcf X.base s.heap X.env.locals)) (hD:∀ q∈qcf X.base s.heap X.env.locals,q.1 < D) (r:Vals ys vs) (hz:ys.length≤sizeLine) :
   H D=none∧Inv X pins σ (upd H D (.lst ys)) { s with heap:=h' }:=by
 obtain⟨e1,e2,e3⟩:=N' _ (.head _)
 have free:s.heap.get? D=none:=by
   cases q:s.heap.get? D with
   | none=>rfl
   | some o=>exact absurd (hD _ (jn q e2 e3)) (Nat.lt_irrefl _)
 have kp:∀ b u,b≠X.env.locals->s.heap.get? b=some u->h'.get? b=some u:=fun b u ne q=>by
   cases z:X.base.get? b with
   | some o =>
     have:=I.bk b o z
     rw[q]at this;cases this;exact F'.keep b _ z
   | none=>exact(N' _ (List.mem_cons_of_mem _ (jn q ne z))).1
 refine⟨I.unlaid free,I.laidL (t':=s.toks) kp (fun m' hm=>?_) free ⟨hz,vs,c,r,?_⟩⟩
 · rw[qhM hm F.ns];exact F'.ns
 · exact e1
theorem qdv:∀ {ns:List Int}{vs:List Value},Vals (ns.map V.int) vs->IntsAre vs ns
 | [],_,.nil=>.nil
 | n::ns,_,.cons r t=>by
   obtain⟨tk,rfl⟩:=(show ∃ t,_=Value.int n t from r)
   exact .cons n tk (qdv t)
end
def QH:List Int->List Int->Bool
 | a::as,b::bs=>if a=b then QH as bs else decide (a < b)
 | _,_=>false
theorem qbW:∀ as bs,QH as bs=true->QH bs as=false
 | [],_,h=>by simp[QH]at h
 | _::_,[],h=>by simp[QH]at h
 | a::as,b::bs,h=>by
   unfold QH at h ⊢;by_cases e:a=b
   · rw[if_pos e]at h;rw[if_pos e.symm];exact qbW as bs h
   · rw[if_neg e]at h;rw[if_neg fun z=>e z.symm]
     have:=of_decide_eq_true h
     exact decide_eq_false (by omega)
theorem qdp:∀ {as bs cs:List Int},as.length=bs.length->bs.length=cs.length->QH as bs=false->QH bs cs=false->QH as cs=false
 | [],_,_,_,_,_,_=>rfl
 | _::_,[],_,h,_,_,_=>by simp at h
 | _::_,_::_,[],_,h,_,_=>by simp at h
 | a::as,b::bs,c::cs,h1,h2,x,y=>by
   unfold QH at x y ⊢;by_cases e1:a=b
   · subst e1;rw[if_pos rfl]at x;by_cases e2:a=c
     · subst e2;rw[if_pos rfl]at y ⊢;exact qdp (by simpa using h1) (by simpa using h2) x y
     · rw[if_neg e2]at y ⊢;exact y
   · rw[if_neg e1]at x;have x':=of_decide_eq_false x;by_cases e2:b=c
     · subst e2;rw[if_neg e1];exact x
     · rw[if_neg e2]at y;have y':=of_decide_eq_false y;rw[if_neg (by omega)];exact decide_eq_false (by omega)
section
variable {prog:Program}{w:World}{A:Around}{s:Shared}
theorem qfl {b:Bool}{Q:Bool->Shared->Prop}:∀ {as bs:List Int}{us vs:List Value}{i:Nat},Vals (as.map V.int) us->Vals (bs.map V.int) vs->as.length=bs.length->Q (QH as bs) s->PySem.W.KatLex prog w A b false Q (us.zip vs) i s
 | [],[],_,_,_,.nil,.nil,_,h=>PySem.W.kat_nil h
 | [],_::_,_,_,_,_,_,e,_=>by simp at e
 | _::_,[],_,_,_,_,_,e,_=>by simp at e
 | a::as,c::cs,_,_,i,.cons r1 t1,.cons r2 t2,e,h=>by
   obtain⟨x,rfl⟩:=(show ∃ t,_=Value.int a t from r1)
   obtain⟨y,rfl⟩:=(show ∃ t,_=Value.int c t from r2)
   refine PySem.W.kat_cons (wpAny_eqBool_int ?_);unfold QH at h;by_cases z:a=c
   · rw[if_pos z]at h;rw[show (a == c)=true by rw[z];exact beq_self_eq_true c];exact PySem.W.kat_yes (qfl t1 t2 (by simpa using e) h)
   · rw[if_neg z]at h;rw[show (a == c)=false by exact beq_eq_false_iff_ne.mpr z];refine PySem.W.kat_no ?_
     cases (b && i == 0) with
     | true=>exact oneLt_int h
     | false=>exact PySem.W.kat_one _ _ (wpAny_lt_int h)
end
structure TupI (H:Hp) (zs:List V) (rs:List (List Int)):Prop where
 len:zs.length=rs.length
 at_:∀ (i:Nat) (z:V) (r:List Int),zs[i]?=some z->rs[i]?=some r->∃ t,z=.ref t∧H t=some (.tup (r.map V.int))
def ltI (k:Nat) (rs:List (List Int)) (i j:Nat):Bool:=QH (rs.getD i (List.replicate k 0)) (rs.getD j (List.replicate k 0))
theorem Qp {k:Nat}{rs:List (List Int)} (h:∀ r∈rs,r.length=k) (i:Nat):(rs.getD i (List.replicate k 0)).length=k:=by
 rw[List.getD_eq_getElem?_getD]
 cases e:rs[i]? with
 | none=>exact List.length_replicate
 | some r=>exact h r (List.mem_of_getElem? e)
theorem qfg {k:Nat}{rs:List (List Int)} (h:∀ r∈rs,r.length=k):Srt.Ord (ltI k rs) :=
 ⟨fun a b c x y=>qdp ((Qp h c).trans (Qp h b).symm) ((Qp h b).trans (Qp h a).symm) y x,fun a b=>qbW _ _⟩
section
variable {X:Cx}{pins:List (Addr×Obj)}{σ:List (Option V)}{H:Hp}{s:Shared}
theorem Inv.tupI {t:Addr}{r:List Int} (I:Inv X pins σ H s) (h:H t=some (.tup (r.map V.int))):∃ (o:Obj) (us:List Value) (n:Nat),Vals (r.map V.int) us∧s.heap.get? t=some o∧o.cls=.type "tuple"∧o.data=.seq us.toArray n:=by
 obtain⟨_,its,rv,o,e,c,n,d⟩:=I.hok t _ h;exact⟨o,its,n,rv,e,c,d⟩
theorem Inv.kpN {h':Heap}{m:Str->Option Value}{x:Addr×Obj} (I:Inv X pins σ H s) (F':Fr X.base X.env.locals h' m) (N':News X.base X.env.locals h' (x::qcf X.base s.heap X.env.locals)) :
   ∀ b u,b≠X.env.locals->s.heap.get? b=some u->h'.get? b=some u:=fun b u ne q=>by
 cases z:X.base.get? b with
 | some o =>
   have:=I.bk b o z
   rw[q]at this;cases this;exact F'.keep b _ z
 | none=>exact(N' _ (List.mem_cons_of_mem _ (jn q ne z))).1
end
theorem TupI.tail {H:Hp}{z:V}{zs:List V}{r:List Int}{rs:List (List Int)} (h:TupI H (z::zs) (r::rs)):TupI H zs rs :=
 ⟨by have:=h.len;simpa using this,fun i z' r' e1 e2=>h.at_ (i+1) z' r' (by simpa using e1) (by simpa using e2)⟩
inductive qf3 (h:Heap) (v:Value) (r:List Int):Prop
 | mk (t:Addr) (o:Obj) (us:List Value) (n:Nat) (h1:v=.ref t) (h2:Vals (r.map V.int) us) (h3:h.get? t=some o) (h4:o.cls=.type "tuple") (h5:o.data=.seq us.toArray n):qf3 h v r
def qkd (h:Heap) (v:Value) (r:List Int):Prop:=qf3 h v r
theorem qaV {h:Heap}:∀ {vs:List Value}{rs:List (List Int)},Paired (qkd h) vs rs->(∀ r∈rs,0 < r.length)->∃ fs,PySem.W.KatTups h vs fs∧fs.length=vs.length∧∀ v∈fs,∃ i t,v=Value.int i t
 | _,_,.nil,_=>⟨[],.nil,rfl,fun _ z=>nomatch z⟩
 | _,r::rs,.cons ⟨t,o,us,n,e,rv,ho,hc,hd⟩ q,k=>by
   obtain⟨fs,k1,k2,k3⟩:=qaV q fun r hr=>k r (List.mem_cons_of_mem _ hr);subst e;have pos:=k r List.mem_cons_self
   match r,us,rv,pos with
   | a::r,_,.cons ra rt,_ =>
     obtain⟨tk,rfl⟩:=(show ∃ t,_=Value.int a t from ra)
     refine⟨_::fs,.cons ho hc hd (by simp;rfl) k1,by simp[k2],fun v hv=>?_⟩;rcases List.mem_cons.mp hv with rfl|hv
     · exact⟨_,_,rfl⟩
     · exact k3 v hv
theorem zW {α β:Type}{F:α->β->Prop}:∀ {xs:List α}{ys:List β}{i:Nat}{d:α}{e:β},Paired F xs ys->i < xs.length->F (xs.getD i d) (ys.getD i e)
 | _,_,_,_,_,.nil,h=>by simp at h
 | _,_,0,_,_,.cons r _,_=>by simpa using r
 | _,_,i+1,_,_,.cons _ t,h=>by
   simp only[List.getD_cons_succ];exact zW t (by simpa using h)
theorem qaI {α β:Type}{F:α->β->Prop}{xs:List α}{ys:List β}{d:α}{e:β} (r:Paired F xs ys):∀ {is:List Nat},(∀ i∈is,i < xs.length)->Paired F (is.map fun i=>xs.getD i d) (is.map fun i=>ys.getD i e)
 | [],_=>.nil
 | i::is,h=>.cons (zW r (h i List.mem_cons_self)) (qaI r fun j hj=>h j (List.mem_cons_of_mem _ hj))
theorem qai {α:Type} (l:List α) (d:α):(List.range l.length).map (fun i=>l.getD i d)=l:=by
 apply List.ext_getElem
 · simp
 · intro i h1 h2;simp[h2]
section
variable {prog:Program}{w:World}{A:Around}{E:Value->Shared->Prop}{s:Shared}
theorem qgl {a:Addr}{vs:List Value}{n:Nat}{P:PySem.Fin->Shared->Prop} (ho:s.heap.get? a=some (seqObj "list" vs.toArray n)) (h2:vs.length < 2)
   (h:∀ c h',(∀ b o,b≠a->s.heap.get? b=some o->h'.get? b=some o)->h'.get? a=some (seqObj "list" vs.toArray c)->P (.done (.ret .none)) { s with heap:=h' }) :
   wpAny (model prog w) A (Builtin.«list.sort» ⟨[.ref a],[]⟩) P E s:=by
 obtain⟨e1,ho1⟩:∃ e1,(s.heap.update a (Obj.mapSeq fun _=>(#[]:Array Value))).get? a=some (seqObj "list" #[] e1):=⟨_,get?_update_seq ho fun _=>#[]⟩
 have s1:=Heap.SameBut.update s.heap a (Obj.mapSeq fun _=>(#[]:Array Value));rw[list_sort_plain];refine wpAny_bind (listItems_at ho rfl ?_);refine wpAny_bind (listUpdate_at ho rfl ?_ (by rw[List.size_toArray,sizeLine_eq];omega) (Nat.zero_le _));refine wpAny_bind (seqEpoch_at ho1 rfl ?_);refine wpAny_bind (wpAny_newTuple ?_ (by show vs.length≤_;rw[sizeLine_eq];omega));refine wpAny_bind (wpAny_newList ?_ (Nat.zero_le _));refine wpAny_holding ?_;dsimp only;have hn2:vs.toArray.size < 2:=by rw[List.size_toArray];omega
 rw[if_pos hn2];refine wpAny_bind (wpAny_pure ?_);rw[if_pos hn2];refine wpAny_bind (wpAny_pure ?_);have ho2:(((s.heap.update a (Obj.mapSeq fun _=>(#[]:Array Value))).push (seqObj "tuple" vs.toArray 0)).push (seqObj "list" #[] 0)).get? a=some (seqObj "list" #[] e1):=Heap.get?_push_of_some _ (Heap.get?_push_of_some _ ho1)
 have hsnd:Array.map (fun x:Keyed=>x.snd) (arrOf (SortSt.mk' general' (vs.toArray.zip vs.toArray) #[] 7 none))=vs.toArray:=by
   show Array.map (fun x:Value×Value=>x.snd) (vs.toArray.zip vs.toArray)=vs.toArray;apply Array.toList_inj.mp;simp only[Array.toList_map,Array.toList_zip];exact List.map_snd_zip (Nat.le_refl _)
 refine wpAny_bind (seqEpoch_at ho2 rfl ?_);dsimp only;rw[hsnd];refine wpAny_bind (listUpdate_at ho2 rfl ?_ (Nat.zero_le _) (by rw[List.size_toArray,sizeLine_eq];omega));show wpAny (model prog w) A (if (e1 != e1)=true then _ else ret Value.none) P E _;rw[if_neg (by simp)];refine wpAny_pure (h _ _ (fun b o hb q=>?_) (get?_update_seq ho2 fun _=>vs.toArray));rw[(Heap.SameBut.update _ a _).2 b hb];exact Heap.get?_push_of_some _ (Heap.get?_push_of_some _ ((s1.2 b hb).trans q))
theorem qaA {l:Addr}{vs:List Value}{Q:Value->Shared->Prop} (hl:s.heap.IsList l vs.toArray) (h2:vs.length < 2)
   (h:∀ D c h',s.heap.get? D=none->(∀ b o,s.heap.get? b=some o->h'.get? b=some o)->h'.get? D=some (seqObj "list" vs.toArray c)->Q (.ref D) { s with heap:=h' }) :
   wpAny (model prog w) A (call (.builtin "sorted") [.ref l]) Q E s:=by
 refine Calls.call_function_entry kind_sorted plain_sorted entry_sorted (args_sorted1 _) ?_;unfold Builtin.«sorted»;refine wpAny_bind (m:=checkCount "sorted" 1 1 _) (wpAny_pure ?_);refine wpAny_bind (collect_list hl ?_ (by rw[sizeLine_eq];omega));refine wpAny_bind (wpAny_newList ?_ (by rw[sizeLine_eq];omega))
 have hsz:((s.heap.push (seqObj "list" #[] 0)).update s.heap.objs.size (Obj.mapSeq (·++vs.toArray))).objs.size=s.heap.objs.size+1:=by
   rw[Heap.size_update,size_push']
 have hoL:(((s.heap.push (seqObj "list" #[] 0)).update s.heap.objs.size (Obj.mapSeq (·++vs.toArray))).push (seqObj "list" vs.toArray 0)).get? (s.heap.objs.size+1)=some (seqObj "list" vs.toArray 0):=by
   rw[← hsz];exact Heap.get?_push_size _ rfl
 have keep:∀ b o,s.heap.get? b=some o->(((s.heap.push (seqObj "list" #[] 0)).update s.heap.objs.size (Obj.mapSeq (·++vs.toArray))).push (seqObj "list" vs.toArray 0)).get? b=some o:=fun b o q=>by
   have hlt:b < s.heap.objs.size:=Heap.lt_size q;rw[Heap.get?_push_ne _ _ _ (by rw[hsz];exact Nat.ne_of_lt (Nat.lt_succ_of_lt hlt)),Heap.get?_update_ne _ _ _ _ (Nat.ne_of_lt hlt),Heap.get?_push_ne _ _ _ (Nat.ne_of_lt hlt)];exact q
 show wpAny _ _ _ _ _ { s with heap:=((s.heap.push (seqObj "list" #[] 0)).update s.heap.objs.size (Obj.mapSeq (·++vs.toArray))).push (seqObj "list" vs.toArray 0) };rw[hsz];refine wpAny_bind (wpAny_holding (wpAny_call_entry slot_list_sort ⟨_,hoL,rfl⟩ entry_list_sort ?body (args_list_sort _)))
 case body =>
   refine qgl (s:={ s with heap:=((s.heap.push (seqObj "list" #[] 0)).update s.heap.objs.size (Obj.mapSeq (·++vs.toArray))).push (seqObj "list" vs.toArray 0) }) hoL h2 fun c h' k e=>?_;exact⟨_,rfl,wpAny_pure ⟨_,rfl,h (s.heap.objs.size+1) c h' (Heap.get?_none_of_le (Nat.le_succ _)) (fun b o q=>k b o (Nat.ne_of_lt (Nat.lt_succ_of_lt (Heap.lt_size q))) (keep b o q)) e⟩⟩
end
inductive qdf (K:Frag) (xs:List V) (H:Hp) (Q:VK):Prop
 | mk (l:Addr) (zs:List V) (rs:List (List Int)) (k:Nat) (h1:xs=[.ref l]) (h2:SqL K H l zs) (h3:TupI H zs rs) (h4:(∀ r∈rs,r.length=k)) (h5:0 < k) (h6:zs.length < 64) (h7:∀ (p:Addr) (zs':List V) (rs':List (List Int)),H p=none->rs'.Perm rs->TupI H zs' rs'->rs'.Pairwise (fun a b=>QH b a=false)->Q (.ref p) (upd H p (.lst zs'))):qdf K xs H Q
def qhA (K:Frag):List V->Hp->VK->Prop:=fun xs H Q=>qdf K xs H Q
theorem qcm {X:Cx}{pins:List (Addr×Obj)}{σ:List (Option V)}{H:Hp}{s:Shared}{h':Heap} (I:Inv X pins σ H s) (kp:∀ b u,b≠X.env.locals->s.heap.get? b=some u->h'.get? b=some u) :
   ∀ {zs:List V}{rs:List (List Int)}{vs:List Value},TupI H zs rs->Vals zs vs->Paired (qkd h') vs rs
 | [],rs,_,h,.nil=>by
   have:rs=[]:=List.eq_nil_of_length_eq_zero h.len.symm
   subst this;exact .nil
 | z::zs,[],_,h,_=>by have:=h.len;simp at this
 | z::zs,r::rs,_,h,.cons r1 t1=>by
   refine .cons ?_ (qcm I kp h.tail t1);obtain⟨t,rfl,ht⟩:=h.at_ 0 z r rfl rfl;obtain⟨o,us,n,rv,e,c,d⟩:=I.tupI ht;exact⟨t,o,us,n,r1,rv,kp t o (fun q=>by rw[q,I.free]at ht;cases ht) e,c,d⟩
theorem qef {H:Hp}{zs:List V}{rs:List (List Int)}{d:V}{e:List Int} (h:TupI H zs rs) {is:List Nat} (hi:∀ i∈is,i < zs.length):TupI H (is.map fun i=>zs.getD i d) (is.map fun i=>rs.getD i e):=by
 refine⟨by rw[List.length_map,List.length_map],fun j z r e1 e2=>?_⟩;rw[List.getElem?_map]at e1 e2
 cases q:is[j]? with
 | none=>rw[q]at e1;cases e1
 | some i =>
   rw[q]at e1 e2;have lt:=hi i (List.mem_of_getElem? q);have lt2:i < rs.length:=by rw[← h.len];exact lt
   have z1:zs.getD i d=z:=Option.some.inj e1;have r1:rs.getD i e=r:=Option.some.inj e2;rw[List.getD_eq_getElem?_getD,List.getElem?_eq_getElem lt]at z1;rw[List.getD_eq_getElem?_getD,List.getElem?_eq_getElem lt2]at r1;exact h.at_ i z r (by rw[List.getElem?_eq_getElem lt];exact congrArg some z1) (by rw[List.getElem?_eq_getElem lt2];exact congrArg some r1)
section
variable {X:Cx}
theorem call_sortT:CallR X (.builtin "sorted") (qhA X.K):=by
 intro pins s σ H xs us Q I r h;obtain⟨l,zs,rs,k,rfl,hq,tp,hk,k0,h64,q⟩:=h;obtain⟨u,rfl,ru⟩:=Ji r;cases (show u=Value.ref l from ru);obtain⟨its,rv,p,hz⟩:=I.list hq;have hlen:=rv.length;by_cases h2:its.length < 2
 · refine qaA p.isList h2 fun D c h' free kp e=>?_;have I':Inv X pins σ (upd H D (.lst zs)) { s with heap:=h' }:=I.laidL (t':=s.toks) (fun b u _ z=>kp b u z) (fun m ⟨o,es,ep,ho,r⟩=>⟨o,es,ep,kp _ _ ho,r⟩) free ⟨hz,its,c,rv,e⟩;refine⟨.ref D,_,I',rfl,q D zs rs (I.unlaid free) (List.Perm.refl _) tp ?_⟩;have l2:rs.length < 2:=by rw[← tp.len,hlen];exact h2
   match rs,l2 with
   | [],_=>exact .nil
   | [r],_=>exact List.pairwise_singleton _ _
   | _::_::_,l2=>simp at l2;omega
 · obtain⟨m,F⟩:=I.fr;refine PySem.W.kat_sorted F (qaU X.base s.heap X.env.locals) p.isList (by omega) (by omega) fun D e1 h' F' N' hD=>?_;have kp:=I.kpN F' N';have pa:=qcm I kp tp rv;obtain⟨fs,t1,t2,t3⟩:=qaV pa fun r hr=>by rw[hk r hr];exact k0
   refine PySem.W.kat_kind (T:=.type "int") t1 (by omega) (fun v hv=>?_) rfl ?_
   · obtain⟨i,t,rfl⟩:=t3 v hv;exact PySem.W.Looks.of_pure rfl
   refine Srt.RunP.wp (fun i j C hi hj hC=>?_) (fun a ha=>?_) (Srt.sort_ok (n:=its.length) (qfg hk) (by omega))
   · obtain⟨x,ox,ux,nx,ex,rx,hx,cx,dx⟩:=zW (d:=Value.none) (e:=List.replicate k 0) pa hi;obtain⟨y,oy,uy,ny,ey,ry,hy,cy,dy⟩:=zW (d:=Value.none) (e:=List.replicate k 0) pa hj;unfold PySem.W.kas_ask;rw[ex,ey];refine PySem.W.kat_lt hx dx hy dy ?_;have lx:=Qp hk i;have ly:=Qp hk j;have e1':=rx.length;have e2':=ry.length;rw[List.length_map]at e1' e2';rw[show decide (ux.toArray.size < uy.toArray.size)=false from decide_eq_false (by rw[List.size_toArray,List.size_toArray];omega)];exact qfl rx ry (by omega) hC
   · obtain⟨hp,up⟩:=ha
     have pl:a.toList.Perm (List.range its.length):=by
       have:=Array.perm_iff_toList_perm.mp hp
       simpa using this
     have inR:∀ i∈a.toList,i < zs.length:=fun i hi=>by rw[hlen];exact List.mem_range.mp (pl.mem_iff.mp hi)
     refine PySem.W.KasFin.intro F' N' (.head fun q hq=>Nat.ne_of_lt (hD q hq)) fun h2 c F2 N2=>?_;have rv2:Vals (a.toList.map fun i=>zs.getD i .non) (a.toList.map fun i=>its.getD i Value.none):=qaI rv inR;obtain⟨hn,I'⟩:=I.laidN F F2 N2 hD rv2 (by rw[List.length_map,pl.length_eq,List.length_range,← hlen];exact hz);refine⟨.ref D,_,I',rfl,q D _ (a.toList.map fun i=>rs.getD i (List.replicate k 0)) hn ?_ (qef tp inR) ?_⟩
     · have:=pl.map fun i=>rs.getD i (List.replicate k 0)
       rw[← hlen,tp.len,qai]at this;exact this
     · have sz:a.size=its.length:=by
         have:=pl.length_eq
         rw[Array.length_toList,List.length_range]at this;exact this
       refine List.pairwise_iff_getElem.mpr fun i j hi hj lt=>?_;have hj':j < a.size:=by simpa using hj
       have hi':i < a.size:=by omega
       have:=Srt.Up.le (qfg hk) up (x:=i) (j - i) (by omega)
       rw[show i+(j - i)=j by omega]at this;simp only[List.getElem_map,Array.getElem_toList];simp only[ltI,Array.getD_eq_getD_getElem?,Array.getElem?_eq_getElem hj',Array.getElem?_eq_getElem hi',Option.getD_some]at this;exact this
end
theorem qec:∀ {xs:List V}{us:List Value},us.length=xs.length->(∀ (i:Nat) (x:V) (u:Value),xs[i]?=some x->us[i]?=some u->RelV x u)->Vals xs us
 | [],[],_,_=>.nil
 | [],_::_,h,_=>by cases h
 | _::_,[],h,_=>by cases h
 | x::xs,u::us,h,r=>.cons (r 0 x u rfl rfl) (qec (Nat.succ.inj h) fun i y v e1 e2=>r (i+1) y v e1 e2)
section
variable {X:Cx}
def qki (K:Frag):List V->Hp->VK->Prop:=fun xs H Q=>∃ x C t b,xs=[x,V.ref C]∧qcN K H x t∧kitOne K t (.ref C)=some b∧Q (.bl b) H
theorem qbm:CallR X (.builtin "isinstance") (qki X.K):=by
 intro pins s σ H xs us Q I r h;obtain⟨x,C,t,b,rfl,ht,hk,q⟩:=h;obtain⟨u,w',rfl,ru,rw'⟩:=qcj r;cases (show w'=Value.ref C from rw');exact qb2 I ru ht hk fun tk=>⟨.bl _,H,I.tok tk,rfl,q⟩
theorem Zs {K:Frag}{C D:Addr}{l:List (Option Addr)} (m:XMro K C l) (hl:l.head?=some (some C)) (d:qhr K D):kitOne K (.ref C) (.ref D)=some (l.contains (some D)):=by
 have e:=qgc m (by intro z;rw[z]at hl;cases hl) d;unfold kitOne;split
 · rename_i z
   have z':C=D:=Value.ref.inj (eq_of_beq z);subst z';congr 1
   cases l with
   | nil=>cases hl
   | cons x r=>rw[List.head?_cons]at hl;cases hl;simp
 · obtain⟨cd,h1,h2⟩:=m;unfold PySem.W.kitCls;have d1:(PySem.W.clsIn K D).isSome=true:=d.1;simp only[d.2,d1];simp only[qjc,d.2,d1]at e;simpa using e
theorem PE.or {e:Expr}{t u:TE} (h:PE X e t) (h':PE X e u):PE X e (fun σ H Q=>t σ H Q∨u σ H Q):=fun pins s σ H Q I q=>q.elim (h pins s σ H Q I) (h' pins s σ H Q I)
def qij:R2:=fun x y H Q=>∃ a o,y=.ref a∧qi3 H a x o∧Q (.bl (!o.isSome)) H
theorem qeW (hu:X.A.units+1 < cLine):OpR X (compareOp .NotIn) qij:=by
 intro pins s σ H x y v u Q I rx ry h;obtain⟨a,o,rfl,g,q⟩:=h;cases ry;exact qiU hu I g rx fun s' I'=>⟨.bl _,H,I',rfl,q⟩
end
section
variable {X:Cx}{tg:Expr}
structure InsF (K:Frag) (C:Addr):Prop where
 cl:Cls K C
 ha:PySem.W.findIn K (.ref C) "__class__"=some (some (.builtin "object.__class__"))
 hn:PySem.W.specialIn K (.builtin "object.__class__") "__get__"=some (some (.builtin "getset_descriptor.__get__"))
 htk:PySem.W.takesIn K (.builtin "object.__class__")=some true
 hm:PySem.W.mroIn K C (.type "object")=some true
theorem InsF.ty {K:Frag}{H:Hp}{a C dx:Addr}{fs:List (Str×V)} (i:InsF K C) (e:H a=some (.ins C dx fs)):qcN K H (.ref a) (.ref C):=.ins e i.cl i.ha i.hn i.htk i.hm
end
section
variable {X:Cx}
theorem qbK:∀ {cs:List Addr}{us:List Value},Vals (cs.map V.ref) us->us=cs.map Value.ref
 | [],_,.nil=>rfl
 | c::cs,_,.cons r t=>by rw[qbK t];cases (show _=Value.ref c from r);rfl
end
end L2
namespace L2
open PySem PySem.Spec PyProof.Rows
open PySem.W (Frag tabObj)
def qch (mg:Str->Option Value) (base:Heap):Prop:=∃ bm o,mg "__builtins__"=some (.ref bm)∧bm≠builtinsNs∧base.get? bm=some o∧o.cls=.type "module"∧o.dict=some builtinsNs∧o.data=.plain
def qi1 (ts:List Addr) (H:Hp):Prop:=∀ b,H b=none∨(∃ o xs,H b=some (.frz o (.lst xs)))∨(b∈ts∧H b=some (.tbl #[]))
theorem qfr {P:Program}{w:World}{K:Frag}{mg mb:Str->Option Value}{CX:CXT}{k:Nat}{fa a:Addr}{fd:FuncData}{x:Str}{sp:Sp}{s₁:Shared}{vs:List Value}{ns:List Int}{ts:List Addr}
   (KX:K.In s₁.heap) (hns:s₁.heap.Ns mainGlobals mg) (hb:s₁.heap.Ns builtinsNs mb) (hbb:∀ x:Str,x≠"__name__"->mb x=bootBuiltins x) (hlim:s₁.heap.NoLimit) (hg:s₁.gens=#[])
   (ht:∀ t∈ts,s₁.heap.get? t=some (tabObj #[])) (hc:∀ t∈ts,isCodeTable s₁.heap t) (hk:∀ t∈ts,K.lookup t=none)
   (hB:qch mg s₁.heap) (ha:s₁.heap.get? a=some { cls:=.type "list",data:=.seq vs.toArray }) (hi:IntsAre vs ns) (hl:ns.length≤sizeLine) (hr:Room k callerA)
   (F:∀ base:Heap,K.In base->base.Ns mainGlobals mg->qch mg base->qx P w K mg base CX k fa fd [x] sp) (hbind:∀ (s:Shared) (u:Value),BindsTo s fd ⟨[u],[]⟩ [(x,u)])
   (hsp:∀ H:Hp,qi1 ts H->(∀ t∈ts,H t=some (.tbl #[]))->SqL K H a (ns.map V.int)->sp [.ref a] H (fun v _=>v=.bl true) fun _ _ _=>False)
   (hCX:∀ H e s',CX [] H s₁ (fun _ _ _=>False) e s'->False) :
   codeAny (model P w) callerA (.call (.ref fa) ⟨[.ref a],[]⟩) (fun r s'=>r=.ok (.ret (.bool true))∧OldK s₁.heap s'.heap∧s'.os=s₁.os∧AllBare s'.gens) s₁:=by
 have rv:=qbn hi;have lenV:=hi.length
 have nat:a∉ts:=fun m=>by
   have:=ht a m
   rw[ha]at this;cases this
 have core:∀ H:Hp,qi1 ts H->(∀ t∈ts,H t=some (.tbl #[]))->SqL K H a (ns.map V.int)->HOk P w H s₁.heap->(∀ b,H b≠none->b=a∨b∈ts)->(H a≠none->K.lookup a=none) ->
     codeAny (model P w) callerA (.call (.ref fa) ⟨[.ref a],[]⟩) (fun r s'=>r=.ok (.ret (.bool true))∧OldK s₁.heap s'.heap∧s'.os=s₁.os∧AllBare s'.gens) s₁:=by
   intro H hO hT hS hok hA hK;have base_of:∀ {b:Addr}{o:Obj},s₁.heap.get? b=some o->H b=none->(qf9 s₁.heap H).get? b=some o:=fun e n=>qg9 e n
   have noA:∀ {b:Addr}{o:Obj}{es:Array DictEntry}{ep:Nat},s₁.heap.get? b=some o->o.data=.dict es ep->H b=none:=fun {b o es ep} e d=>by
     cases q:H b with
     | none=>rfl
     | some u =>
       rcases hA b (by rw[q];simp) with rfl|m
       · rw[ha]at e;cases e;cases d
       · rw[ht b m]at e;cases e;cases d
   have nsK:∀ {b:Addr}{m:Str->Option Value},s₁.heap.Ns b m->(qf9 s₁.heap H).Ns b m:=fun {b m} ⟨o,es,ep,e,d,r⟩=>⟨o,es,ep,base_of e (noA e d),d,r⟩
   have hKb:K.In (qf9 s₁.heap H):=fun b o e=>base_of (KX b o e) (by
     cases q:H b with
     | none=>rfl
     | some u =>
       rcases hA b (by rw[q];simp) with z|m
       · subst z;rw[hK (by rw[q];simp)]at e;cases e
       · rw[hk b m]at e;cases e)
   have hBb:qch mg (qf9 s₁.heap H):=by
     obtain⟨bm,o,b1,b2,b3,b4,b5,b6⟩:=hB;refine⟨bm,o,b1,b2,base_of b3 ?_,b4,b5,b6⟩
     cases q:H bm with
     | none=>rfl
     | some u =>
       rcases hA bm (by rw[q];simp) with z|m
       · rw[z,ha]at b3;cases b3;cases b6
       · rw[ht bm m]at b3;cases b3;cases b6
   have hM:Mod K mg (qf9 s₁.heap H):=⟨hKb,nsK hns,⟨mb,nsK hb,hbb⟩,let ⟨mc,h1,h2⟩:=hlim;⟨mc,nsK h1,h2⟩⟩
   have e0:Env0 P w K mg (qf9 s₁.heap H) callerA [] s₁ H:=⟨rfl,hM,fun b o e=>qiw e,Nat.le_of_eq (qfC _ _),trivial,fun b hb=>absurd (show b∈([]:List Addr) from hb) (by simp),hok,.of_eq hg⟩
   refine codeAny_mono ((F _ hKb (nsK hns) hBb).run callerA [] s₁ H ⟨[.ref a],[]⟩ [.ref a] [.ref a] _ _ hr e0 (hbind s₁ (.ref a)) (.cons rfl .nil) (hsp H hO hT hS)) fun r s' h=>?_
   cases r with
   | error e=>exact(hCX H e s' h).elim
   | ok fl =>
     cases fl with
     | next=>exact False.elim h
     | brk=>exact False.elim h
     | cont=>exact False.elim h
     | ret u =>
       obtain⟨v,H',os,bare,un,hok',r',q⟩:=h;have q':v=.bl true:=q;subst q';obtain rfl:u=Value.bool true:=r'
       have grown:∀ t∈ts,∃ more,s'.heap.get? t=some (tabObj more):=fun t m=>by
         obtain⟨more,z⟩:=un.tbls t #[] (hT t m);exact⟨_,(show ObjOk P w H' s'.heap t (.tbl (#[]++more)) from hok' t _ z)⟩
       have keep:∀ b o,b∉ts->s₁.heap.get? b=some o->s'.heap.get? b=some o:=fun b o nm e=>by
         rcases hO b with z|⟨ob,xs,z⟩|⟨m,_⟩
         · exact un.keep b o e z (by intro z;exact absurd (show b∈([]:List Addr) from z) (by simp)) (by simp)
         · have z2:=un.frzs b ob _ z;obtain⟨e1,_⟩:=hok b _ z;obtain⟨e2,_⟩:=hok' b _ z2;rw[e]at e1;cases e1;exact e2
         · exact absurd m nm
       refine⟨rfl,⟨fun b o e=>?_,fun b o e=>?_⟩,os,bare⟩
       · by_cases m:b∈ts
         · obtain⟨ps,g⟩:=grown b m;have e':=ht b m;rw[e]at e';cases e';exact .inr (.inl ⟨hc b m,rfl,#[],ps,rfl,by rw[Array.empty_append];exact g⟩)
         · exact .inl (keep b o m e)
       · by_cases m:b∈ts
         · obtain⟨ps,g⟩:=grown b m;exact⟨_,g⟩
         · exact⟨o,keep b o m e⟩
 cases hka:K.lookup a with
 | some o =>
   have e:=KX a o hka;rw[ha]at e;cases e;refine core (fun b=>if b∈ts then some (.tbl #[]) else none) (fun b=>?_) (fun t m=>if_pos m) (.inr ⟨_,vs.toArray,_,hka,rfl,rfl,rfl,by rw[List.size_toArray,lenV];exact hl,by simpa using rv⟩) (fun b u z=>?_) (fun b z=>?_) fun z=>absurd (if_neg nat) z
   · by_cases m:b∈ts
     · exact .inr (.inr ⟨m,if_pos m⟩)
     · exact .inl (if_neg m)
   · by_cases m:b∈ts
     · have z':=(if_pos m).symm.trans z;cases z';exact ht b m
     · have z':=(if_neg m).symm.trans z;cases z'
   · by_cases m:b∈ts
     · exact .inr m
     · exact absurd (if_neg m) z
 | none =>
   refine core (fun b=>if b=a then some (.frz { cls:=.type "list",data:=.seq vs.toArray } (.lst (ns.map V.int))) else if b∈ts then some (.tbl #[]) else none) (fun b=>?_) (fun t m=>?_) (.inl (.inr ⟨{ cls:=.type "list",data:=.seq vs.toArray },if_pos rfl⟩)) (fun b u z=>?_) (fun b z=>?_) fun _=>hka
   · by_cases hb:b=a
     · exact .inr (.inl ⟨_,_,if_pos hb⟩)
     · by_cases m:b∈ts
       · exact .inr (.inr ⟨m,(if_neg hb).trans (if_pos m)⟩)
       · exact .inl ((if_neg hb).trans (if_neg m))
   · have hb:t≠a:=fun z=>nat (z▸m);exact(if_neg hb).trans (if_pos m)
   · by_cases hb:b=a
     · have z':=(if_pos hb).symm.trans z;cases z';subst hb;exact⟨ha,by rw[List.length_map];exact hl,vs,_,rv,ha⟩
     · by_cases m:b∈ts
       · have z':=((if_neg hb).trans (if_pos m)).symm.trans z;cases z';exact ht b m
       · have z':=((if_neg hb).trans (if_neg m)).symm.trans z;cases z'
   · by_cases hb:b=a
     · exact .inl hb
     · by_cases m:b∈ts
       · exact .inr m
       · exact absurd ((if_neg hb).trans (if_neg m)) z
theorem walk_ofT {l:PySem.W.OpenLaw}{n k:Nat}{q:Program}{loose:List Str}{XP:(Str->Option Value)->Heap->Prop}{YP:World->Heap->Prop}{d:DefRec}{K:Params->Frag}{CX:World->CXT}{sp:World->Sp}{x:Str}{ts:List Addr}
   (hn:l.most=some n) (hn2:n≤sizeLine) (hdf:d.params.defaults=[]) (hr:Room k callerA)
   (hY:∀ (w:World) (h:Heap),YP w h->(K w.params).In h∧(∀ t∈ts,h.get? t=some (tabObj #[]))∧(∀ t∈ts,isCodeTable h t)∧∀ t∈ts,(K w.params).lookup t=none)
   (F:∀ (w:World) (mg:Str->Option Value) (fa:Addr) (h:Heap),(K w.params).In h->h.Ns mainGlobals mg->mg d.name=some (.ref fa) ->
     ∃ fd:FuncData,(∀ (s:Shared) (u:Value),BindsTo s fd ⟨[u],[]⟩ [(x,u)]) ∧
       ∀ base:Heap,(K w.params).In base->base.Ns mainGlobals mg->qch mg base->qx l.prog w (K w.params) mg base (CX w) k fa fd [x] (sp w))
   (hsp:∀ (w:World) (H:Hp) (a:Addr) (ns:List Int),ns.length≤n->qi1 ts H->(∀ t∈ts,H t=some (.tbl #[]))->SqL (K w.params) H a (ns.map V.int)->sp w [.ref a] H (fun v _=>v=.bl true) fun _ _ _=>False)
   (hCX:∀ (w:World) (H:Hp) (s:Shared) (e:Value) (s':Shared),CX w [] H s (fun _ _ _=>False) e s'->False) :
   PySem.W.WalkO q loose XP YP l.row.toRowW d [] (fun f vs=>PySem.call f vs):=by
 refine Att.attach_call hn hdf fun w s₀ s₁ mg mb fa o pm cd doc a vs ns G Y ho hd hcd hmg hobj hints hlen hg=>?_;obtain⟨KX,h1,h2,h3⟩:=hY w _ Y;obtain⟨fd,hb,hF⟩:=F w mg fa _ KX G.T.g hmg;exact qfr KX G.T.g G.T.b G.T.builtins G.T.nolimit hg h1 h2 h3 (let ⟨bm,ob,b1,b2,b3,b4,b5,b6⟩:=G.T.bmain;⟨bm,ob,b1,b2,b3,b4,b5,b6⟩) hobj hints (Nat.le_trans hlen hn2) hr hF hb (fun H hO hT hS=>hsp w H a ns hlen hO hT hS) fun H e s'=>hCX w H s₁ e s'
def zQ (c:Addr) (q:Str):Heap->Prop:=fun h=>h.CodeRec (.ref c) q
def ZY (f:Addr) (o:Obj):Heap->Prop:=fun h=>h.get? f=some o
section
variable {P:Program}{w:World}{H:Hp}{h:Heap}{c f:Addr}{q:Str}{o:Obj}
theorem qhi (x:zQ c q h):ObjOk P w H h c (.ext (zQ c q)):=by
 obtain⟨c',o,vs,t,e,g,r⟩:=id x;cases e;exact⟨x,⟨o,g⟩,fun h1 h2 ⟨c',o',vs',t',e',g',r'⟩ k=>by cases e';exact⟨c,o',vs',t',rfl,k _ g',r'⟩⟩
theorem qcv (x:ZY f o h):ObjOk P w H h f (.ext (ZY f o)):=⟨x,⟨o,x⟩,fun _ _ e k=>k _ e⟩
end
theorem jC {i j:Int}{a b:Tok}{c:Value}:∀ {l:List Value},TriplesOk l->TriplesOk (l++[.int i a,.int j b,c])
 | [],_=>True.intro
 | .int _ _::.int _ _::_::r,h=>jC (l:=r) h
section
variable {X:Cx}{pins:List (Addr×Obj)}{σ:St}{H:Hp}{s:Shared}{h':Heap}
theorem Inv.lam {T c':Addr}{ps:Array Value}{more:Array Value}{q:Str}{t':Nat} (I:Inv X pins σ H s) (hT:H T=some (.tbl ps)) (hx:Heap.ExtBut T s.heap h') (c0:s.heap.objs.size≤c') (c1:c' < h'.objs.size) (hr:h'.CodeRec (.ref c') q)
   (ht:h'.get? T=some (tabObj (ps++more))) (fo:Obj) (hfo:fo.isFreed=false) :
   Inv X pins σ (upd (upd (upd H T (.tbl (ps++more))) c' (.ext (zQ c' q))) h'.objs.size (.ext (ZY h'.objs.size fo))) { s with heap:=h'.push fo,toks:=t' }:=by
 have Tlt:T < s.heap.objs.size:=I.hok.lt hT;have nTc:T≠c':=Nat.ne_of_lt (Nat.lt_of_lt_of_le Tlt c0);have Tf:T < h'.objs.size:=Heap.lt_size ht;have nTf:T≠h'.objs.size:=Nat.ne_of_lt Tf;have ncf:c'≠h'.objs.size:=Nat.ne_of_lt c1;have hcn:H c'=none:=I.hok.fresh c0;have sle:s.heap.objs.size≤h'.objs.size:=Nat.le_trans c0 (Nat.le_of_lt c1);have hfn:H h'.objs.size=none:=I.hok.fresh sle;have oth:∀ b,b≠T->b≠c'->b≠h'.objs.size->upd (upd (upd H T (.tbl (ps++more))) c' (.ext (zQ c' q))) h'.objs.size (.ext (ZY h'.objs.size fo)) b=H b:=fun b n1 n2 n3=>by rw[qi n3,qi n2,qi n1]
 have kp:∀ b o,b≠T->s.heap.get? b=some o->(h'.push fo).get? b=some o:=fun b o n e=>Heap.get?_push_of_some _ (hx b o n e);have nT:∀ {b u},H b=some u->u≠.tbl ps->b≠T:=fun e n z=>by rw[z,hT]at e;exact n (Option.some.inj e).symm
 have nc:∀ {b u},H b=some u->b≠c':=fun e z=>by rw[z,hcn]at e;cases e
 have nf:∀ {b u},H b=some u->b≠h'.objs.size:=fun e z=>by rw[z,hfn]at e;cases e
 have same:∀ {b u},H b=some u->u≠.tbl ps->upd (upd (upd H T (.tbl (ps++more))) c' (.ext (zQ c' q))) h'.objs.size (.ext (ZY h'.objs.size fo)) b=some u:=fun e n=>by rw[oth _ (nT e n) (nc e) (nf e)];exact e
 refine I.un ⟨fun b o e n _ _=>kp b o (fun z=>by rw[z,hT]at n;cases n) e,fun b o e n _ _=>⟨o.slots,kp b o (fun z=>by rw[z,hT]at n;cases n) e⟩,fun b o e n _=>?_,fun b o e _=>?_,fun b xs e=>same e (by intro z;cases z),fun b o u e=>same e (by intro z;cases z),fun b qs e=>?_⟩ fun b u e=>?_
 · have lt:=Heap.lt_size e;rw[oth b (fun z=>by rw[z,hT]at n;cases n) (Nat.ne_of_lt (Nat.lt_of_lt_of_le lt c0)) (Nat.ne_of_lt (Nat.lt_of_lt_of_le lt sle))];exact n
 · by_cases z:b=T
   · subst z;exact⟨_,Heap.get?_push_of_some _ ht⟩
   · exact⟨o,kp b o z e⟩
 · by_cases z:b=T
   · subst z;rw[hT]at e;cases e;exact⟨more,by rw[qi nTf,qi nTc,qb]⟩
   · rw[oth b z (nc e) (nf e)];exact⟨#[],by rw[e];simp⟩
 · by_cases z3:b=h'.objs.size
   · subst z3;rw[qb]at e;cases e;exact qcv (Heap.get?_push_size _ hfo)
   · rw[qi z3]at e;by_cases z2:b=c'
     · subst z2;rw[qb]at e;cases e;exact qhi (hr.push fo)
     · rw[qi z2]at e;by_cases z1:b=T
       · subst z1;rw[qb]at e;cases e;exact Heap.get?_push_of_some _ ht
       · rw[qi z1]at e;refine(I.hok b u e).stay (fun c v hc g=>kp c v (fun z=>?_) g) (fun c r=>same r (by intro z;cases z)) fun c xs r=>same r (by intro z;cases z);rcases hc with hc|hc
         · exact z1 (hc▸z)
         · rw[z,hT]at hc;cases hc
def qcg (X:Cx) (params:Arguments) (body:Expr) (scope:Scope) (c:Addr) (o:Obj):Prop :=
 ∃ pm ctv,o=PySem.W.kla_obj "<lambda>" (X.env.qual++"<lambda>") params body scope (qQ X.env.cells scope.names []) pm c ctv
end
section
variable {X:Cx}{pins:List (Addr×Obj)}{σ:List (Option V)}{H:Hp}{s:Shared}{h':Heap}
theorem Inv.keptL {t':Nat} (I:Inv X pins σ H s) (k:∀ b u,b≠X.env.locals->s.heap.get? b=some u->h'.get? b=some u) (ns:∀ m,s.heap.Ns X.env.locals m->h'.Ns X.env.locals m) :
   Inv X pins σ H { s with heap:=h',toks:=t' }:=by
 have nL:∀ b u,H b=some u->b≠X.env.locals:=fun b u e z=>by rw[z,I.free]at e;cases e
 refine I.step (g':=s.gens) (d':=s.drawn) (ch:=[]) (fun _ z=>nomatch z) (fun b o hb _ _ e _=>k b o hb e) (fun b o hb _ _ e _=>⟨o.slots,k b o hb e⟩) (fun b o _ e n=>n) (fun b o _ e=>?_)
   (fun b xs q=>q) (fun b u xs q=>q) (fun b ps q=>⟨#[],by rw[q];simp⟩) ns (fun b u e=>?_) I.bare
 · by_cases z:b=X.env.locals
   · obtain⟨m,hm,_⟩:=I.loc;obtain⟨o',_,_,ho',_⟩:=ns m hm;exact⟨o',by rw[z];exact ho'⟩
   · exact⟨o,k b o z e⟩
 · refine(I.hok b u e).stay (fun c v hc q=>k c v ?_ q) (fun c q=>q) fun c xs q=>q;rcases hc with z|z
   · rw[z];exact nL b u e
   · exact nL c _ z
theorem Inv.keptN {t':Nat}{m:Str->Option Value} (I:Inv X pins σ H s) (F:Fr X.base X.env.locals s.heap m) (F':Fr X.base X.env.locals h' m) (N':News X.base X.env.locals h' (qcf X.base s.heap X.env.locals)) :
   Inv X pins σ H { s with heap:=h',toks:=t' }:=by
 refine I.keptL (fun b u ne q=>?_) fun m' hm=>?_
 · cases z:X.base.get? b with
   | some o =>
     have:=I.bk b o z
     rw[q]at this;cases this;exact F'.keep b _ z
   | none=>exact(N' _ (jn q ne z)).1
 · rw[qhM hm F.ns];exact F'.ns
inductive qeJ (K:Frag) (xs:List V) (H:Hp) (Q:VK):Prop
 | mk (l:Addr) (ns:List Int) (h1:xs=[.ref l]) (h2:SqL K H l (ns.map V.int)) (h3:Q (.int ns.sum) H):qeJ K xs H Q
def qjA (K:Frag):List V->Hp->VK->Prop:=fun xs H Q=>qeJ K xs H Q
theorem qfP (hc:X.calm=true):CallR X (.builtin "sum") (qjA X.K):=by
 intro pins s σ H xs us Q I r h;obtain⟨l,ns,rfl,hq,q⟩:=h;obtain⟨u,rfl,ru⟩:=Ji r;cases (show u=Value.ref l from ru);obtain⟨its,rv,p,hz⟩:=I.list hq;obtain⟨m,F⟩:=I.fr;exact LSm.sum_ints F (qaU X.base s.heap X.env.locals) (I.ok.hd hc) p.isList (qdv rv) fun h' tk t' F' N'=>⟨.int ns.sum,H,I.keptN F F' N',⟨t',rfl⟩,q⟩
end
end L2
namespace SetO
open PySem
end SetO
set_option maxHeartbeats 8000000
namespace L2
open PySem PySem.Spec PyProof.Rows
open PySem.W (Frag fnOf tabObj kla_obj envX fnMade fnX codeHdIn codeHd_of_K)
def zN (c:Addr) (v:V):Heap->Prop:=fun h=>∃ u,RelV v u∧h.IsCell c (some u)
def backL (H:Hp) (cs:List Addr) (H2:Hp):Hp:=fun b=>if b∈cs then H b else H2 b
theorem qO {H H2:Hp}{cs:List Addr}{b:Addr} (h:b∉cs):backL H cs H2 b=H2 b:=by unfold backL;rw[if_neg h]
theorem Jg {H H2:Hp}{cs:List Addr}{b:Addr} (h:b∈cs):backL H cs H2 b=H b:=by unfold backL;rw[if_pos h]
theorem zA {H:Hp}{cs:List Addr}:backL H cs (cut H cs)=H:=by
 funext b;by_cases z:b∈cs
 · rw[Jg z]
 · rw[qO z,Qv z]
section
variable {P:Program}{w:World}{H H2:Hp}{h h':Heap}{cs:List Addr}{c:Addr}{v:V}
theorem qhn (x:zN c v h):ObjOk P w H h c (.ext (zN c v)):=by
 obtain⟨u,r,o,e,d⟩:=id x;exact⟨x,⟨o,e⟩,fun h1 h2 ⟨u,r,o,e,d⟩ k=>⟨u,r,o,k _ e,d⟩⟩
theorem HOk.cutL (ok:HOk P w H h) (e:∀ c∈cs,∃ φ,H c=some (.ext φ)):HOk P w (cut H cs) h:=fun b u q=>by
 have nb:b∉cs:=fun z=>by rw[J1 z]at q;cases q
 have out:∀ c v,H c=some v->(∀ φ,v≠.ext φ)->cut H cs c=some v:=fun c v r nv=>by
   rw[Qv fun z=>by obtain⟨φ,e⟩:=e c z;rw[e]at r;exact nv φ (Option.some.inj r).symm];exact r
 rw[Qv nb]at q;exact(ok b u q).stay (fun _ _ _ z=>z) (fun c r=>out c _ r (by intro φ z;cases z)) fun c xs r=>out c _ r (by intro φ z;cases z)
theorem HOk.backL (ok:HOk P w H h) (e:∀ c∈cs,∃ φ,H c=some (.ext φ)) (ok2:HOk P w H2 h') (n2:∀ c∈cs,H2 c=none) (k:∀ c∈cs,∀ o,h.get? c=some o->h'.get? c=some o):HOk P w (backL H cs H2) h':=fun b u q=>by
 by_cases z:b∈cs
 · obtain⟨φ,e⟩:=e b z;rw[Jg z,e]at q;cases q;obtain⟨f,⟨o,g⟩,st⟩:=(show ObjOk P w H h b (.ext φ) from ok b _ e)
   exact⟨st h h' f (k b z),⟨o,k b z o g⟩,st⟩
 · rw[qO z]at q;have out:∀ c v,H2 c=some v->L2.backL H cs H2 c=some v:=fun c v r=>by rw[qO fun z=>by rw[n2 c z]at r;cases r];exact r
   exact(ok2 b u q).stay (fun _ _ _ z=>z) (fun c r=>out c _ r) fun c xs r=>out c _ r
end
inductive Clo (H:Hp) (f:Addr) (qual:Str) (params:Arguments) (body:Expr) (scope:Scope) (fv:List (Str×V)):Prop
 | mk (cl:List (Str×Addr)) (c:Addr) (pm ctv:Value) (hf:H f=some (.ext (ZY f (kla_obj "<lambda>" qual params body scope cl pm c ctv)))) (hc:H c=some (.ext (zQ c qual)))
     (cells:∀ x d,cl.lookup x=some d->∃ v,fv.lookup x=some v∧H d=some (.ext (zN d v))) (all:∀ x v,fv.lookup x=some v->∃ d,cl.lookup x=some d) (inj:∀ x y d,cl.lookup x=some d->cl.lookup y=some d->x=y):Clo H f qual params body scope fv
theorem Clo.mp {H H':Hp}{f:Addr}{qual:Str}{params:Arguments}{body:Expr}{scope:Scope}{fv:List (Str×V)} (h:Clo H f qual params body scope fv) (k:∀ b φ,H b=some (.ext φ)->H' b=some (.ext φ)):Clo H' f qual params body scope fv:=by
 obtain⟨cl,c,pm,ctv,hf,hc,cells,all,inj⟩:=h;exact⟨cl,c,pm,ctv,k _ _ hf,k _ _ hc,fun x d e=>let ⟨v,e1,e2⟩:=cells x d e;⟨v,e1,k _ _ e2⟩,all,inj⟩
def cxC (P:Program) (w:World) (K:Frag) (mg:Str->Option Value) (base:Heap) (N:List Str) (qual:Str) (scope:Scope) (f c:Addr) (cl:List (Str×Addr)) (A:Around) (outer:List Env) (s:Shared) (H:Hp):Cx where
 prog:=P
 w:=w
 K:=K
 mg:=mg
 base:=base
 A:=A.deeper (envX qual scope s.heap.objs.size f (.ref c) cl)
 N:=N
 s₀:=s
 H₀:=H
 env:=envX qual scope s.heap.objs.size f (.ref c) cl
 outer:=outer
 stack:=envX qual scope s.heap.objs.size f (.ref c) cl::outer
 ex:=[]
 fn:=fun x=>!(cl.lookup x).isSome
 calm:=true
 pn:=[]
 xe:=fun _ _=>False
def fcs (cl:List (Str×Addr)) (fv:List (Str×V)):List Addr:=fv.filterMap fun y=>cl.lookup y.1
structure qi2 (params:Arguments) (body:Expr) (scope:Scope) (ps fs:List Str):Prop where
 co:scope.isCoroutine=false
 gen:scope.isGenerator=false
 kind:scope.kind=.function
 cell:∀ x∈scope.names,x.2≠.cell
 free:∀ y∈scope.names,y.2=.free->y.1∈fs
 loc:∀ x∈ps,scope.names.lookup x=some .local
 fre:∀ x∈fs,scope.names.lookup x=some .free
 bind:∀ (qual:Str) (cl:List (Str×Addr)) (pm cdv ct:Value) (us:List Value),us.length=ps.length->bindArgs (PySem.W.kla_fn "<lambda>" qual params body scope cl pm cdv ct) ⟨us,[]⟩=pure (ps.zip us)
 nd:(ps++fs).Nodup
theorem JS {α:Type}{x:Str}{v:α}:∀ {l:List (Str×α)},(l.map (·.1)).Nodup->(x,v)∈l->l.lookup x=some v
 | y::r,nd,h=>by
   have n:=List.nodup_cons.mp nd;rcases List.mem_cons.mp h with z|m
   · subst z;exact List.lookup_cons_self
   · have mm:x∈r.map (·.1):=List.mem_map.mpr ⟨(x,v),m,rfl⟩
     have ne:(x == y.1)=false:=by
       rw[beq_eq_false_iff_ne];intro z;rw[z]at mm;exact n.1 mm
     rw[List.lookup_cons,ne];exact JS n.2 m
theorem J7 {k:Nat}{P:Program}{w:World}{K:Frag}{mg:Str->Option Value}{base:Heap}{f:Addr}{qual:Str}{params:Arguments}{body:Expr}{scope:Scope}{ps:List Str}{fv:List (Str×V)} (L:qi2 params body scope ps (fv.map (·.1)))
   {A:Around}{outer:List Env}{s:Shared}{H:Hp}{us:List Value}{vs:List V}{Q:VK} (hr:Room (k+1) A) (e0:Env0 P w K mg base A outer s H) (C:Clo H f qual params body scope fv) (r:Vals vs us) (hl:vs.length=ps.length)
   (hbody:∀ (cl:List (Str×Addr)) (c:Addr),(∀ d∈fcs cl fv,∃ y v,fv.lookup y=some v∧H d=some (.ext (zN d v)))->Room k (A.deeper (envX qual scope s.heap.objs.size f (.ref c) cl))->(∀ b v,H b=some v->(∀ φ,v≠.ext φ)->cut H (fcs cl fv) b=some v) ->
     ∃ te,PE (cxC P w K mg base (ps++fv.map (·.1)) qual scope f c cl A outer s (cut H (fcs cl fv))) body te∧te (vs.map some++fv.map fun y=>some y.2) (cut H (fcs cl fv)) fun v H'=>Q v (backL H (fcs cl fv) H')) :
   codeAny (model P w) A (.call (.ref f) ⟨us,[]⟩) (CR CX0 outer P w H s Q E0) s:=by
 obtain⟨cl,c,pm,ctv,hf,hc,cells,all,inj⟩:=C;have ff:s.heap.get? f=some _:=((show ObjOk P w H s.heap f (.ext (ZY f _)) from e0.hok f _ hf)).1;have cc:s.heap.CodeRec (.ref c) qual:=((show ObjOk P w H s.heap c (.ext (zQ c qual)) from e0.hok c _ hc)).1;have lim:s.heap.NoLimit:=e0.mod.nolimit.keeps fun b o e=>(e0.bs b o e).1;have ul:us.length=ps.length:=by rw[← r.length];exact hl
 have csx:∀ d∈fcs cl fv,∃ v,H d=some (.ext (zN d v)):=fun d m=>by
   obtain⟨y,_,e⟩:=List.mem_filterMap.mp m;obtain⟨v,_,q⟩:=cells _ _ e;exact⟨v,q⟩
 have csin:∀ x d,cl.lookup x=some d->d∈fcs cl fv:=fun x d e=>by
   obtain⟨v,q,_⟩:=cells x d e;exact List.mem_filterMap.mpr ⟨(x,v),PySem.mem_of_lookup q,e⟩
 have cex:∀ d∈fcs cl fv,∃ φ,H d=some (.ext φ):=fun d m=>let ⟨v,q⟩:=csx d m;⟨_,q⟩
 have cn:∀ b,H b=none->cut H (fcs cl fv) b=none:=fun b n=>by
   unfold cut;split
   · rfl
   · exact n
 have e1:Env0 P w K mg base A outer s (cut H (fcs cl fv)):=⟨e0.frames,e0.mod,fun b o q=>⟨(e0.bs b o q).1,cn b (e0.bs b o q).2⟩,e0.bsz,e0.funs,fun b m=>cn b (e0.frf b m),e0.hok.cutL cex,e0.bare⟩
 refine PySem.W.kla_callFunE hr.depth ff rfl L.co L.gen rfl cc ?_;rw[show bindArgs _ _=_ from L.bind _ _ _ _ _ us ul];refine wpAny_pure (wpAny_newFunctionEnv L.cell (fun x hx=>L.loc _ (List.of_mem_zip hx).1) (fun h₁ hns hsb=>⟨lim.fresh _ hsb,?_⟩) L.kind);have hk₁:∀ b o,s.heap.get? b=some o->h₁.get? b=some o:=fun b o e=>hsb.extBut b o (Nat.ne_of_lt (Heap.lt_size e)) (Heap.get?_push_of_some _ e);show codeAny _ _ (.expr _ (envX qual scope s.heap.objs.size f (.ref c) cl)) _ _;refine PySem.W.kla_codeExpr ?_
 obtain⟨te,hte,hq⟩:=hbody cl c (fun d m=>by
   obtain⟨y,_,e⟩:=List.mem_filterMap.mp m;obtain⟨v,q,z⟩:=cells _ _ e
   exact⟨y.1,v,q,z⟩) (hr.deeper _) fun b v r nv=>(Qv fun z=>by obtain⟨φ,e⟩:=cex b z;rw[e]at r;exact nv φ (Option.some.inj r).symm).trans r
 have noA:∀ b:Addr,b∉(cxC P w K mg base (ps++fv.map (·.1)) qual scope f c cl A outer s (cut H (fcs cl fv))).ex:=fun b z=>absurd (show b∈([]:List Addr) from z) (by simp);have ndp:ps.Nodup:=(List.nodup_append.mp L.nd).1;have ndf:(fv.map (·.1)).Nodup:=(List.nodup_append.mp L.nd).2.1
 have zk:((ps.zip us).reverse.map (·.1)).Nodup:=by
   rw[List.map_reverse];rw[show (ps.zip us).map (·.1)=ps from List.map_fst_zip (by omega)];exact List.pairwise_reverse.mpr (List.Pairwise.imp Ne.symm ndp)
 have isc:∀ x d,cl.lookup x=some d->∃ v u,fv.lookup x=some v∧RelV v u∧s.heap.IsCell d (some u):=fun x d e=>by
   obtain⟨v,q,hd⟩:=cells x d e;obtain⟨⟨u,rv,ic⟩,_,_⟩:=(show ObjOk P w H s.heap d (.ext (zN d v)) from e0.hok d _ hd)
   exact⟨v,u,q,rv,ic⟩
 have up:∀ {d:Addr}{v:Option Value},s.heap.IsCell d v->h₁.IsCell d v:=fun⟨o,e,d⟩=>⟨o,hk₁ _ _ e,d⟩
 have I:Inv (cxC P w K mg base (ps++fv.map (·.1)) qual scope f c cl A outer s (cut H (fcs cl fv))) [] (vs.map some++fv.map fun y=>some y.2) (cut H (fcs cl fv)) { heap:=h₁,gens:=s.gens,drawn:=s.drawn,toks:=s.toks+(ps.zip us).length,os:=s.os }:=by
   refine⟨⟨e0.mod,L.kind,rfl,rfl,Nat.le_refl _,inj,fun y hy=>?_,fun y d h1 h2=>?_,fun _=>hr.hd,Around.frames_deeper e0.frames,.inr ⟨rfl,rfl⟩,fun b z=>absurd z (noA b),e1.bs,e1.bsz,fun b _ _=>noA b,fun b z=>absurd z (noA b),e0.funs,e1.frf⟩,
     rfl,e0.bare,Un.kept hk₁,⟨_,hns,fun i y v h1 h2 h3=>?_⟩,fun y d h=>?_,e1.hok.fresh (Nat.le_refl _),fun y d h=>J1 (csin y d h),fun p hp=>absurd (show p∈([]:List (Addr×Obj)) from hp) (by simp),e1.hok.kept hk₁,?_⟩
   · have hy:scope.names.lookup y=some .cell∨scope.names.lookup y=some .free:=hy;rcases hy with hy|hy
     · exact absurd rfl (L.cell _ (PySem.mem_of_lookup hy))
     · obtain⟨z,mz,ez⟩:=List.mem_map.mp (L.free _ (PySem.mem_of_lookup hy) rfl);obtain⟨d,hd⟩:=all z.1 z.2 (JS ndf mz);exact⟨d,by rw[← show z.1=y from ez];exact hd⟩
   · have h1:(!(cl.lookup y).isSome)=true:=h1;have h2:cl.lookup y=some d:=h2;rw[h2]at h1;cases h1
   · have h1:(ps++fv.map (·.1))[i]?=some y:=h1;by_cases lt:i < ps.length
     · rw[List.getElem?_append_left lt]at h1;rw[List.getElem?_append_left (by rw[List.length_map,hl];exact lt),List.getElem?_map]at h2;obtain⟨v',hv,ev⟩:=Option.map_eq_some_iff.mp h2;cases ev;obtain⟨u,hu,rv⟩:=r.get hv;refine⟨u,rv,.inl ⟨L.loc y (List.mem_of_getElem? h1),?_⟩⟩;refine JS zk (List.mem_reverse.mpr (List.mem_of_getElem? (i:=i) ?_));rw[List.getElem?_zip_eq_some];exact⟨h1,hu⟩
     · rw[List.getElem?_append_right (by omega)]at h1;rw[List.getElem?_append_right (by rw[List.length_map,hl];omega),List.length_map,hl]at h2;rw[List.getElem?_map]at h1 h2;obtain⟨z,hz,ez⟩:=Option.map_eq_some_iff.mp h1;rw[hz]at h2;cases h2;have lk:=JS ndf (x:=z.1) (v:=z.2) (List.mem_of_getElem? hz);obtain⟨d,hd⟩:=all z.1 z.2 lk;obtain⟨v',u,q,rv,ic⟩:=isc z.1 d hd;rw[lk]at q;cases q;refine⟨u,rv,.inr ⟨.inr ?_,d,?_,up ic⟩⟩
       · rw[← show z.1=y from ez];exact L.fre _ (List.mem_map.mpr ⟨z,List.mem_of_getElem? hz,rfl⟩)
       · rw[← show z.1=y from ez];exact hd
   · obtain⟨v,u,_,_,ic⟩:=isc y d h;exact⟨_,up ic⟩
   · show (vs.map some++fv.map fun y=>some y.2).length=(ps++fv.map (·.1)).length;rw[List.length_append,List.length_append,List.length_map,List.length_map,List.length_map,hl]
 refine wpAny_mono (hte [] _ _ _ _ I hq) (fun u s' hs=>?_) fun e s' hs=>hs.elim;obtain⟨v,H',J,rv,q⟩:=hs;have un:=J.base;have nx:∀ b:Addr,b∉([]:List Addr):=fun b=>by simp
 have cold:∀ d∈fcs cl fv,∃ o,s.heap.get? d=some o∧d∉frs outer:=fun d m=>by
   obtain⟨v,q⟩:=csx d m;obtain⟨⟨u,_,o,e,_⟩,_,_⟩:=(show ObjOk P w H s.heap d (.ext (zN d v)) from e0.hok d _ q)
   exact⟨o,e,fun z=>by rw[e0.frf d z]at q;cases q⟩
 have n2:∀ d∈fcs cl fv,H' d=none:=fun d m=>let ⟨o,e,_⟩:=cold d m;un.free d o e (J1 m) (nx d);have kp:∀ d∈fcs cl fv,∀ o,s.heap.get? d=some o->s'.heap.get? d=some o:=fun d m o e=>un.keep d o e (J1 m) (let ⟨_,_,z⟩:=cold d m;z) (nx d)
 have out:∀ b v,H b=some v->(∀ φ,v≠.ext φ)->cut H (fcs cl fv) b=some v∧b∉fcs cl fv:=fun b v r nv=>by
   have nb:b∉fcs cl fv:=fun z=>by obtain⟨φ,e⟩:=cex b z;rw[e]at r;exact nv φ (Option.some.inj r).symm
   exact⟨(Qv nb).trans r,nb⟩
 refine⟨v,backL H (fcs cl fv) H',J.os,J.bare,⟨fun b o q n=>un.keep b o q (cn b n),fun b o q n=>un.slot b o q (cn b n),fun b o q n hx=>?_,un.there,fun b xs q=>?_,fun b o u q=>?_,fun b qs q=>?_⟩,e0.hok.backL cex J.hok n2 kp,rv,q⟩
 · have nb:b∉fcs cl fv:=fun z=>by obtain⟨φ,e⟩:=cex b z;rw[e]at n;cases n
   rw[qO nb];exact un.free b o q (cn b n) hx
 · obtain⟨a1,a2⟩:=out b _ q (by intro φ z;cases z);rw[qO a2];exact un.tups b xs a1
 · obtain⟨a1,a2⟩:=out b _ q (by intro φ z;cases z);rw[qO a2];exact un.frzs b o u a1
 · obtain⟨a1,a2⟩:=out b _ q (by intro φ z;cases z);rw[qO a2];exact un.tbls b qs a1
structure qhp where
 nx:St->Hp->Prop
 rt:V->St->Hp->Prop
abbrev TSK:=qhp->St->Hp->Prop
def SPK (X:Cx) (pins:List (Addr×Obj)) (D:qhp) (fl:Flow) (s':Shared):Prop :=
 match fl with
 | .next=>∃ σ' H',Inv X pins σ' H' s'∧D.nx σ' H'
 | .ret u=>∃ v σ' H',Inv X pins σ' H' s'∧RelV v u∧D.rt v σ' H'
 | _=>False
def PSK (X:Cx) (st:Stmt) (t:TSK):Prop :=
 ∀ (pins:List (Addr×Obj)) (s:Shared) (σ:St) (H:Hp) (D:qhp),Inv X pins σ H s->t D σ H->wpAny (model X.prog X.w) X.A (exec st X.env) (SPK X pins D) X.xe s
def qhZ (X:Cx) (st:List Stmt) (t:TSK):Prop :=
 ∀ (pins:List (Addr×Obj)) (s:Shared) (σ:St) (H:Hp) (D:qhp),Inv X pins σ H s->t D σ H->wpAny (model X.prog X.w) X.A (execs st X.env) (SPK X pins D) X.xe s
section
variable {X:Cx}{st:Stmt}{rest:List Stmt}{t u:TSK}{pos:Pos}{e:Expr}{te:TE}
def qkX:TSK:=fun D σ H=>D.nx σ H
def qlQ (t u:TSK):TSK:=fun D σ H=>t { D with nx:=u D } σ H
def qlR (te:TE):TSK:=fun D σ H=>te σ H fun v H'=>D.rt v σ H'
def kIf (c:TT) (t u:TSK):TSK:=fun D σ H=>c σ H fun b H1=>if b=true then t D σ H1 else u D σ H1
def qlS (t:TS):TSK:=fun D σ H=>t { nx:=D.nx,rt:=fun _ _=>False } σ H
theorem qa7:qhZ X [] qkX:=fun _ _ σ H _ I h=>wpAny_execs_nil ⟨σ,H,I,h⟩
theorem Zl (h1:PSK X st t) (h2:qhZ X rest u):qhZ X (st::rest) (qlQ t u):=by
 intro pins s σ H D I h;refine wpAny_execs_cons (thn (h1 pins s σ H { D with nx:=u D } I h) fun f s1 q=>?_)
 cases f with
 | next =>
   obtain⟨σ',H',I',q⟩:=q;exact h2 pins s1 σ' H' D I' q
 | ret v=>exact q
 | brk=>exact q.elim
 | cont=>exact q.elim
theorem Qo (h1:PSK X st t):qhZ X [st] t:=by
 intro pins s σ H D I h;refine wpAny_execs_cons (thn (h1 pins s σ H D I h) fun f s1 q=>?_)
 cases f with
 | next=>exact wpAny_execs_nil q
 | ret v=>exact q
 | brk=>exact q.elim
 | cont=>exact q.elim
theorem Zm (he:PE X e te):PSK X (.Return (some e) pos) (qlR te):=by
 intro pins s σ H D I h;exact wpAny_Return_some (thn (he pins s σ H _ I h) fun v s1 ⟨x,H1,I1,r1,q1⟩=>⟨x,σ,H1,I1,r1,q1⟩)
theorem qeN {c:Expr}{a b:List Stmt}{tc:TT} (hc:PT X c tc) (ha:qhZ X a t) (hb:qhZ X b u):PSK X (.If c a b pos) (kIf tc t u):=by
 intro pins s σ H D I h;refine wpAny_If (thn (hc pins s σ H _ I h) fun d s1 zz_=>?_);obtain⟨H1,I1,q1⟩:=zz_
 cases d with
 | true=>exact ha pins s1 σ H1 D I1 q1
 | false=>exact hb pins s1 σ H1 D I1 q1
theorem qeM {t:TS} (h1:PS X st t):PSK X st (qlS t):=by
 intro pins s σ H D I h;refine thn (h1 pins s σ H { nx:=D.nx,rt:=fun _ _=>False } I h) fun f s1 q=>?_
 cases f with
 | next=>exact q
 | ret v=>obtain⟨_,_,_,_,_,q⟩:=q;exact q.elim
 | brk=>obtain⟨_,_,_,q⟩:=q;exact q.elim
 | cont=>obtain⟨_,_,_,q⟩:=q;exact q.elim
end
structure zR (N:List Str) (scope:Scope) (cells:List (Str×Addr)) (σ:St) (H H':Hp):Prop where
 s:Same H H'
 at_:∀ (i:Nat) (y:Str) (v:V),N[i]?=some y->σ[i]?=some (some v)->scope.names.lookup y=some .cell->∃ c,cells.lookup y=some c∧H' c=some (.ext (zN c v))
 inj:∀ x y c,cells.lookup x=some c->cells.lookup y=some c->x=y
theorem qj4 {P:Program}{w:World}{K:Frag}{mg:Str->Option Value}{base:Heap}{k:Nat}{f:Addr}{name qual:Str}{params:Arguments}{body:List Stmt}{scope:Scope}{dV kV doc pm cdv ct oc:Value}{an od:Option Addr}
   {osl:Array (Option Value)}{N ps:List Str}{sp:Sp} (lk:K.lookup f=some ⟨oc,od,.func (fnOf name qual params body scope dV kV doc pm an cdv ct),osl⟩) (hcd:PySem.W.codeIn K cdv qual=true) (S:qk N ps scope)
   (len:∀ vs H Q E,sp vs H Q E->vs.length=ps.length)
   (hbody:∀ (A:Around) (outer:List Env) (s:Shared) (H:Hp) (vs:List V) (Q:VK) (E:XK),Room k (A.deeper (envOfC qual scope s.heap.objs.size f cdv))->sp vs H Q E ->
     ∃ t,qhZ (qZ CX0 P w K mg base N qual scope f cdv A outer s H E) body t∧t { nx:=fun _ _=>False,rt:=fun v σ' H'=>∀ H'',zR N scope (cellsFrom (s.heap.objs.size+1) scope.names []) σ' H' H''->Q v H'' } (jp N vs) H) :
   qx P w K mg base CX0 (k+1) f (fnOf name qual params body scope dV kV doc pm an cdv ct) ps sp:=by
 refine⟨len,fun A outer s H args us vs Q E hr e0 hb r hsp=>?_⟩;have hl:=len _ _ _ _ hsp;have KX:K.In s.heap:=e0.mod.kin.keeps fun b o e=>(e0.bs b o e).1;have lim:s.heap.NoLimit:=e0.mod.nolimit.keeps fun b o e=>(e0.bs b o e).1
 have hkind:∀ y∈ps.zip us,scope.names.lookup y.1=some .local∨(scope.names.lookup y.1=some .cell∧((cellsFrom (s.heap.objs.size+1) scope.names []).lookup y.1).isSome=true):=fun⟨n,v⟩ hy=>by
   rcases S.par n (List.of_mem_zip hy).1 with q|q
   · exact .inl q
   · exact .inr ⟨q,PySem.W.cellsFrom_some _ _ _ (.inl q)⟩
 refine codeAny_call_function hr.depth (KX _ _ lk) rfl S.co S.gen rfl (PySem.W.codeRec_of KX hcd) (hb _ _ _ _ ?_);refine wpAny_newFunctionEnv_cells S.kind hkind fun env he s1 x=>?_;subst he;refine⟨lim.keeps x.toInCall.keep,codeAny_func ?_⟩;obtain⟨t,ht,hq⟩:=hbody A outer s H vs Q E (hr.deeper _) hsp;have I:Inv (qZ CX0 P w K mg base N qual scope f cdv A outer s H E) [] (jp N vs) H s1:=qb3 S hr.hd e0 hl r x;refine wpAny_mono (ht [] s1 (jp N vs) H _ I hq) (fun fl s' hs=>?_) fun e s' hs=>hs
 cases fl with
 | next=>obtain⟨_,_,_,q⟩:=hs;exact q.elim
 | brk=>exact hs.elim
 | cont=>exact hs.elim
 | ret u =>
   obtain⟨v,σ',H',J,rv,q⟩:=hs;let Cl:Addr->V->Prop:=fun b z=>∃ (i:Nat) (y:Str),N[i]?=some y∧σ'[i]?=some (some z)∧scope.names.lookup y=some .cell∧(cellsFrom (s.heap.objs.size+1) scope.names []).lookup y=some b
   have one:∀ b z z',Cl b z->Cl b z'->z=z':=fun b z z' ⟨i,y,h1,h2,_,h4⟩ ⟨i',y',h1',h2',_,h4'⟩=>by
     have ey:y=y':=J.ok.inj y y' b h4 h4';subst ey;obtain⟨l1,g1⟩:=List.getElem?_eq_some_iff.mp h1;obtain⟨l2,g2⟩:=List.getElem?_eq_some_iff.mp h1';have ei:i=i':=(List.getElem_inj S.nd).mp (g1.trans g2.symm);subst ei;rw[h2]at h2';cases h2';rfl
   have old:∀ b z,Cl b z->H' b=none∧s.heap.objs.size≤b:=fun b z ⟨i,y,h1,h2,_,h4⟩=>⟨J.freeC y b h4,J.ok.cab y b rfl h4⟩
   open Classical in
   let H'':Hp:=fun b=>if h:∃ z,Cl b z then some (.ext (zN b h.choose)) else H' b
   have in_:∀ b z,Cl b z->H'' b=some (.ext (zN b z)):=fun b z h=>by
     have e:∃ z,Cl b z:=⟨z,h⟩
     show (if h:∃ z,Cl b z then some (.ext (zN b h.choose)) else H' b)=_;rw[dif_pos e,one b _ z e.choose_spec h]
   have out:∀ b,(¬ ∃ z,Cl b z)->H'' b=H' b:=fun b n=>dif_neg n
   have sm:Same H' H'':=fun b o e=>by
     rw[out b (fun⟨z,h⟩=>by rw[(old b z h).1]at e;cases e)];exact e
   refine⟨v,H'',J.os,J.bare,⟨J.base.keep,J.base.slot,fun b o e n hx=>?_,J.base.there,fun b xs e=>sm _ _ (J.base.tups b xs e),fun b o u e=>sm _ _ (J.base.frzs b o u e),fun b ps e=>?_⟩,fun b o e=>?_,rv,q H'' ⟨sm,fun i y z h1 h2 h3=>?_,J.ok.inj⟩⟩
   · rw[out b (fun⟨z,h⟩=>absurd (Heap.lt_size e) (Nat.not_lt.mpr (old b z h).2))];exact J.base.free b o e n hx
   · obtain⟨more,z⟩:=J.base.tbls b ps e;exact⟨more,sm _ _ z⟩
   · by_cases z:∃ z,Cl b z
     · obtain⟨z,h⟩:=z;rw[in_ b z h]at e;cases e;obtain⟨i,y,h1,h2,h3,h4⟩:=h;obtain⟨m,_,hl⟩:=J.loc;obtain⟨u',ru,lk'⟩:=hl i y z h1 h2 (.inr (.inl h3));refine qhn ⟨u',ru,?_⟩;rcases lk' with ⟨kl,_⟩|⟨_,c0,hc0,ic⟩
       · have:scope.names.lookup y=some .local:=kl
         rw[h3]at this;cases this
       · have:(cellsFrom (s.heap.objs.size+1) scope.names []).lookup y=some c0:=hc0
         rw[h4]at this;cases this;exact ic
     · rw[out b z]at e;exact(J.hok b o e).stay (fun _ _ _ z=>z) (fun c r=>sm _ _ r) fun c xs r=>sm _ _ r
   · have hv:((cellsFrom (s.heap.objs.size+1) scope.names []).lookup y).isSome=true:=PySem.W.cellsFrom_some _ _ _ (.inl h3);obtain⟨c,hc⟩:=Option.isSome_iff_exists.mp hv;exact⟨c,hc,in_ c z ⟨i,y,h1,h2,h3,hc⟩⟩
theorem Fun.okK {P:Program}{w:World}{K:Frag}{mg:Str->Option Value}{base:Heap}{x qual:Str}{st:Stmt}{f c:Addr}{fd:FuncData}{N ps:List Str}{k:Nat}{sp:Sp} (F:Fun K x qual st f fd) (hc:fd.code=.ref c) (S:qk N ps (qe st)) (len:∀ vs H Q E,sp vs H Q E->vs.length=ps.length)
   (hbody:∀ (cdv:Value) (A:Around) (outer:List Env) (s:Shared) (H:Hp) (vs:List V) (Q:VK) (E:XK),cdv=.ref c->Room k (A.deeper (envOfC qual (qe st) s.heap.objs.size f cdv))->sp vs H Q E ->
     ∃ t,qhZ (qZ CX0 P w K mg base N qual (qe st) f cdv A outer s H E) (qM st) t∧t { nx:=fun _ _=>False,rt:=fun v σ' H'=>∀ H'',zR N (qe st) (cellsFrom (s.heap.objs.size+1) (qe st).names []) σ' H' H''->Q v H'' } (jp N vs) H):qx P w K mg base CX0 (k+1) f fd ps sp:=by
 obtain⟨oc,od,kV,doc,pm,an,cdv,ct,osl,rfl,lk,hcd⟩:=F.ex;exact qj4 lk hcd S len fun A outer s H vs Q E hr hsp=>hbody cdv A outer s H vs Q E hc hr hsp
def qkk (P:Program) (w:World) (K:Frag) (mg:Str->Option Value) (base:Heap) (k:Nat) (f:Addr) (sp:Sp):Prop :=
 ∀ (A:Around) (outer:List Env) (s:Shared) (H:Hp) (us:List Value) (vs:List V) (Q:VK),Room k A->Env0 P w K mg base A outer s H->Vals vs us->sp vs H Q E0->codeAny (model P w) A (.call (.ref f) ⟨us,[]⟩) (CR CX0 outer P w H s Q E0) s
section
variable {X:Cx}{x:Str}{p pos:Pos}{e:Expr}{es:List Expr}{t:TA}{tv:TE}{k:Nat}{Ok:Addr->Sp->Prop}
inductive qcT (Ok:Addr->Sp->Prop) (t:TA) (σ:St) (Q:VK) (fv:V) (H1:Hp):Prop
 | mk (f:Addr) (sp:Sp) (o:Obj) (fd:FuncData) (h1:fv=.ref f) (h2:H1 f=some (.ext (ZY f o))) (h3:o.data=.func fd) (h4:Ok f sp) (h5:t σ H1 fun vs H2=>H2 f=some (.ext (ZY f o))∧sp vs H2 Q E0):qcT Ok t σ Q fv H1
def qjs (Ok:Addr->Sp->Prop) (tv:TE) (t:TA):TE:=fun σ H Q=>tv σ H fun fv H1=>qcT Ok t σ Q fv H1
theorem Jf (hv:PE X (.Name x p) tv) (hr:Room k X.A) (hO:∀ f sp,Ok f sp->qkk X.prog X.w X.K X.mg X.base k f sp) (ha:PA X (e::es) t)
   (hes:backTo pos (starEach (e::es) X.env)=(false,eval e X.env)::backTo pos (starEach es X.env):=by rfl):PE X (.Call (.Name x p) (e::es) [] pos) (qjs Ok tv t):=by
 intro pins s σ H Q I h;refine wpAny_Call_Name_kw (thn (hv pins s σ H _ I h) fun v s1 zz_=>?_);obtain⟨fv,H1,I1,r1,q1⟩:=zz_;obtain⟨f,sp,o,fd,rfl,hf,hd,ok,q⟩:=q1;cases r1;refine PySem.Calls.callWith_function (o:=o) (fd:=fd) ?_;rw[hes];refine PySem.Calls.evalArgs_plain ?_;rw[← hes];refine thn (ha pos pins s1 σ H1 _ I1 q) fun us s2 ⟨vs,H2,I2,r2,hf2,q2⟩=>⟨⟨((show ObjOk X.prog X.w H2 s2.heap f (.ext (ZY f o)) from I2.hok f _ hf2)).1,hd⟩,?_⟩
 refine wpAny_call (codeAny_mono ((hO f sp ok) X.A X.stack s2 H2 us vs Q hr I2.env0 r2 q2) fun r s' hq=>?_)
 cases r with
 | error e=>exact hq.elim
 | ok fl =>
   cases fl with
   | ret u=>exact I2.after hq
   | next=>exact hq.elim
   | brk=>exact hq.elim
   | cont=>exact hq.elim
theorem qj9 {params:Arguments}{body:Expr}{scope sc0:Scope}{N:List Str}{σ:St}{H' H'':Hp}{f c:Addr}{o:Obj}{fv:List (Str×V)} (lo:qcg X params body scope c o) (ci:zR N sc0 X.env.cells σ H' H'')
   (hf:H' f=some (.ext (ZY f o))) (hc:H' c=some (.ext (zQ c (X.env.qual++"<lambda>"))))
   (hfree:∀ y∈scope.names,y.2=.free->∃ c,X.env.cells.lookup y.1=some c)
   (hfv:∀ y v,fv.lookup y=some v->(y,NameKind.free)∈scope.names∧sc0.names.lookup y=some .cell∧∃ i:Nat,N[i]?=some y∧σ[i]?=some (some v))
   (hal:∀ y,(qQ X.env.cells scope.names []).lookup y≠none->(fv.lookup y).isSome=true):Clo H'' f (X.env.qual++"<lambda>") params body scope fv:=by
 obtain⟨pm,ctv,rfl⟩:=lo;have sub:∀ y d,(qQ X.env.cells scope.names []).lookup y=some d->X.env.cells.lookup y=some d:=fun y d h=>(qL (cells:=X.env.cells) (x:=y) scope.names [] hfree (fun _ z=>nomatch z)).1 d h;refine⟨_,c,pm,ctv,ci.s _ _ hf,ci.s _ _ hc,fun y d h=>?_,fun y v h=>?_,fun y z d h1 h2=>ci.inj y z d (sub _ _ h1) (sub _ _ h2)⟩
 · obtain⟨v,hv⟩:=Option.isSome_iff_exists.mp (hal y (by rw[h];simp));obtain⟨_,hk,i,h1,h2⟩:=hfv y v hv;obtain⟨c',hc',hH⟩:=ci.at_ i y v h1 h2 hk;rw[sub y d h]at hc';cases hc';exact⟨v,hv,hH⟩
 · obtain⟨m,_⟩:=hfv y v h;exact Option.isSome_iff_exists.mp ((qL (cells:=X.env.cells) (x:=y) scope.names [] hfree (fun _ z=>nomatch z)).2 (.inl m))
end
theorem qac {pos pos':Pos}{c:Value} (hne:¬ (pos.line=pos'.line∧pos.col=pos'.col)):∀ {l:List Value},TriplesOk l->codeAmong pos' (l++[rawInt pos.line,rawInt pos.col,c])=codeAmong pos' l
 | [],_=>by
   show (if ((pos.line:Int) == (pos'.line:Int) && (pos.col:Int) == (pos'.col:Int))=true then some c else codeAmong pos' [])=none;rw[if_neg]
   · rfl
   · intro z;rw[Bool.and_eq_true,beq_iff_eq,beq_iff_eq]at z;exact hne ⟨by omega,by omega⟩
 | .int i a::.int j b::x::r,h=>by
   show (if (i == (pos'.line:Int) && j == (pos'.col:Int))=true then some x else codeAmong pos' (r++[rawInt pos.line,rawInt pos.col,c]))=(if (i == (pos'.line:Int) && j == (pos'.col:Int))=true then some x else codeAmong pos' r);rw[qac hne (l:=r) h]
theorem qho {pos pos':Pos} (h1:pos.line=pos'.line) (h2:pos.col=pos'.col):∀ (l:List Value),codeAmong pos' l=codeAmong pos l:=fun l=>by
 fun_induction codeAmong pos l with
 | case1 i a j b x r h=>unfold codeAmong;rw[← h1,← h2,if_pos h]
 | case2 i a j b x r h ih=>rw[codeAmong,← h1,← h2,if_neg h];exact ih
 | case3 l h=>
   unfold codeAmong
   split
   · exact absurd rfl (h _ _ _ _ _ _)
   · rfl
def TbA (H:Hp) (T:Addr) (l:List (Pos×Str)):Prop :=
 ∃ ps,H T=some (.tbl ps)∧TriplesOk ps.toList∧∀ x∈l,codeAmong x.1 ps.toList=none∨∃ c,codeAmong x.1 ps.toList=some (.ref c)∧H c=some (.ext (zQ c x.2))
theorem TbA.same {H H':Hp}{T:Addr}{l:List (Pos×Str)} (h:TbA H T l) (s:Same H H'):TbA H' T l:=by
 obtain⟨ps,h1,h2,h3⟩:=h;exact⟨ps,s _ _ h1,h2,fun x hx=>(h3 x hx).imp id fun⟨c,e1,e2⟩=>⟨c,e1,s _ _ e2⟩⟩
theorem TbA.but {H H':Hp}{T T':Addr}{l:List (Pos×Str)}{ps':Array Value} (h:TbA H T l) (hT':H T'=some (.tbl ps')) (s:But T' H H') (n:T≠T'):TbA H' T l:=by
 obtain⟨ps,h1,h2,h3⟩:=h;exact⟨ps,s _ _ h1 n,h2,fun x hx=>(h3 x hx).imp id fun⟨c,e1,e2⟩=>⟨c,e1,s _ _ e2 (zd e2 hT' (by intro z;cases z))⟩⟩
theorem TbA.at_ {H:Hp}{T:Addr}{l:List (Pos×Str)} (h:TbA H T l):∃ ps,H T=some (.tbl ps):=let ⟨ps,h1,_⟩:=h;⟨ps,h1⟩
theorem qeg {H:Hp}{T c' f:Addr}{ps:Array Value}{pos:Pos}{q:Str}{l:List (Pos×Str)}{o:HO} (hT:H T=some (.tbl ps)) (tr:TriplesOk ps.toList) (hn:codeAmong pos ps.toList=none) (h3:∀ x∈l,codeAmong x.1 ps.toList=none∨∃ c,codeAmong x.1 ps.toList=some (.ref c)∧H c=some (.ext (zQ c x.2)))
   (hl:∀ x∈l,x.1.line=pos.line->x.1.col=pos.col->x.2=q) (nTf:T≠f) (nTc:T≠c') (ncf:c'≠f) (hcn:H c'=none) (hfn:H f=none) :
   TbA (upd (upd (upd H T (.tbl (ps++#[rawInt pos.line,rawInt pos.col,.ref c']))) c' (.ext (zQ c' q))) f o) T l:=by
 refine⟨_,by rw[qi nTf,qi nTc,qb],by rw[Array.toList_append];exact jC tr,fun x hx=>?_⟩;rw[Array.toList_append];by_cases e:pos.line=x.1.line∧pos.col=x.1.col
 · refine .inr ⟨c',?_,?_⟩
   · rw[qho e.1 e.2];exact codeAmong_snoc _ tr hn
   · rw[qi ncf,qb,hl x hx e.1.symm e.2.symm]
 · rw[show (#[rawInt pos.line,rawInt pos.col,.ref c']:Array Value).toList=[rawInt pos.line,rawInt pos.col,.ref c'] from rfl,qac e tr];refine(h3 x hx).imp id fun⟨c,e1,e2⟩=>⟨c,e1,?_⟩
   rw[qi (qh e2 hfn),qi (qh e2 hcn),qi (zd e2 hT (by intro z;cases z))];exact e2
inductive CloS (H:Hp) (f:Addr) (name qual:Str) (params:Arguments) (body:List Stmt) (scope:Scope) (fv:List (Str×V)):Prop
 | mk (cl:List (Str×Addr)) (c:Addr) (doc pm ctv:Value) (hf:H f=some (.ext (ZY f (fnMade name qual params body scope cl doc pm c ctv)))) (hc:H c=some (.ext (zQ c qual)))
     (cells:∀ x d,cl.lookup x=some d->∃ v,fv.lookup x=some v∧H d=some (.ext (zN d v))) (all:∀ x v,fv.lookup x=some v->∃ d,cl.lookup x=some d) (inj:∀ x y d,cl.lookup x=some d->cl.lookup y=some d->x=y):CloS H f name qual params body scope fv
theorem CloS.mp {H H':Hp}{f:Addr}{name qual:Str}{params:Arguments}{body:List Stmt}{scope:Scope}{fv:List (Str×V)} (h:CloS H f name qual params body scope fv) (k:∀ b φ,H b=some (.ext φ)->H' b=some (.ext φ)):CloS H' f name qual params body scope fv:=by
 obtain⟨cl,c,doc,pm,ctv,hf,hc,cells,all,inj⟩:=h;exact⟨cl,c,doc,pm,ctv,k _ _ hf,k _ _ hc,fun x d e=>let ⟨v,e1,e2⟩:=cells x d e;⟨v,e1,k _ _ e2⟩,all,inj⟩
structure qla (name:Str) (params:Arguments) (body:List Stmt) (scope:Scope) (ps fs:List Str):Prop where
 co:scope.isCoroutine=false
 gen:scope.isGenerator=false
 kind:scope.kind=.function
 cell:∀ x∈scope.names,x.2≠.cell
 free:∀ y∈scope.names,y.2=.free->y.1∈fs
 loc:∀ x∈ps,scope.names.lookup x=some .local
 fre:∀ x∈fs,scope.names.lookup x=some .free
 bind:∀ (qual:Str) (cl:List (Str×Addr)) (doc pm cdv ct:Value) (us:List Value),us.length=ps.length->bindArgs (fnX name qual params body scope cl .none .none doc pm none cdv ct) ⟨us,[]⟩=pure (ps.zip us)
 nd:(ps++fs).Nodup
theorem qhj {k:Nat}{P:Program}{w:World}{K:Frag}{mg:Str->Option Value}{base:Heap}{f:Addr}{name qual:Str}{params:Arguments}{body:List Stmt}{scope:Scope}{ps:List Str}{fv:List (Str×V)} (L:qla name params body scope ps (fv.map (·.1)))
   {A:Around}{outer:List Env}{s:Shared}{H:Hp}{us:List Value}{vs:List V}{Q:VK} (hr:Room (k+1) A) (e0:Env0 P w K mg base A outer s H) (C:CloS H f name qual params body scope fv) (r:Vals vs us) (hl:vs.length=ps.length)
   (hbody:∀ (cl:List (Str×Addr)) (c:Addr),(∀ d∈fcs cl fv,∃ y v,fv.lookup y=some v∧H d=some (.ext (zN d v)))->Room k (A.deeper (envX qual scope s.heap.objs.size f (.ref c) cl))->(∀ b v,H b=some v->(∀ φ,v≠.ext φ)->cut H (fcs cl fv) b=some v) ->
     ∃ te,PSs (cxC P w K mg base (ps++fv.map (·.1)) qual scope f c cl A outer s (cut H (fcs cl fv))) body te∧te { nx:=fun _ H'=>Q .non (backL H (fcs cl fv) H'),rt:=fun v H'=>Q v (backL H (fcs cl fv) H') } (vs.map some++fv.map fun y=>some y.2) (cut H (fcs cl fv))) :
   codeAny (model P w) A (.call (.ref f) ⟨us,[]⟩) (CR CX0 outer P w H s Q E0) s:=by
 obtain⟨cl,c,doc,pm,ctv,hf,hc,cells,all,inj⟩:=C;have ff:s.heap.get? f=some _:=((show ObjOk P w H s.heap f (.ext (ZY f _)) from e0.hok f _ hf)).1;have cc:s.heap.CodeRec (.ref c) qual:=((show ObjOk P w H s.heap c (.ext (zQ c qual)) from e0.hok c _ hc)).1;have lim:s.heap.NoLimit:=e0.mod.nolimit.keeps fun b o e=>(e0.bs b o e).1;have ul:us.length=ps.length:=by rw[← r.length];exact hl
 have csx:∀ d∈fcs cl fv,∃ v,H d=some (.ext (zN d v)):=fun d m=>by
   obtain⟨y,_,e⟩:=List.mem_filterMap.mp m;obtain⟨v,_,q⟩:=cells _ _ e;exact⟨v,q⟩
 have csin:∀ x d,cl.lookup x=some d->d∈fcs cl fv:=fun x d e=>by
   obtain⟨v,q,_⟩:=cells x d e;exact List.mem_filterMap.mpr ⟨(x,v),PySem.mem_of_lookup q,e⟩
 have cex:∀ d∈fcs cl fv,∃ φ,H d=some (.ext φ):=fun d m=>let ⟨v,q⟩:=csx d m;⟨_,q⟩
 have cn:∀ b,H b=none->cut H (fcs cl fv) b=none:=fun b n=>by
   unfold cut;split
   · rfl
   · exact n
 have e1:Env0 P w K mg base A outer s (cut H (fcs cl fv)):=⟨e0.frames,e0.mod,fun b o q=>⟨(e0.bs b o q).1,cn b (e0.bs b o q).2⟩,e0.bsz,e0.funs,fun b m=>cn b (e0.frf b m),e0.hok.cutL cex,e0.bare⟩
 refine codeAny_call_function hr.depth ff rfl L.co L.gen rfl cc ?_;rw[show bindArgs _ _=_ from L.bind _ _ _ _ _ _ us ul];refine wpAny_pure (wpAny_newFunctionEnv L.cell (fun x hx=>L.loc _ (List.of_mem_zip hx).1) (fun h₁ hns hsb=>⟨lim.fresh _ hsb,?_⟩) L.kind);have hk₁:∀ b o,s.heap.get? b=some o->h₁.get? b=some o:=fun b o e=>hsb.extBut b o (Nat.ne_of_lt (Heap.lt_size e)) (Heap.get?_push_of_some _ e);show codeAny _ _ (.func _ (envX qual scope s.heap.objs.size f (.ref c) cl)) _ _;refine codeAny_func ?_
 obtain⟨te,hte,hq⟩:=hbody cl c (fun d m=>by
   obtain⟨y,_,e⟩:=List.mem_filterMap.mp m;obtain⟨v,q,z⟩:=cells _ _ e
   exact⟨y.1,v,q,z⟩) (hr.deeper _) fun b v r nv=>(Qv fun z=>by obtain⟨φ,e⟩:=cex b z;rw[e]at r;exact nv φ (Option.some.inj r).symm).trans r
 have noA:∀ b:Addr,b∉(cxC P w K mg base (ps++fv.map (·.1)) qual scope f c cl A outer s (cut H (fcs cl fv))).ex:=fun b z=>absurd (show b∈([]:List Addr) from z) (by simp);have ndp:ps.Nodup:=(List.nodup_append.mp L.nd).1;have ndf:(fv.map (·.1)).Nodup:=(List.nodup_append.mp L.nd).2.1
 have zk:((ps.zip us).reverse.map (·.1)).Nodup:=by
   rw[List.map_reverse];rw[show (ps.zip us).map (·.1)=ps from List.map_fst_zip (by omega)];exact List.pairwise_reverse.mpr (List.Pairwise.imp Ne.symm ndp)
 have isc:∀ x d,cl.lookup x=some d->∃ v u,fv.lookup x=some v∧RelV v u∧s.heap.IsCell d (some u):=fun x d e=>by
   obtain⟨v,q,hd⟩:=cells x d e;obtain⟨⟨u,rv,ic⟩,_,_⟩:=(show ObjOk P w H s.heap d (.ext (zN d v)) from e0.hok d _ hd)
   exact⟨v,u,q,rv,ic⟩
 have up:∀ {d:Addr}{v:Option Value},s.heap.IsCell d v->h₁.IsCell d v:=fun⟨o,e,d⟩=>⟨o,hk₁ _ _ e,d⟩
 have I:Inv (cxC P w K mg base (ps++fv.map (·.1)) qual scope f c cl A outer s (cut H (fcs cl fv))) [] (vs.map some++fv.map fun y=>some y.2) (cut H (fcs cl fv)) { heap:=h₁,gens:=s.gens,drawn:=s.drawn,toks:=s.toks+(ps.zip us).length,os:=s.os }:=by
   refine⟨⟨e0.mod,L.kind,rfl,rfl,Nat.le_refl _,inj,fun y hy=>?_,fun y d h1 h2=>?_,fun _=>hr.hd,Around.frames_deeper e0.frames,.inr ⟨rfl,rfl⟩,fun b z=>absurd z (noA b),e1.bs,e1.bsz,fun b _ _=>noA b,fun b z=>absurd z (noA b),e0.funs,e1.frf⟩,
     rfl,e0.bare,Un.kept hk₁,⟨_,hns,fun i y v h1 h2 h3=>?_⟩,fun y d h=>?_,e1.hok.fresh (Nat.le_refl _),fun y d h=>J1 (csin y d h),fun p hp=>absurd (show p∈([]:List (Addr×Obj)) from hp) (by simp),e1.hok.kept hk₁,?_⟩
   · have hy:scope.names.lookup y=some .cell∨scope.names.lookup y=some .free:=hy;rcases hy with hy|hy
     · exact absurd rfl (L.cell _ (PySem.mem_of_lookup hy))
     · obtain⟨z,mz,ez⟩:=List.mem_map.mp (L.free _ (PySem.mem_of_lookup hy) rfl);obtain⟨d,hd⟩:=all z.1 z.2 (JS ndf mz);exact⟨d,by rw[← show z.1=y from ez];exact hd⟩
   · have h1:(!(cl.lookup y).isSome)=true:=h1;have h2:cl.lookup y=some d:=h2;rw[h2]at h1;cases h1
   · have h1:(ps++fv.map (·.1))[i]?=some y:=h1;by_cases lt:i < ps.length
     · rw[List.getElem?_append_left lt]at h1;rw[List.getElem?_append_left (by rw[List.length_map,hl];exact lt),List.getElem?_map]at h2;obtain⟨v',hv,ev⟩:=Option.map_eq_some_iff.mp h2;cases ev;obtain⟨u,hu,rv⟩:=r.get hv;refine⟨u,rv,.inl ⟨L.loc y (List.mem_of_getElem? h1),?_⟩⟩;refine JS zk (List.mem_reverse.mpr (List.mem_of_getElem? (i:=i) ?_));rw[List.getElem?_zip_eq_some];exact⟨h1,hu⟩
     · rw[List.getElem?_append_right (by omega)]at h1;rw[List.getElem?_append_right (by rw[List.length_map,hl];omega),List.length_map,hl]at h2;rw[List.getElem?_map]at h1 h2;obtain⟨z,hz,ez⟩:=Option.map_eq_some_iff.mp h1;rw[hz]at h2;cases h2;have lk:=JS ndf (x:=z.1) (v:=z.2) (List.mem_of_getElem? hz);obtain⟨d,hd⟩:=all z.1 z.2 lk;obtain⟨v',u,q,rv,ic⟩:=isc z.1 d hd;rw[lk]at q;cases q;refine⟨u,rv,.inr ⟨.inr ?_,d,?_,up ic⟩⟩
       · rw[← show z.1=y from ez];exact L.fre _ (List.mem_map.mpr ⟨z,List.mem_of_getElem? hz,rfl⟩)
       · rw[← show z.1=y from ez];exact hd
   · obtain⟨v,u,_,_,ic⟩:=isc y d h;exact⟨_,up ic⟩
   · show (vs.map some++fv.map fun y=>some y.2).length=(ps++fv.map (·.1)).length;rw[List.length_append,List.length_append,List.length_map,List.length_map,List.length_map,hl]
 have fin:∀ (v:V) (u:Value) (s':Shared) (H':Hp) (σ':St),Inv (cxC P w K mg base (ps++fv.map (·.1)) qual scope f c cl A outer s (cut H (fcs cl fv))) [] σ' H' s'->RelV v u->Q v (backL H (fcs cl fv) H')->CR CX0 outer P w H s Q E0 (.ok (.ret u)) s':=fun v u s' H' σ' J rv q=>by
   have un:=J.base;have nx:∀ b:Addr,b∉([]:List Addr):=fun b=>by simp
   have cold:∀ d∈fcs cl fv,∃ o,s.heap.get? d=some o∧d∉frs outer:=fun d m=>by
     obtain⟨v,q⟩:=csx d m;obtain⟨⟨u,_,o,e,_⟩,_,_⟩:=(show ObjOk P w H s.heap d (.ext (zN d v)) from e0.hok d _ q)
     exact⟨o,e,fun z=>by rw[e0.frf d z]at q;cases q⟩
   have n2:∀ d∈fcs cl fv,H' d=none:=fun d m=>let ⟨o,e,_⟩:=cold d m;un.free d o e (J1 m) (nx d);have kp:∀ d∈fcs cl fv,∀ o,s.heap.get? d=some o->s'.heap.get? d=some o:=fun d m o e=>un.keep d o e (J1 m) (let ⟨_,_,z⟩:=cold d m;z) (nx d)
   have out:∀ b v,H b=some v->(∀ φ,v≠.ext φ)->cut H (fcs cl fv) b=some v∧b∉fcs cl fv:=fun b v r nv=>by
     have nb:b∉fcs cl fv:=fun z=>by obtain⟨φ,e⟩:=cex b z;rw[e]at r;exact nv φ (Option.some.inj r).symm
     exact⟨(Qv nb).trans r,nb⟩
   refine⟨v,backL H (fcs cl fv) H',J.os,J.bare,⟨fun b o q n=>un.keep b o q (cn b n),fun b o q n=>un.slot b o q (cn b n),fun b o q n hx=>?_,un.there,fun b xs q=>?_,fun b o u q=>?_,fun b qs q=>?_⟩,e0.hok.backL cex J.hok n2 kp,rv,q⟩
   · have nb:b∉fcs cl fv:=fun z=>by obtain⟨φ,e⟩:=cex b z;rw[e]at n;cases n
     rw[qO nb];exact un.free b o q (cn b n) hx
   · obtain⟨a1,a2⟩:=out b _ q (by intro φ z;cases z);rw[qO a2];exact un.tups b xs a1
   · obtain⟨a1,a2⟩:=out b _ q (by intro φ z;cases z);rw[qO a2];exact un.frzs b o u a1
   · obtain⟨a1,a2⟩:=out b _ q (by intro φ z;cases z);rw[qO a2];exact un.tbls b qs a1
 refine wpAny_mono (hte [] _ _ _ _ I hq) (fun fl s' hs=>?_) fun e s' hs=>hs.elim
 cases fl with
 | next =>
   obtain⟨σ',H',J,q⟩:=hs;exact fin .non .none s' H' σ' J rfl q
 | ret u =>
   obtain⟨v,σ',H',J,rv,q⟩:=hs;exact fin v u s' H' σ' J rv q
 | brk=>obtain⟨_,_,_,q⟩:=hs;exact q.elim
 | cont=>obtain⟨_,_,_,q⟩:=hs;exact q.elim
section
variable {X:Cx}
def qkw (X:Cx) (T:Addr) (l:List (Pos×Str)) (pos:Pos) (params:Arguments) (body:Expr) (scope:Scope):TE:=fun σ H Q=>TbA H T l ∧
 ∀ (f c:Addr) (o:Obj) (H':Hp),H f=none->f≠T->But T H H'->TbA H' T l->H' f=some (.ext (ZY f o))->H' c=some (.ext (zQ c (X.env.qual++"<lambda>")))->qcg X params body scope c o->Q (.ref f) H'
theorem JI {l:List (Pos×Str)}{params:Arguments}{body:Expr}{scope:Scope}{pos:Pos}{c T:Addr} (hdef:defaultsOf params X.env=([],[])) (hfree:∀ y∈scope.names,y.2=.free->∃ c,X.env.cells.lookup y.1=some c) (hcode:X.env.code=.ref c)
   (hcd:codeHdIn X.K c T=true) (hbm:qch X.mg X.base) (hm:(pos,X.env.qual++"<lambda>")∈l) (hl:∀ x∈l,x.1.line=pos.line->x.1.col=pos.col->x.2=X.env.qual++"<lambda>"):PE X (.Lambda params body scope pos) (qkw X T l pos params body scope):=by
 intro pins s σ H Q I h;obtain⟨⟨ps,hT,tr,hal⟩,h⟩:=h;have hc:=hal _ hm;have tb:s.heap.get? T=some (tabObj ps):=(show ObjOk X.prog X.w H s.heap T (.tbl ps) from I.hok T _ hT)
 have hg:s.heap.Ns mainGlobals X.mg:=I.mod.glob.keeps I.bk;have CH:=codeHd_of_K I.kIn hcd;obtain⟨bm,ob,b1,b2,b4,b5,b6,b7⟩:=hbm;have hbo:=I.bk bm ob b4
 have b3:bm≠mainGlobals:=fun z=>by
   obtain⟨o,es,ep,e,d,_⟩:=hg;rw[← z,hbo]at e;cases e;rw[b7]at d;cases d
 have nbT:bm≠T:=fun z=>by rw[z,tb]at hbo;cases hbo;cases b5
 have ngT:mainGlobals≠T:=fun z=>by
   obtain⟨o,es,ep,e,d,_⟩:=hg;rw[z,tb]at e;cases e;cases d
 have BA:s.heap.BuiltinsAt X.mg T:=⟨bm,ob,b1,b2,b3,nbT,hbo,b5,b6,b7⟩
 refine PySem.W.kla_eval hdef ?_;rcases hc with hn|⟨c',hc,hc'⟩
 · refine PySem.W.kla_makeFunction (clos:=qQ X.env.cells scope.names []) (QI hfree) I.ok.glob hg hcode CH tb tr hn ngT BA fun c' ctv h' tk hx hge hlt hrec htb=>?_;have Tlt:T < s.heap.objs.size:=I.hok.lt hT;have hfn:H h'.objs.size=none:=I.hok.fresh (Nat.le_trans hge (Nat.le_of_lt hlt));have hcn:H c'=none:=I.hok.fresh hge;have ncf:c'≠h'.objs.size:=Nat.ne_of_lt hlt;have nTf:T≠h'.objs.size:=Nat.ne_of_lt (Nat.lt_of_lt_of_le Tlt (Nat.le_trans hge (Nat.le_of_lt hlt)));have nTc:T≠c':=Nat.ne_of_lt (Nat.lt_of_lt_of_le Tlt hge);have J:=I.lam (t':=tk) hT hx hge hlt hrec htb (kla_obj "<lambda>" (X.env.qual++"<lambda>") params body scope (qQ X.env.cells scope.names []) ((X.mg "__name__").getD .none) c' ctv) rfl;refine⟨.ref h'.objs.size,_,J,rfl,h _ c' _ _ hfn (Ne.symm nTf) (fun b o e n=>?_) (qeg hT tr hn hal hl nTf nTc ncf hcn hfn) qb (by rw[qi ncf,qb]) ⟨_,_,rfl⟩⟩;rw[qi (qh e hfn),qi (qh e hcn),qi n];exact e
 · refine PySem.W.kla_makeFunctionHit (clos:=qQ X.env.cells scope.names []) (QI hfree) I.ok.glob hg hcode CH tb tr hc BA fun ctv h' tk hk hsz=>?_;have hfn:H h'.objs.size=none:=I.hok.fresh hsz;have S:=Same.new (.ext (ZY h'.objs.size (kla_obj "<lambda>" (X.env.qual++"<lambda>") params body scope (qQ X.env.cells scope.names []) ((X.mg "__name__").getD .none) c' ctv))) hfn;refine⟨.ref h'.objs.size,_,I.laid (t':=tk) (fun b o e=>Heap.get?_push_of_some _ (hk b o e)) hsz (qcv (Heap.get?_push_size _ rfl)),rfl,h _ c' _ _ hfn (qh hT hfn).symm (fun b o e _=>S b o e) (TbA.same ⟨ps,hT,tr,hal⟩ S) qb (S _ _ hc') ⟨_,_,rfl⟩⟩
def qhq (X:Cx) (name:Str) (params:Arguments) (body:List Stmt) (scope:Scope) (c:Addr) (o:Obj):Prop :=
 ∃ doc pm ctv,o=fnMade name (qualnameIn X.env name name) params body scope (qQ X.env.cells scope.names []) doc pm c ctv
def qlJ (X:Cx) (T:Addr) (l:List (Pos×Str)) (i:Nat) (name:Str) (params:Arguments) (body:List Stmt) (scope:Scope):TS:=fun D σ H=>TbA H T l ∧
 ∀ (f c:Addr) (o:Obj) (H':Hp),H f=none->f≠T->But T H H'->TbA H' T l->H' f=some (.ext (ZY f o))->H' c=some (.ext (zQ c (qualnameIn X.env name name)))->qhq X name params body scope c o->D.nx (σ.set i (some (.ref f))) H'
theorem qir {l:List (Pos×Str)}{i:Nat}{name:Str}{params:Arguments}{body:List Stmt}{scope:Scope}{pos:Pos}{c T:Addr} (hd0:params.defaults=[]) (hk0:params.kw_defaults=[]) (ha:annTrees params none X.env=[]) (hfree:∀ y∈scope.names,y.2=.free->∃ c,X.env.cells.lookup y.1=some c) (hcode:X.env.code=.ref c)
   (hcd:codeHdIn X.K c T=true) (hbm:qch X.mg X.base) (hm:(pos,qualnameIn X.env name name)∈l) (hl:∀ x∈l,x.1.line=pos.line->x.1.col=pos.col->x.2=qualnameIn X.env name name) (hN:X.N.Nodup) (hi:X.N[i]?=some name) (hlo:Loc X.env.scope name) (hf:X.fn name=true∨X.env.scope.names.lookup name=some .local:=by first|exact .inl rfl|exact .inr rfl|assumption) :
   PS X (.FunctionDef name params body [] none [] scope none name pos) (qlJ X T l i name params body scope):=by
 intro pins s σ H D I h;obtain⟨⟨ps,hT,tr,hal⟩,h⟩:=h;have hc:=hal _ hm;have tb:s.heap.get? T=some (tabObj ps):=(show ObjOk X.prog X.w H s.heap T (.tbl ps) from I.hok T _ hT)
 have hg:s.heap.Ns mainGlobals X.mg:=I.mod.glob.keeps I.bk;have CH:=codeHd_of_K I.kIn hcd;obtain⟨bm,ob,b1,b2,b4,b5,b6,b7⟩:=hbm;have hbo:=I.bk bm ob b4
 have b3:bm≠mainGlobals:=fun z=>by
   obtain⟨o,es,ep,e,d,_⟩:=hg;rw[← z,hbo]at e;cases e;rw[b7]at d;cases d
 have nbT:bm≠T:=fun z=>by rw[z,tb]at hbo;cases hbo;cases b5
 have ngT:mainGlobals≠T:=fun z=>by
   obtain⟨o,es,ep,e,d,_⟩:=hg;rw[z,tb]at e;cases e;cases d
 have BA:s.heap.BuiltinsAt X.mg T:=⟨bm,ob,b1,b2,b3,nbT,hbo,b5,b6,b7⟩
 refine PySem.W.nestDef_K hd0 hk0 ha ?_;rcases hc with hn|⟨c',hc,hc'⟩
 · refine PySem.W.makeFunction_K (clos:=qQ X.env.cells scope.names []) (QI hfree) I.ok.glob hg hcode CH tb tr hn ngT BA fun c' ctv doc h' tk hx hge hlt hrec htb=>?_;have Tlt:T < s.heap.objs.size:=I.hok.lt hT;have hfn:H h'.objs.size=none:=I.hok.fresh (Nat.le_trans hge (Nat.le_of_lt hlt));have hcn:H c'=none:=I.hok.fresh hge;have ncf:c'≠h'.objs.size:=Nat.ne_of_lt hlt;have nTf:T≠h'.objs.size:=Nat.ne_of_lt (Nat.lt_of_lt_of_le Tlt (Nat.le_trans hge (Nat.le_of_lt hlt)));have nTc:T≠c':=Nat.ne_of_lt (Nat.lt_of_lt_of_le Tlt hge);have J:=I.lam (t':=tk) hT hx hge hlt hrec htb (fnMade name (qualnameIn X.env name name) params body scope (qQ X.env.cells scope.names []) doc ((X.mg "__name__").getD .none) c' ctv) rfl;refine Zv (v:=.ref h'.objs.size) J hN hi hlo rfl (fun s' I'=>⟨_,_,I',h _ c' _ _ hfn (Ne.symm nTf) (fun b o e n=>?_) (qeg hT tr hn hal hl nTf nTc ncf hcn hfn) qb (by rw[qi ncf,qb]) ⟨_,_,_,rfl⟩⟩) hf;rw[qi (qh e hfn),qi (qh e hcn),qi n];exact e
 · refine PySem.W.makeFunction_hit (clos:=qQ X.env.cells scope.names []) (QI hfree) I.ok.glob hg hcode CH tb tr hc BA fun ctv doc h' tk hk hsz=>?_;have hfn:H h'.objs.size=none:=I.hok.fresh hsz;have S:=Same.new (.ext (ZY h'.objs.size (fnMade name (qualnameIn X.env name name) params body scope (qQ X.env.cells scope.names []) doc ((X.mg "__name__").getD .none) c' ctv))) hfn;refine Zv (v:=.ref h'.objs.size) (I.laid (t':=tk) (fun b o e=>Heap.get?_push_of_some _ (hk b o e)) hsz (qcv (Heap.get?_push_size _ rfl))) hN hi hlo rfl (fun s' I'=>⟨_,_,I',h _ c' _ _ hfn (qh hT hfn).symm (fun b o e _=>S b o e) (TbA.same ⟨ps,hT,tr,hal⟩ S) qb (S _ _ hc') ⟨_,_,_,rfl⟩⟩) hf
theorem qiW {name:Str}{params:Arguments}{body:List Stmt}{scope sc0:Scope}{N:List Str}{σ:St}{H' H'':Hp}{f c:Addr}{o:Obj}{fv:List (Str×V)} (lo:qhq X name params body scope c o) (ci:zR N sc0 X.env.cells σ H' H'')
   (hf:H' f=some (.ext (ZY f o))) (hc:H' c=some (.ext (zQ c (qualnameIn X.env name name))))
   (hfree:∀ y∈scope.names,y.2=.free->∃ c,X.env.cells.lookup y.1=some c)
   (hfv:∀ y v,fv.lookup y=some v->(y,NameKind.free)∈scope.names∧sc0.names.lookup y=some .cell∧∃ i:Nat,N[i]?=some y∧σ[i]?=some (some v))
   (hal:∀ y,(qQ X.env.cells scope.names []).lookup y≠none->(fv.lookup y).isSome=true):CloS H'' f name (qualnameIn X.env name name) params body scope fv:=by
 obtain⟨doc,pm,ctv,rfl⟩:=lo;have sub:∀ y d,(qQ X.env.cells scope.names []).lookup y=some d->X.env.cells.lookup y=some d:=fun y d h=>(qL (cells:=X.env.cells) (x:=y) scope.names [] hfree (fun _ z=>nomatch z)).1 d h;refine⟨_,c,doc,pm,ctv,ci.s _ _ hf,ci.s _ _ hc,fun y d h=>?_,fun y v h=>?_,fun y z d h1 h2=>ci.inj y z d (sub _ _ h1) (sub _ _ h2)⟩
 · obtain⟨v,hv⟩:=Option.isSome_iff_exists.mp (hal y (by rw[h];simp));obtain⟨_,hk,i,h1,h2⟩:=hfv y v hv;obtain⟨c',hc',hH⟩:=ci.at_ i y v h1 h2 hk;rw[sub y d h]at hc';cases hc';exact⟨v,hv,hH⟩
 · obtain⟨m,_⟩:=hfv y v h;exact Option.isSome_iff_exists.mp ((qL (cells:=X.env.cells) (x:=y) scope.names [] hfree (fun _ z=>nomatch z)).2 (.inl m))
end
section
variable {P:Program}{w:World}{H:Hp}{h:Heap}{d c f:Addr}{v x:V}{q:Str}{o:Obj}
theorem jV {φ:Heap->Prop} (ok:HOk P w H h) (e:H d=some (.ext φ)):φ h:=(show ObjOk P w H h d (.ext φ) from ok d _ e).1
theorem qhl (ok:HOk P w H h) (e1:H d=some (.ext (zN d v))) (e2:H d=some (.ext (zN d x))):∃ u,RelV v u∧RelV x u:=by
 obtain⟨u,r,o,g,dt⟩:=jV ok e1;obtain⟨u',r',o',g',dt'⟩:=jV ok e2;rw[g]at g';cases g';rw[dt]at dt';cases dt';exact⟨u,r,r'⟩
theorem qhm {fd:FuncData} (ok:HOk P w H h) (e1:H d=some (.ext (zN d v))) (e2:H d=some (.ext (ZY d o))) (hd:o.data=.func fd):False:=by
 obtain⟨u,r,o',g,dt⟩:=jV ok e1;have g':h.get? d=some o:=jV ok e2;rw[g]at g';cases g';rw[dt]at hd;cases hd
theorem qfN (ok:HOk P w H h) (e1:H d=some (.ext (zN d v))) (e2:H d=some (.ext (zQ d q))):False:=by
 obtain⟨u,r,o',g,dt⟩:=jV ok e1;obtain⟨c',o,vs,t,e,g',dt',_⟩:=jV ok e2;cases e;rw[g]at g';cases g';rw[dt]at dt';cases dt'
theorem Clo.cut {cs:List Addr}{qual:Str}{params:Arguments}{body:Expr}{scope:Scope}{fv:List (Str×V)} (ok:HOk P w H h) (C:Clo H f qual params body scope fv)
   (hcs:∀ d∈cs,∃ v,H d=some (.ext (zN d v))∧∀ y x,fv.lookup y=some x->∀ u,RelV v u->¬ RelV x u):Clo (cut H cs) f qual params body scope fv:=by
 obtain⟨cl,c,pm,ctv,hf,hc,cells,all,inj⟩:=C;refine⟨cl,c,pm,ctv,(Qv fun z=>?_).trans hf,(Qv fun z=>?_).trans hc,fun y d e=>?_,all,inj⟩
 · obtain⟨v,e,_⟩:=hcs f z;exact qhm ok e hf rfl
 · obtain⟨v,e,_⟩:=hcs c z;exact qfN ok e hc
 · obtain⟨x,e1,e2⟩:=cells y d e;refine⟨x,e1,(Qv fun z=>?_).trans e2⟩;obtain⟨v,e3,n⟩:=hcs d z;obtain⟨u,r1,r2⟩:=qhl ok e3 e2;exact n y x e1 u r1 r2
theorem Clo.obj {qual:Str}{params:Arguments}{body:Expr}{scope:Scope}{fv:List (Str×V)} (C:Clo H f qual params body scope fv):∃ o fd,H f=some (.ext (ZY f o))∧o.data=.func fd:=by
 obtain⟨cl,c,pm,ctv,hf,_⟩:=C;exact⟨_,_,hf,rfl⟩
theorem CloS.obj {name qual:Str}{params:Arguments}{body:List Stmt}{scope:Scope}{fv:List (Str×V)} (C:CloS H f name qual params body scope fv):∃ o fd,H f=some (.ext (ZY f o))∧o.data=.func fd:=by
 obtain⟨cl,c,doc,pm,ctv,hf,_⟩:=C;exact⟨_,_,hf,rfl⟩
theorem Clo.ne {g:Addr}{qual qual':Str}{params params':Arguments}{body body':Expr}{scope scope':Scope}{fv fv':List (Str×V)} (ok:HOk P w H h) (C:Clo H f qual params body scope fv) (C':Clo H g qual' params' body' scope' fv') (n:qual≠qual'):f≠g:=fun e=>by
 subst e;obtain⟨cl,c,pm,ctv,hf,_⟩:=C;obtain⟨cl',c',pm',ctv',hf',_⟩:=C';have g1:h.get? f=_:=jV ok hf;have g2:h.get? f=_:=jV ok hf';rw[g1]at g2;injection g2 with g2;injection g2 with _ _ g2;injection g2 with g2;injection g2 with _ g2;exact n g2
end
theorem qf0 {H H2:Hp}{cs:List Addr}{b:Addr}{o:HO} (h:b∉cs):backL H cs (upd H2 b o)=upd (backL H cs H2) b o:=by
 funext c;by_cases z:c∈cs
 · rw[Jg z,qi (fun e:c=b=>h (by rw[← e];exact z)),Jg z]
 · rw[qO z];by_cases e:c=b
   · subst e;rw[qb,qb]
   · rw[qi e,qi e,qO z]
section
variable {X:Cx}
def qkx (ta:TA):TE:=fun σ H Q=>ta σ H fun vs H1=>∃ i j:Int,vs=[.int i,.int j]∧(-(2 ^ 62)≤i∧i < 2 ^ 62∧-(2 ^ 62)≤j∧j < 2 ^ 62)∧j - i≤1000∧∀ l,H1 l=none->Q (.ref l) (upd H1 l (.lst ((List.range (j - i).toNat).map fun (k:Nat)=>V.int (i+(k:Int)))))
theorem qbO {a b:Expr}{ta:TA}{p p2 p3 pos:Pos} (hc:X.calm=true) (hgl:Gl X "list") (hml:X.mg "list"=none) (hg:Gl X "range") (hm:X.mg "range"=none) (ha:PA X [a,b] ta) (hs:starEach [a,b] X.env=[(false,eval a X.env),(false,eval b X.env)]:=by rfl) (hs2:starEach [b] X.env=[(false,eval b X.env)]:=by rfl) :
   PE X (.Call (.Name "list" p) [.Call (.Name "range" p2) [a,b] [] p3] [] pos) (qkx ta):=by
 intro pins s σ H Q I h;refine Call_ (Q0 I hgl hml zZ ?_);refine PyProof.Rows.callWith_type1 ?_ (by rfl) (by rfl);show wpAny _ _ (spliced ((false,eval (.Call (.Name "range" p2) [a,b] [] p3) X.env)::backTo pos (starEach [] X.env))) _ _ s;refine Calls.spliced_cons ?_;refine Call_ (Q0 I hg hm boot_range (PyProof.Rows.callWith_type1 (thn (ha p3 pins s σ H _ I h) fun us s1 zz_=>?_) (by rw[hs,hs2]) (by rw[hs2];rfl)));obtain⟨vs,H1,I1,r1,q1⟩:=zz_;obtain⟨i,j,e,⟨q1,q2,q3,q4⟩,hj,q⟩:=q1;subst e
 cases r1 with
 | cons r rr =>
   cases rr with
   | cons r' rr =>
     cases rr;obtain⟨t,rfl⟩:=r;obtain⟨t',rfl⟩:=r';refine call_range_2 ?_;refine Calls.spliced_nil ?_;have I2:Inv X pins σ H1 { s1 with heap:=s1.heap.push { cls:=.type "range",data:=.fields #[.int i t,.int j t',.int 1 s1.toks] },toks:=s1.toks+1 }:=I1.kept (t':=s1.toks+1) fun b o e=>Heap.get?_push_of_some _ e;refine call_list_range (n:=(j - i).toNat) (I2.ok.hd hc) (IsRange.new ..) (small_one q1 q2 q3 q4) ?_ (by omega) fun h' tk acc c kp e' it=>?_
     · rw[rangeSize_one];split<;>omega
     obtain⟨al,ag⟩:=it
     have rv:Vals ((List.range (j - i).toNat).map fun (k:Nat)=>V.int (i+(k:Int))) acc.toList:=qec (by rw[Array.length_toList,al,List.length_map,List.length_range]) fun k y v e1 e2=>by
       obtain⟨t,e3⟩:=ag k v (by rw[← Array.getElem?_toList];exact e2);rw[List.getElem?_map]at e1;obtain⟨k',hk,ek⟩:=Option.map_eq_some_iff.mp e1
       have:k'=k:=by
         rw[List.getElem?_range]at hk
         · exact(Option.some.inj hk).symm
         · have:=(List.getElem?_eq_some_iff.mp hk).1
           rwa [List.length_range]at this
       subst this;rw[← ek,e3];exact⟨t,by rw[Int.mul_one]⟩
     refine⟨.ref _,_,I2.laid (t':=tk) kp (Nat.le_refl _) (show ObjOk X.prog X.w _ h' _ (.lst _) from ⟨by rw[List.length_map,List.length_range,sizeLine_eq];omega,acc.toList,c,rv,?_⟩),rfl,q _ (I2.hok.fresh (Nat.le_refl _))⟩;exact e'
theorem qfW:bootBuiltins "set"=some (.type "set"):=by decide +kernel
def qgj (K:Frag) (ta:TA):TE:=fun σ H Q=>ta σ H fun vs H1=>∃ (a:Addr) (ns:List Int),vs=[.ref a]∧SqL K H1 a (ns.map V.int)∧ns.length≤4000∧Q (.int (firstMet (fun i=>ns.getD i 0) ns.length).length) H1
theorem qcA (f:Nat->Int):∀ n,(firstMet f n).Nodup
 | 0=>List.nodup_nil
 | n+1=>by
   rw[firstMet_succ];unfold step_dedup;split
   · exact qcA f n
   · rename_i h
     refine List.nodup_append.mpr ⟨qcA f n,by simp,fun x hx y hy e=>h ?_⟩;rw[List.mem_singleton]at hy;exact List.any_eq_true.mpr ⟨x,hx,by rw[e,hy];exact beq_self_eq_true _⟩
theorem qdr (f:Nat->Int) (x:Int):∀ n,x∈firstMet f n↔∃ i,i < n∧f i=x
 | 0=>⟨fun h=>(List.not_mem_nil h).elim,fun⟨i,h,_⟩=>absurd h (Nat.not_lt_zero i)⟩
 | n+1=>by
   rw[firstMet_succ];have ih:=qdr f x n
   have st:(∃ i,i < n+1∧f i=x)↔(x∈firstMet f n∨x=f n):=by
     rw[ih];constructor
     · rintro⟨i,hi,e⟩;by_cases z:i=n
       · exact .inr (by rw[← e,z])
       · exact .inl ⟨i,by omega,e⟩
     · rintro (⟨i,hi,e⟩|e)
       · exact⟨i,by omega,e⟩
       · exact⟨n,by omega,e.symm⟩
   rw[st];unfold step_dedup;split
   · rename_i h
     obtain⟨y,hy,e⟩:=List.any_eq_true.mp h;have e:=eq_of_beq e;exact⟨.inl,fun h=>h.elim id fun z=>by rw[z,← e];exact hy⟩
   · rw[List.mem_append,List.mem_singleton]
theorem qgX {ns ms:List Int} (nd:ms.Nodup) (h:∀ x,x∈ns↔x∈ms):(firstMet (fun i=>ns.getD i 0) ns.length).length=ms.length:=by
 refine List.Perm.length_eq ((List.perm_ext_iff_of_nodup (qcA _ _) nd).mpr fun x=>?_);rw[qdr,← h];constructor
 · rintro⟨i,hi,e⟩;rw[← e,List.getD_eq_getElem?_getD,List.getElem?_eq_getElem hi];exact List.getElem_mem hi
 · intro m;obtain⟨i,hi,e⟩:=List.mem_iff_getElem.mp m;exact⟨i,hi,by rw[List.getD_eq_getElem?_getD,List.getElem?_eq_getElem hi];exact e⟩
theorem qdQ {e:Expr}{ta:TA}{p p2 p3 pos:Pos} (hc:X.calm=true) (hgl:Gl X "len") (hml:X.mg "len"=none) (hgr:Gl X "set") (hmr:X.mg "set"=none) (ha:PA X [e] ta) (hs:starEach [e] X.env=[(false,eval e X.env)]:=by rfl) :
   PE X (.Call (.Name "len" p) [.Call (.Name "set" p2) [e] [] p3] [] pos) (qgj X.K ta):=by
 intro pins s σ H Q I h;refine wpAny_Call_Name_kw (Q0 I hgl hml qT ?_);refine PyProof.Rows.callWith_builtin1 ?_ (by rfl) (by rfl);show wpAny _ _ (spliced ((false,eval (.Call (.Name "set" p2) [e] [] p3) X.env)::backTo pos (starEach [] X.env))) _ _ s;refine Calls.spliced_cons ?_;refine Call_ (Q0 I hgr hmr qfW (PyProof.Rows.callWith_type1 (thn (ha p3 pins s σ H _ I h) fun us s1 zz_=>?_) hs rfl));obtain⟨vs,H1,I1,r1,q1⟩:=zz_;obtain⟨l,ns,e,hq,hz,q⟩:=q1;subst e;obtain⟨u,rfl,ru⟩:=Ji r1;cases ru;obtain⟨its,rv,pl,_⟩:=I1.list hq;have hl:ns.length=its.length:=by have:=rv.length;simpa using this
 refine call_set_list (ns:=ns) (I1.ok.hd hc) pl.isList (by simpa using qd5 rv) (by unfold scanBound;rw[List.size_toArray];omega) fun h' tk hS hk=>?_;have I2:Inv X pins σ H1 { s1 with heap:=h',toks:=tk }:=I1.kept (t':=tk) fun b o e=>hk b o (Heap.lt_size e) e;refine Calls.spliced_nil ?_;obtain⟨o,es,ep,t,ho,hex,hd,_,_,hb,hf,hn⟩:=hS;refine call_len_set (s:={ s1 with heap:=h',toks:=tk }) ho hex hd hf (by unfold scanBound at hb;omega) ?_;refine⟨.int _,H1,I2.tok _,⟨_,rfl⟩,?_⟩;rw[hn,List.size_toArray,← hl];exact q
end
end L2
namespace L2
open PySem PySem.Spec PyProof.Rows PySem.W
open PySem.W (Frag)
theorem qbV:∀ (f n r:Nat),r≤1->minRun' f n r≤n+r
 | 0,n,r,_=>Nat.le_refl _
 | f+1,n,r,hr=>by
   rw[minRun'_succ];split
   · exact Nat.le_refl _
   · have ih:=qbV f (n / 2) (max r (n % 2)) (by omega);omega
section
variable {prog:Program}{w:World}{A:Around}{E:Value->Shared->Prop}{κ:SortKind}{it:Array Keyed}{s:Shared}
theorem qig {r:Nat}{Q:Unit->SortSt->Shared->Prop}{G:Shared->Prop} (hG:∀ st s',arrOf st=(List.toArray (List.range (r+2))).map (kas_item it)->failedOf st=none->G s'->Q () st s')
   (up:(kas_asc (List.toArray (List.range (r+2))) (r+1) 1).kasWp (kas_cmp prog w A κ it) (fun k s'=>k=r+2∧G s') s):kasC (model prog w) A E sortRuns' Q (kas_st κ it (List.toArray (List.range (r+2)))) s:=by
 have z0:(List.toArray (List.range (r+2))).size=r+2:=by rw[List.size_toArray,List.length_range]
 have z1:(arrOf (kas_st κ it (List.toArray (List.range (r+2))))).size=r+2:=(Array.size_map ..).trans z0
 have cnt:(kas_count (r+2) (List.toArray (List.range (r+2)))).kasWp (kas_cmp prog w A κ it) (fun x s'=>x.1=r+2∧x.2=List.toArray (List.range (r+2))∧G s') s:=by
   unfold kas_count;rw[KasT.kasWp_bind];refine kas_wp_mono up fun k s' zz_=>?_;obtain⟨e,g⟩:=zz_;subst e;rw[if_pos (beq_self_eq_true _)];exact⟨rfl,rfl,g⟩
 rw[sortRuns'_eq];refine kasC_bind (kasC_get ?_);simp only[z1];refine kasC_bind (kasC_range ?_);show kasC _ _ _ (forIn (0::1::List.range' 2 r) _ _) _ _ s;refine kasC_cons ?_;dsimp only;rw[if_neg (by omega)];simp only[Nat.zero_add,Nat.sub_zero];refine kasC_bind (kas_count_ (by omega) (Nat.le_of_eq z0.symm) (fun k q s' _ _ _ hk=>?_) cnt);obtain⟨k1,k2,g⟩:=hk;simp only at k1 k2;subst k1 k2;dsimp only;rw[if_neg (Nat.not_lt.mpr (qbV (r+2) (r+2) 0 (Nat.zero_le _)))];refine kasC_bind (kasC_get ?_);rw[show (pendingOf (kas_st κ it (List.toArray (List.range (r+2))))).back?=none from rfl];dsimp only;refine kasC_bind (kasC_modify (kasC_pure ?_));show kasC _ _ _ (forIn (1::List.range' 2 r) _ _) _ _ s';refine kasC_cons ?_;dsimp only;rw[if_pos (Nat.le_refl _)];refine kasC_pure ?_;refine kasC_bind (kasC_range ?_);show kasC _ _ _ (forIn (0::1::List.range' 2 r) _ _) _ _ s';refine kasC_cons (kasC_bind (kasC_get ?_));rw[if_pos (show (pendingOf (setPending (kas_st κ it (List.toArray (List.range (r+2)))) ((pendingOf (kas_st κ it (List.toArray (List.range (r+2))))).push (0,r+2,0)))).size≤1 from Nat.le_refl 1)];exact kasC_pure (kasC_pure (hG _ _ rfl rfl g))
theorem qhW {vs:List Value}{G:Shared->Prop} (g:G s) (lt:∀ i,i+1 < vs.length->∀ C:Bool->Shared->Prop,C false s->wpAny (model prog w) A (keyLt' κ (vs.getD (i+1) Value.none) (vs.getD i Value.none)) C (fun _ _=>False) s) :
   ∀ (f k:Nat),1≤k->k+f=vs.length->(kas_asc (List.toArray (List.range vs.length)) f k).kasWp (kas_cmp prog w A κ (vs.toArray.zip vs.toArray)) (fun m s'=>m=vs.length∧G s') s
 | 0,k,_,h=>⟨by omega,g⟩
 | f+1,k,h1,h=>by
   have at_:∀ i,i < vs.length->(List.toArray (List.range vs.length)).getD i 0=i:=fun i hi=>by simp[Array.getD,hi]
   show kas_cmp prog w A κ (vs.toArray.zip vs.toArray) ((List.toArray (List.range vs.length)).getD k 0) ((List.toArray (List.range vs.length)).getD (k - 1) 0) _ s;rw[at_ k (by omega),at_ (k - 1) (by omega)];unfold kas_cmp;rw[kat_item rfl,kat_item rfl];have q:=lt (k - 1) (by omega);rw[show k - 1+1=k by omega]at q;refine q _ ?_;dsimp only;rw[if_neg (by decide)];exact qhW g lt f (k+1) (by omega) (by omega)
theorem qib {a:Addr}{vs:List Value}{n:Nat}{P:PySem.Fin->Shared->Prop} (ho:s.heap.get? a=some (seqObj "list" vs.toArray n)) (h2:2≤vs.length) (hz:vs.length≤sizeLine)
   (ask:∀ h',(∀ b o,b≠a->s.heap.get? b=some o->h'.get? b=some o)->wpAny (model prog w) A (keyKind' vs.toArray) (fun κ s'=>s'={ s with heap:=h' }∧∀ i,i+1 < vs.length->∀ C:Bool->Shared->Prop,C false s'->wpAny (model prog w) A (keyLt' κ (vs.getD (i+1) Value.none) (vs.getD i Value.none)) C (fun _ _=>False) s') (fun _ _=>False) { s with heap:=h' })
   (h:∀ c h',(∀ b o,b≠a->s.heap.get? b=some o->h'.get? b=some o)->h'.get? a=some (seqObj "list" vs.toArray c)->P (.done (.ret .none)) { s with heap:=h' }) :
   wpAny (model prog w) A (Builtin.«list.sort» ⟨[.ref a],[]⟩) P E s:=by
 obtain⟨r,hr⟩:∃ r,vs.length=r+2:=⟨vs.length - 2,by omega⟩
 have big:¬ vs.toArray.size < 2:=by rw[List.size_toArray];omega
 have zz:vs.toArray.size≤sizeLine:=by rw[List.size_toArray];exact hz
 obtain⟨e1,ho1⟩:∃ e1,(s.heap.update a (Obj.mapSeq fun _=>(#[]:Array Value))).get? a=some (seqObj "list" #[] e1):=⟨_,get?_update_seq ho fun _=>#[]⟩
 rw[list_sort_plain];refine wpAny_bind (listItems_at ho rfl (wpAny_bind (listUpdate_at ho rfl ?_ zz (Nat.zero_le _))));refine wpAny_bind (seqEpoch_at ho1 rfl (wpAny_bind (wpAny_newTuple ?_ zz)));refine wpAny_bind (wpAny_newList (wpAny_holding ?_) (Nat.zero_le _))
 have k3:∀ b o,b≠a->s.heap.get? b=some o->(((s.heap.update a (Obj.mapSeq fun _=>(#[]:Array Value))).push (seqObj "tuple" vs.toArray 0)).push (seqObj "list" #[] 0)).get? b=some o:=fun b o hb q =>
   Heap.get?_push_of_some _ (Heap.get?_push_of_some _ (((Heap.SameBut.update s.heap a _).2 b hb).trans q))
 have ho2:(((s.heap.update a (Obj.mapSeq fun _=>(#[]:Array Value))).push (seqObj "tuple" vs.toArray 0)).push (seqObj "list" #[] 0)).get? a=some (seqObj "list" #[] e1):=Heap.get?_push_of_some _ (Heap.get?_push_of_some _ ho1);dsimp only;rw[if_neg big,if_neg big];refine wpAny_bind (wpAny_mono (ask _ k3) (fun κ s' zz_=>?_) fun _ _ x=>x.elim);obtain⟨es,lt⟩:=zz_;subst es
 have it0:(List.toArray (List.range (r+2))).map (kas_item (vs.toArray.zip vs.toArray))=vs.toArray.zip vs.toArray:=by
   have:=kas_range (vs.toArray.zip vs.toArray)
   rwa [show (vs.toArray.zip vs.toArray).size=r+2 by simp[hr]]at this
 have st0:SortSt.mk' κ (vs.toArray.zip vs.toArray) #[] 7 none=kas_st κ (vs.toArray.zip vs.toArray) (List.toArray (List.range (r+2))):=by
   unfold kas_st;rw[it0]
 have up:=qhW (G:=fun s'=>s'={ s with heap:=((s.heap.update a (Obj.mapSeq fun _=>(#[]:Array Value))).push (seqObj "tuple" vs.toArray 0)).push (seqObj "list" #[] 0) }) rfl lt (r+1) 1 (Nat.le_refl _) (by omega);rw[hr]at up;have run:=qig (E:=E) (Q:=fun _ st s'=>arrOf st=vs.toArray.zip vs.toArray∧failedOf st=none∧s'={ s with heap:=((s.heap.update a (Obj.mapSeq fun _=>(#[]:Array Value))).push (seqObj "tuple" vs.toArray 0)).push (seqObj "list" #[] 0) }) (fun st s' x y z=>⟨x.trans it0,y,z⟩) up;rw[← st0]at run;unfold kasC at run;refine wpAny_bind (wpAny_mono run ?_ fun _ _ x=>x);rintro⟨⟨⟩,st⟩ s' ⟨ha,hf,rfl⟩
 have snd0:Array.map (fun x:Keyed=>x.snd) (arrOf st)=vs.toArray:=by
   rw[ha];apply Array.toList_inj.mp;simp only[Array.toList_map,Array.toList_zip];exact List.map_snd_zip (Nat.le_refl _)
 dsimp only;rw[snd0];refine wpAny_bind (seqEpoch_at ho2 rfl (wpAny_bind (listUpdate_at ho2 rfl ?_ (Nat.zero_le _) (Nat.le_succ_of_le zz))));rw[hf];simp only[bne_self_eq_false,Bool.false_eq_true,if_false];refine wpAny_pure (h _ _ (fun b o hb q=>?_) (get?_update_seq ho2 fun _=>vs.toArray));exact((Heap.SameBut.update _ a _).2 b hb).trans (k3 b o hb q)
theorem qet {l:Addr}{vs:List Value}{Q:Value->Shared->Prop} (hl:s.heap.IsList l vs.toArray) (h2:2≤vs.length) (hz:vs.length≤sizeLine)
   (ask:∀ h',(∀ b o,s.heap.get? b=some o->h'.get? b=some o)->wpAny (model prog w) A.in1.in1 (keyKind' vs.toArray) (fun κ s'=>s'={ s with heap:=h' }∧∀ i,i+1 < vs.length->∀ C:Bool->Shared->Prop,C false s'->wpAny (model prog w) A.in1.in1 (keyLt' κ (vs.getD (i+1) Value.none) (vs.getD i Value.none)) C (fun _ _=>False) s') (fun _ _=>False) { s with heap:=h' })
   (h:∀ D c h',s.heap.get? D=none->(∀ b o,s.heap.get? b=some o->h'.get? b=some o)->h'.get? D=some (seqObj "list" vs.toArray c)->Q (.ref D) { s with heap:=h' }) :
   wpAny (model prog w) A (call (.builtin "sorted") [.ref l]) Q E s:=by
 refine Calls.call_function_entry kind_sorted plain_sorted entry_sorted (args_sorted1 _) ?_;unfold Builtin.«sorted»;refine wpAny_bind (m:=checkCount "sorted" 1 1 _) (wpAny_pure ?_);refine wpAny_bind (collect_list hl (wpAny_bind (wpAny_newList ?_ hz)) hz);generalize hg:(s.heap.push (seqObj "list" #[] 0)).update s.heap.objs.size (Obj.mapSeq (·++vs.toArray))=g;have z1:g.objs.size=s.heap.objs.size+1:=by rw[← hg,Heap.size_update,size_push']
 have at_:(g.push (seqObj "list" vs.toArray 0)).get? (s.heap.objs.size+1)=some (seqObj "list" vs.toArray 0):=by rw[← z1];exact Heap.get?_push_size _ rfl
 have kp:∀ b o,s.heap.get? b=some o->(g.push (seqObj "list" vs.toArray 0)).get? b=some o:=fun b o q=>by
   have lt:b < s.heap.objs.size:=Heap.lt_size q;rw[Heap.get?_push_ne _ _ _ (by rw[z1];exact Nat.ne_of_lt (Nat.lt_succ_of_lt lt)),← hg,Heap.get?_update_ne _ _ _ _ (Nat.ne_of_lt lt),Heap.get?_push_ne _ _ _ (Nat.ne_of_lt lt)];exact q
 rw[z1];refine wpAny_bind (wpAny_holding (wpAny_call_entry slot_list_sort ⟨_,at_,rfl⟩ entry_list_sort ?body (args_list_sort _)))
 case body =>
   refine qib (s:={ s with heap:=g.push (seqObj "list" vs.toArray 0) }) at_ h2 hz (fun h' k=>ask h' fun b o q=>k b o (Nat.ne_of_lt (Nat.lt_succ_of_lt (Heap.lt_size q))) (kp b o q)) fun c h' k e=>?_;exact⟨_,rfl,wpAny_pure ⟨_,rfl,h (s.heap.objs.size+1) c h' (Heap.get?_none_of_le (Nat.le_succ _)) (fun b o q=>k b o (Nat.ne_of_lt (Nat.lt_succ_of_lt (Heap.lt_size q))) (kp b o q)) e⟩⟩
end
inductive qde (K:Frag) (xs:List V) (H:Hp) (Q:VK):Prop
 | mk (l:Addr) (zs:List V) (rs:List (List Int)) (k:Nat) (h1:xs=[.ref l]) (h2:SqL K H l zs) (h3:TupI H zs rs) (h4:(∀ r∈rs,r.length=k)) (h5:0 < k) (h6:rs.Pairwise (fun a b=>QH b a=false)) (h7:∀ p:Addr,H p=none->Q (.ref p) (upd H p (.lst zs))):qde K xs H Q
def qhz (K:Frag):List V->Hp->VK->Prop:=fun xs H Q=>qde K xs H Q
section
variable {X:Cx}
theorem qaS:CallR X (.builtin "sorted") (qhz X.K):=by
 intro pins s σ H xs us Q I r h;obtain⟨l,zs,rs,k,rfl,hq,tp,hk,k0,up,q⟩:=h;obtain⟨u,rfl,ru⟩:=Ji r;cases (show u=Value.ref l from ru);obtain⟨its,rv,p,hz⟩:=I.list hq;have hlen:=rv.length
 have fin:∀ D c h',s.heap.get? D=none->(∀ b o,s.heap.get? b=some o->h'.get? b=some o)->h'.get? D=some (seqObj "list" its.toArray c)->EP X pins σ Q (.ref D) { s with heap:=h' }:=fun D c h' free kp e=>by
   have I':Inv X pins σ (upd H D (.lst zs)) { s with heap:=h' }:=I.laidL (t':=s.toks) (fun b u _ z=>kp b u z) (fun m ⟨o,es,ep,ho,r⟩=>⟨o,es,ep,kp _ _ ho,r⟩) free ⟨hz,its,c,rv,e⟩;exact⟨.ref D,_,I',rfl,q D (I.unlaid free)⟩
 by_cases h2:its.length < 2
 · exact qaA p.isList h2 fun D c h' free kp e=>fin D c h' free kp e
 · refine qet p.isList (by omega) (by rw[← hlen];exact hz) (fun h' kp=>?_) fun D c h' free kp e=>fin D c h' free kp e;have pa:=qcm I (h':=h') (fun b u _ z=>kp b u z) tp rv;obtain⟨fs,t1,t2,t3⟩:=qaV pa fun r hr=>by rw[hk r hr];exact k0
   refine PySem.W.kat_kind (T:=.type "int") t1 (by omega) (fun v hv=>?_) rfl ⟨rfl,fun i hi C hC=>?_⟩
   · obtain⟨i,t,rfl⟩:=t3 v hv;exact PySem.W.Looks.of_pure rfl
   · obtain⟨x,ox,ux,nx,ex,rx,hx,cx,dx⟩:=zW (d:=Value.none) (e:=List.replicate k 0) pa hi;obtain⟨y,oy,uy,ny,ey,ry,hy,cy,dy⟩:=zW (d:=Value.none) (e:=List.replicate k 0) pa (show i < its.length by omega);rw[ex,ey];refine PySem.W.kat_lt hx dx hy dy ?_;have lx:=Qp hk (i+1);have ly:=Qp hk i;have e1':=rx.length;have e2':=ry.length;rw[List.length_map]at e1' e2';rw[show decide (ux.toArray.size < uy.toArray.size)=false from decide_eq_false (by rw[List.size_toArray,List.size_toArray];omega)];refine qfl rx ry (by omega) ?_;have lr:rs.length=its.length:=by rw[← tp.len];exact hlen
     have a1:i+1 < rs.length:=by omega
     have:=List.pairwise_iff_getElem.mp up i (i+1) (by omega) a1 (by omega)
     rw[List.getD_eq_getElem?_getD,List.getElem?_eq_getElem a1,List.getD_eq_getElem?_getD,List.getElem?_eq_getElem (show i < rs.length by omega)];simp only[Option.getD_some];rw[this];exact hC
end
end L2
namespace M04
open L2
def Mem (ws:List (Int×Int)) (n:Int):Prop:=∃ w∈ws,w.1≤n∧n≤w.2
def zB (ws:List (Int×Int)):Prop:=(∀ w∈ws,w.1≤w.2)∧ws.Pairwise fun a b=>a.2+1 < b.1
def Jd (acc:List (Int×Int)) (w:Int×Int):List (Int×Int):=match acc.getLast? with
 | some l=>if w.1≤l.2+1 then acc.set (acc.length - 1) (l.1,if w.2 > l.2 then w.2 else l.2) else acc++[w]
 | none=>[w]
theorem qbh (xs ys:List (Int×Int)) (n:Int):Mem (xs++ys) n↔Mem xs n∨Mem ys n:=by
 constructor
 · rintro⟨w,hw,h⟩;rcases List.mem_append.mp hw with m|m
   · exact .inl ⟨w,m,h⟩
   · exact .inr ⟨w,m,h⟩
 · rintro (⟨w,hw,h⟩|⟨w,hw,h⟩)
   · exact⟨w,List.mem_append.mpr (.inl hw),h⟩
   · exact⟨w,List.mem_append.mpr (.inr hw),h⟩
theorem JQ (w:Int×Int) (n:Int):Mem [w] n↔w.1≤n∧n≤w.2:=by
 constructor
 · rintro⟨x,hx,h⟩;have e:x=w:=by simpa using hx
   rw[← e];exact h
 · intro h;exact⟨w,by simp,h⟩
theorem mem_cons (w:Int×Int) (ws:List (Int×Int)) (n:Int):Mem (w::ws) n↔(w.1≤n∧n≤w.2)∨Mem ws n:=by
 rw[show w::ws=[w]++ws from rfl,qbh,JQ]
theorem qg3 {acc:List (Int×Int)}{l:Int×Int} (h:acc.getLast?=some l):∃ init,acc=init++[l] :=
 ⟨acc.dropLast,by
   have ne:acc≠[]:=fun z=>by rw[z]at h;cases h
   have e:acc.getLast ne=l:=by rw[List.getLast?_eq_some_getLast ne]at h;exact Option.some.inj h
   rw[← e];exact(List.dropLast_concat_getLast ne).symm⟩
theorem qgm (init:List (Int×Int)) (l x:Int×Int):(init++[l]).set ((init++[l]).length - 1) x=init++[x]:=by
 rw[List.length_append,show init.length+[l].length - 1=init.length by simp,List.set_append_right _ _ (Nat.le_refl _),Nat.sub_self];rfl
theorem canon_snoc {init:List (Int×Int)}{l:Int×Int}:zB (init++[l])↔zB init∧l.1≤l.2∧∀ a∈init,a.2+1 < l.1:=by
 unfold zB;constructor
 · rintro⟨h1,h2⟩;obtain⟨p1,_,p3⟩:=List.pairwise_append.mp h2;exact⟨⟨fun w m=>h1 w (by simp[m]),p1⟩,h1 l (by simp),fun a m=>p3 a m l (by simp)⟩
 · rintro⟨⟨h1,h2⟩,h3,h4⟩;refine⟨fun w m=>?_,List.pairwise_append.mpr ⟨h2,List.pairwise_singleton _ _,fun a ma b mb=>?_⟩⟩
   · rcases List.mem_append.mp m with m|m
     · exact h1 w m
     · have:w=l:=by simpa using m
       rw[this];exact h3
   · have:b=l:=by simpa using mb
     rw[this];exact h4 a ma
theorem qh9 {acc:List (Int×Int)}{w:Int×Int} (c:zB acc) (hw:w.1≤w.2) (hl:∀ l∈acc,l.1≤w.1) :
   zB (Jd acc w)∧(∀ n,Mem (Jd acc w) n↔Mem acc n∨(w.1≤n∧n≤w.2))∧∀ l∈Jd acc w,l.1≤w.1:=by
 cases e:acc.getLast? with
 | none =>
   have e0:acc=[]:=List.getLast?_eq_none_iff.mp e;subst e0;show zB [w]∧(∀ n,Mem [w] n↔Mem [] n∨_)∧∀ l∈[w],l.1≤w.1;refine⟨⟨fun x m=>?_,List.pairwise_singleton _ _⟩,fun n=>?_,fun x m=>?_⟩
   · have:x=w:=by simpa using m
     rw[this];exact hw
   · rw[JQ];exact⟨.inr,fun h=>h.elim (fun⟨_,z,_⟩=>nomatch z) id⟩
   · have:x=w:=by simpa using m
     rw[this];exact Int.le_refl _
 | some l =>
   obtain⟨init,rfl⟩:=qg3 e;obtain⟨c1,c2,c3⟩:=canon_snoc.mp c;have hl1:=hl l (by simp);unfold Jd;rw[e];dsimp only;by_cases g:w.1≤l.2+1
   · rw[if_pos g,qgm];refine⟨canon_snoc.mpr ⟨c1,by show l.1≤(if w.2 > l.2 then w.2 else l.2);split<;>omega,c3⟩,fun n=>?_,fun x m=>?_⟩
     · rw[qbh,qbh,JQ,JQ,or_assoc];show _∨(l.1≤n∧n≤(if w.2 > l.2 then w.2 else l.2))↔_
       have:(l.1≤n∧n≤(if w.2 > l.2 then w.2 else l.2))↔((l.1≤n∧n≤l.2)∨(w.1≤n∧n≤w.2)):=by
         split<;>omega
       rw[this]
     · rcases List.mem_append.mp m with m|m
       · exact hl x (by simp[m])
       · have:x=(l.1,if w.2 > l.2 then w.2 else l.2):=by simpa using m
         rw[this];exact hl1
   · rw[if_neg g];refine⟨canon_snoc.mpr ⟨c,hw,fun a m=>?_⟩,fun n=>by rw[qbh _ [w],JQ],fun x m=>?_⟩
     · rcases List.mem_append.mp m with m|m
       · have:=c3 a m;omega
       · have:a=l:=by simpa using m
         rw[this];omega
     · rcases List.mem_append.mp m with m|m
       · exact hl x m
       · have:x=w:=by simpa using m
         rw[this];exact Int.le_refl _
theorem qcF:∀ (S acc:List (Int×Int)),zB acc->(∀ w∈S,w.1≤w.2)->S.Pairwise (fun a b=>a.1≤b.1)->(∀ l∈acc,∀ w∈S,l.1≤w.1)->zB (S.foldl Jd acc)∧∀ n,Mem (S.foldl Jd acc) n↔Mem acc n∨Mem S n
 | [],acc,c,_,_,_=>⟨c,fun n=>⟨.inl,fun h=>h.elim id fun⟨_,z,_⟩=>nomatch z⟩⟩
 | w::S,acc,c,ok,hp,hl=>by
   obtain⟨p1,p2⟩:=List.pairwise_cons.mp hp;obtain⟨s1,s2,s3⟩:=qh9 c (ok w (by simp)) fun l m=>hl l m w (by simp);obtain⟨f1,f2⟩:=qcF S (Jd acc w) s1 (fun x m=>ok x (by simp[m])) p2 fun l m x mx=>Int.le_trans (s3 l m) (p1 x mx);refine⟨f1,fun n=>?_⟩;rw[List.foldl_cons,f2,s2,mem_cons,or_assoc]
theorem ZD {w:Int×Int}{ws:List (Int×Int)} (c:zB (w::ws)):zB ws∧w.1≤w.2∧∀ n,Mem ws n->w.2+1 < n:=by
 obtain⟨h1,h2⟩:=c;obtain⟨p1,p2⟩:=List.pairwise_cons.mp h2;exact⟨⟨fun x m=>h1 x (by simp[m]),p2⟩,h1 w (by simp),fun n ⟨x,m,a,b⟩=>by have:=p1 x m;omega⟩
theorem J9:∀ {xs ys:List (Int×Int)},zB xs->zB ys->(∀ n,Mem xs n↔Mem ys n)->xs=ys
 | [],[],_,_,_=>rfl
 | [],y::ys,_,c,h=>by
   obtain⟨_,k,_⟩:=ZD c;obtain⟨_,z,_⟩:=(h y.1).mpr ((mem_cons _ _ _).mpr (.inl ⟨Int.le_refl _,k⟩));cases z
 | x::xs,[],c,_,h=>by
   obtain⟨_,k,_⟩:=ZD c;obtain⟨_,z,_⟩:=(h x.1).mp ((mem_cons _ _ _).mpr (.inl ⟨Int.le_refl _,k⟩));cases z
 | x::xs,y::ys,c,d,h=>by
   obtain⟨c1,c2,c3⟩:=ZD c;obtain⟨d1,d2,d3⟩:=ZD d;have h':∀ n,((x.1≤n∧n≤x.2)∨Mem xs n)↔((y.1≤n∧n≤y.2)∨Mem ys n):=fun n=>by rw[← mem_cons,← mem_cons];exact h n
   have a1:y.1≤x.1:=by
     rcases (h' x.1).mp (.inl ⟨Int.le_refl _,c2⟩) with k|k
     · exact k.1
     · have:=d3 _ k;omega
   have a2:x.1≤y.1:=by
     rcases (h' y.1).mpr (.inl ⟨Int.le_refl _,d2⟩) with k|k
     · exact k.1
     · have:=c3 _ k;omega
   have b1:y.2≤x.2:=by
     rcases Int.lt_or_le x.2 y.2 with lt|le
     · rcases (h' (x.2+1)).mpr (.inl ⟨by omega,by omega⟩) with k|k
       · omega
       · have:=c3 _ k;omega
     · exact le
   have b2:x.2≤y.2:=by
     rcases Int.lt_or_le y.2 x.2 with lt|le
     · rcases (h' (y.2+1)).mp (.inl ⟨by omega,by omega⟩) with k|k
       · omega
       · have:=d3 _ k;omega
     · exact le
   have e:x=y:=Prod.ext (by omega) (by omega);subst e;rw[J9 c1 d1 fun n=>?_];constructor
   · intro k
     have:=c3 n k
     rcases (h' n).mp (.inr k) with z|z
     · omega
     · exact z
   · intro k
     have:=d3 n k
     rcases (h' n).mpr (.inr k) with z|z
     · omega
     · exact z
end M04
namespace K33
open PySem L2 PySem.NumText PyProof.Rows KC M04
open PySem.W (Frag keepIn kitOne fnOf codeIn codeHdIn kitAny nsIn)
def top (i:Nat):Stmt:=PySem.Challenge.pw_foldlog_k33_sifted_entries.main.body.getD i (.Pass ⟨0,0,0,0⟩)
abbrev JC:Stmt:=top 16
theorem qbA:qk ["thing"] ["thing"] (qe JC):=⟨rfl,rfl,rfl,by decide +kernel,rfl,by decide +kernel,by decide +kernel⟩
abbrev qaC:Stmt:=top 17
theorem qco:qk ["thing","low","high"] ["thing","low","high"] (qe qaC):=⟨rfl,rfl,rfl,by decide +kernel,rfl,by decide +kernel,by decide +kernel⟩
abbrev JD:Stmt:=top 18
theorem qbB:qk ["thing"] ["thing"] (qe JD):=⟨rfl,rfl,rfl,by decide +kernel,rfl,by decide +kernel,by decide +kernel⟩
abbrev jM:Stmt:=top 19
theorem qa1:qk ["thing"] ["thing"] (qe jM):=⟨rfl,rfl,rfl,by decide +kernel,rfl,by decide +kernel,by decide +kernel⟩
abbrev qbE:Stmt:=top 20
theorem qdM:qk ["thing"] ["thing"] (qe qbE):=⟨rfl,rfl,rfl,by decide +kernel,rfl,by decide +kernel,by decide +kernel⟩
abbrev jL:Stmt:=top 22
theorem qa0:qk ["thing"] ["thing"] (qe jL):=⟨rfl,rfl,rfl,by decide +kernel,rfl,by decide +kernel,by decide +kernel⟩
abbrev QE:Stmt:=top 23
theorem sc_check_stretches:qk ["stretches","place","stretch"] ["stretches"] (qe QE):=⟨rfl,rfl,rfl,by decide +kernel,rfl,by decide +kernel,by decide +kernel⟩
abbrev qaB:Stmt:=top 24
theorem sc_spans_of:qk ["stretches","told","low","high"] ["stretches"] (qe qaB):=⟨rfl,rfl,rfl,by decide +kernel,rfl,by decide +kernel,by decide +kernel⟩
abbrev qaD:Stmt:=top 25
theorem qcp:qk ["spans"] ["spans"] (qe qaD):=⟨rfl,rfl,rfl,by decide +kernel,rfl,by decide +kernel,by decide +kernel⟩
abbrev jP:Stmt:=top 28
theorem qa2:qk ["thing"] ["thing"] (qe jP):=⟨rfl,rfl,rfl,by decide +kernel,rfl,by decide +kernel,by decide +kernel⟩
abbrev ZK:Stmt:=top 29
theorem Jw:qk ["thing"] ["thing"] (qe ZK):=⟨rfl,rfl,rfl,by decide +kernel,rfl,by decide +kernel,by decide +kernel⟩
abbrev Zg:Stmt:=top 30
theorem jZ:qk ["thing"] ["thing"] (qe Zg):=⟨rfl,rfl,rfl,by decide +kernel,rfl,by decide +kernel,by decide +kernel⟩
abbrev jO:Stmt:=top 37
theorem sc_check_part:qk ["part","many"] ["part"] (qe jO):=⟨rfl,rfl,rfl,by decide +kernel,rfl,by decide +kernel,by decide +kernel⟩
abbrev zb:Stmt:=top 40
theorem qdL:qk ["low","high"] ["low","high"] (qe zb):=⟨rfl,rfl,rfl,by decide +kernel,rfl,by decide +kernel,by decide +kernel⟩
abbrev qV:Stmt:=top 41
theorem qgn:qk ["low","high"] ["low","high"] (qe qV):=⟨rfl,rfl,rfl,by decide +kernel,rfl,by decide +kernel,by decide +kernel⟩
abbrev qU:Stmt:=top 42
theorem qcn:qk ["keeps"] ["keeps"] (qe qU):=⟨rfl,rfl,rfl,by decide +kernel,rfl,by decide +kernel,by decide +kernel⟩
abbrev qc4:Stmt:=top 44
theorem qev:qk ["thing","widest"] ["thing","widest"] (qe qc4):=⟨rfl,rfl,rfl,by decide +kernel,rfl,by decide +kernel,by decide +kernel⟩
abbrev JB:Stmt:=top 45
theorem qbz:qk ["rows","place"] ["rows","place"] (qe JB):=⟨rfl,rfl,rfl,by decide +kernel,rfl,by decide +kernel,by decide +kernel⟩
abbrev jN:Stmt:=top 46
theorem sc_check_rows:qk ["rows","most","widest","place","row"] ["rows","most","widest"] (qe jN):=⟨rfl,rfl,rfl,by decide +kernel,rfl,by decide +kernel,by decide +kernel⟩
abbrev qeF:Stmt:=top 52
theorem qgo:qk ["_law_script","_law_k"] ["_law_script","_law_k"] (qe qeF):=⟨rfl,rfl,rfl,by decide +kernel,rfl,by decide +kernel,by decide +kernel⟩
abbrev qhy:Stmt:=top 53
theorem sc_Lmix:qk ["_law_cell_here","_law_k","_law_number"] ["_law_cell_here","_law_k"] (qe qhy):=⟨rfl,rfl,rfl,by decide +kernel,rfl,by decide +kernel,by decide +kernel⟩
abbrev qdb:Stmt:=top 54
theorem qex:qk ["_law_cell_here"] ["_law_cell_here"] (qe qdb):=⟨rfl,rfl,rfl,by decide +kernel,rfl,by decide +kernel,by decide +kernel⟩
abbrev qeC:Stmt:=top 55
theorem sc_Lpull:qk ["_law_state","_law_many","_law_digit","_law_high","_law_low"] ["_law_state","_law_many"] (qe qeC):=⟨rfl,rfl,rfl,by decide +kernel,rfl,by decide +kernel,by decide +kernel⟩
abbrev qc8:Stmt:=top 56
theorem sc_Lnames:qk ["_law_state","_law_many","_law_letters","_law_size","_law_at","_law_base","_law_first","_law_step","_law_names_here","_law_k","_law_behind","_law_sign"] ["_law_state","_law_many"] (qe qc8):=⟨rfl,rfl,rfl,by decide +kernel,rfl,by decide +kernel,by decide +kernel⟩
abbrev qc6:Stmt:=top 57
theorem sc_Lshift:qk ["_law_state","_law_way"] ["_law_state"] (qe qc6):=⟨rfl,rfl,rfl,by decide +kernel,rfl,by decide +kernel,by decide +kernel⟩
abbrev qeB:Stmt:=top 58
theorem sc_Lrows:qk ["_law_state","_law_unit","_law_rows_here","_law_k"] ["_law_state"] (qe qeB):=⟨rfl,rfl,rfl,by decide +kernel,rfl,by decide +kernel,by decide +kernel⟩
abbrev qbF:Stmt:=top 59
theorem sc_Lpieces:qk ["_law_rows_here","_law_ends"] ["_law_rows_here"] (qe qbF):=⟨rfl,rfl,rfl,by decide +kernel,rfl,by decide +kernel,by decide +kernel⟩
abbrev qbG:Stmt:=top 60
theorem sc_Ljoined:qk ["_law_stretches","_law_found","_law_low","_law_high"] ["_law_stretches"] (qe qbG):=⟨rfl,rfl,rfl,by decide +kernel,rfl,by decide +kernel,by decide +kernel⟩
abbrev qc5:Stmt:=top 61
theorem qew:qk ["_law_rows_here","_law_low","_law_high"] ["_law_rows_here","_law_low","_law_high"] (qe qc5):=⟨rfl,rfl,rfl,by decide +kernel,rfl,by decide +kernel,by decide +kernel⟩
abbrev qez:Stmt:=top 63
theorem sc_Lsame:qk ["_law_found","_law_due","_law_part_here"] ["_law_found","_law_due"] (qe qez):=⟨rfl,rfl,rfl,by decide +kernel,rfl,by decide +kernel,by decide +kernel⟩
abbrev qeE:Stmt:=top 64
theorem sc_Lmade:qk ["_law_spec","_law_word","_law_name","_law_place","_law_low","_law_high"] ["_law_spec"] (qe qeE):=⟨rfl,rfl,rfl,by decide +kernel,rfl,by decide +kernel,by decide +kernel⟩
abbrev qeD:Stmt:=top 65
theorem sc_Lpart:qk ["_law_state","_law_name","_law_place","_law_rows_here","_law_word","_law_low","_law_a","_law_b","_law_shift_here","_law_reading","_law_wide","_law_high"] ["_law_state","_law_name","_law_place","_law_rows_here"] (qe qeD):=⟨rfl,rfl,rfl,by decide +kernel,rfl,by decide +kernel,by decide +kernel⟩
abbrev qeA:Stmt:=top 66
theorem sc_Lrule:qk ["_law_state","_law_near","_law_way","_law_day","_law_minute"] ["_law_state","_law_near"] (qe qeA):=⟨rfl,rfl,rfl,by decide +kernel,rfl,by decide +kernel,by decide +kernel⟩
abbrev qda:Stmt:=top 67
theorem sc_Lkeeps:qk ["_law_rule_here","_law_moment","_law_word","_law_one","_law_other","_law_minute"] ["_law_rule_here","_law_moment"] (qe qda):=⟨rfl,rfl,rfl,by decide +kernel,rfl,by decide +kernel,by decide +kernel⟩
abbrev zG:Stmt:=top 68
theorem sc_Lsieve:qk ["_law_rule_here","_law_word","_law_one","_law_other"] ["_law_rule_here"] (qe zG):=⟨rfl,rfl,rfl,by decide +kernel,rfl,by decide +kernel,by decide +kernel⟩
abbrev zr:Stmt:=top 69
theorem sc_Lnoting:qk ["_law_sieve_here","_law_asked","_law_keeps_it"] ["_law_sieve_here","_law_asked"] (qe zr):=⟨rfl,rfl,rfl,by decide +kernel,rfl,by decide +kernel,by decide +kernel⟩
abbrev qey:Stmt:=top 70
theorem sc_Ltold:qk ["_law_sieve_here","_law_rule_here","_law_contrary","_law_near","_law_word","_law_one","_law_other","_law_some","_law_day","_law_moment","_law_found"] ["_law_sieve_here","_law_rule_here","_law_contrary","_law_near"] (qe qey):=⟨rfl,rfl,rfl,by decide +kernel,rfl,by decide +kernel,by decide +kernel⟩
abbrev qc9:Stmt:=top 71
theorem sc_Llacks:qk ["_law_entry","_law_place","_law_other","_law_found","e"] ["_law_entry","_law_place","_law_other"] (qe qc9):=⟨rfl,rfl,rfl,by decide +kernel,rfl,by decide +kernel,by decide +kernel⟩
abbrev qc7:Stmt:=top 72
theorem sc_Lright:qk ["_law_state","_law_spec","_law_rows_here","_law_names_here","_law_rules","_law_contrary","_law_sieves","_law_low_rows","_law_moments","_law_low","_law_high","_law_rule_here","_law_sieve_here","_law_asked","_law_entry","_law_due","_law_tabled"] ["_law_state","_law_spec","_law_rows_here","_law_names_here"] (qe qc7):=⟨rfl,rfl,rfl,by decide +kernel,rfl,by decide +kernel,by decide +kernel⟩
abbrev qjw:Stmt:=top 73
theorem sc_law:qk ["_law_script","_law_k","_law_state","_law_names_here","_law_rows_here"] ["_law_script"] (qe qjw):=⟨rfl,rfl,rfl,by decide +kernel,rfl,by decide +kernel,by decide +kernel⟩
abbrev jR:Stmt:=qF (top 31) 0
theorem qa4:qk ["self","name"] ["self","name"] (qe jR):=⟨rfl,rfl,rfl,by decide +kernel,rfl,by decide +kernel,by decide +kernel⟩
abbrev qbH:Stmt:=qF (top 31) 1
abbrev ZP:Stmt:=qF (top 31) 2
theorem Jz:qk ["self"] ["self"] (qe ZP):=⟨rfl,rfl,rfl,by decide +kernel,rfl,by decide +kernel,by decide +kernel⟩
abbrev qa5:Stmt:=qF (top 31) 3
abbrev Z8:Stmt:=qF (top 32) 0
theorem qae:qk ["self","name","low","high"] ["self","name","low","high"] (qe Z8):=⟨rfl,rfl,rfl,by decide +kernel,rfl,by decide +kernel,by decide +kernel⟩
abbrev Z7:Stmt:=qF (top 32) 1
theorem qad:qk ["self"] ["self"] (qe Z7):=⟨rfl,rfl,rfl,by decide +kernel,rfl,by decide +kernel,by decide +kernel⟩
abbrev ZL:Stmt:=qF (top 32) 2
theorem Jx:qk ["self","tables"] ["self","tables"] (qe ZL):=⟨rfl,rfl,rfl,by decide +kernel,rfl,by decide +kernel,by decide +kernel⟩
abbrev qbJ:Stmt:=qF (top 33) 0
theorem qdO:qk ["self","name","moment"] ["self","name","moment"] (qe qbJ):=⟨rfl,rfl,rfl,by decide +kernel,rfl,by decide +kernel,by decide +kernel⟩
abbrev qbI:Stmt:=qF (top 33) 1
theorem qdN:qk ["self"] ["self"] (qe qbI):=⟨rfl,rfl,rfl,by decide +kernel,rfl,by decide +kernel,by decide +kernel⟩
abbrev ZQ:Stmt:=qF (top 34) 0
theorem JA:qk ["self","name","place","low","high"] ["self","name","place","low","high"] (qe ZQ):=⟨rfl,rfl,rfl,by decide +kernel,rfl,by decide +kernel,by decide +kernel⟩
abbrev qah:Stmt:=qF (top 34) 1
abbrev QY:Stmt:=qF (top 34) 2
theorem ju:qk ["self"] ["self"] (qe QY):=⟨rfl,rfl,rfl,by decide +kernel,rfl,by decide +kernel,by decide +kernel⟩
abbrev Zj:Stmt:=qF (top 34) 3
theorem j5:qk ["self","tables"] ["self","tables"] (qe Zj):=⟨rfl,rfl,rfl,by decide +kernel,rfl,by decide +kernel,by decide +kernel⟩
abbrev JF:Stmt:=qF (top 35) 0
theorem qbD:qk ["self","name","place","reading"] ["self","name","place","reading"] (qe JF):=⟨rfl,rfl,rfl,by decide +kernel,rfl,by decide +kernel,by decide +kernel⟩
abbrev JE:Stmt:=qF (top 35) 1
theorem qbC:qk ["self"] ["self"] (qe JE):=⟨rfl,rfl,rfl,by decide +kernel,rfl,by decide +kernel,by decide +kernel⟩
abbrev ja:Stmt:=qF (top 36) 0
theorem qag:qk ["self","name","part","keeps"] ["self","name","part","keeps"] (qe ja):=⟨rfl,rfl,rfl,by decide +kernel,rfl,by decide +kernel,by decide +kernel⟩
abbrev Z9:Stmt:=qF (top 36) 1
theorem qaf:qk ["self"] ["self"] (qe Z9):=⟨rfl,rfl,rfl,by decide +kernel,rfl,by decide +kernel,by decide +kernel⟩
abbrev Zh:Stmt:=qF (top 36) 2
theorem j3:qk ["self"] ["self"] (qe Zh):=⟨rfl,rfl,rfl,by decide +kernel,rfl,by decide +kernel,by decide +kernel⟩
abbrev ZN:Stmt:=qF (top 36) 3
theorem sc_Sifted_spans:qk ["self","tables","keeps","told","low","high"] ["self","tables"] (qe ZN):=⟨rfl,rfl,rfl,by decide +kernel,rfl,by decide +kernel,by decide +kernel⟩
abbrev jQ:Stmt:=qF (top 50) 0
theorem qa3:qk ["self","rows"] ["self","rows"] (qe jQ):=⟨rfl,rfl,rfl,by decide +kernel,rfl,by decide +kernel,by decide +kernel⟩
abbrev ZM:Stmt:=qF (top 50) 2
theorem sc_Table_pieces:qk ["self","ends"] ["self"] (qe ZM):=⟨rfl,rfl,rfl,by decide +kernel,rfl,by decide +kernel,by decide +kernel⟩
abbrev zp:Stmt:=qF (top 50) 6
theorem QD:qk ["self","low","high"] ["self","low","high"] (qe zp):=⟨rfl,rfl,rfl,by decide +kernel,rfl,by decide +kernel,by decide +kernel⟩
abbrev ZO:Stmt:=qF (top 9) 0
theorem Jy:qk ["self","found"] ["self","found"] (qe ZO):=⟨rfl,rfl,rfl,by decide +kernel,rfl,by decide +kernel,by decide +kernel⟩
abbrev Zi:Stmt:=qF (top 2) 0
theorem j4:qk ["self","text"] ["self","text"] (qe Zi):=⟨rfl,rfl,rfl,by decide +kernel,rfl,by decide +kernel,by decide +kernel⟩
set_option genInjectivity false in
structure Ad where
 k_on_days:Addr
 t_on_days:Addr
 k_daily:Addr
 t_daily:Addr
 k_opposite:Addr
 t_opposite:Addr
 k_Lsieve:Addr
 t_Lsieve:Addr
 k_Lnoting:Addr
 t_Lnoting:Addr
 c_LogError:Addr
 c_NoSpans:Addr
 c_NoTable:Addr
 c_TooMany:Addr
 c_NoMoment:Addr
 c_NoReading:Addr
 c_NoName:Addr
 c_NoPlace:Addr
 c_NoEntry:Addr
 c_Entry:Addr
 c_Within:Addr
 c_At:Addr
 c_Between:Addr
 c_Read:Addr
 c_Sifted:Addr
 c_Table:Addr
 f_d:Addr
 fd_d:FuncData
 f_b:Addr
 fd_b:FuncData
 f_j:Addr
 fd_j:FuncData
 f_e:Addr
 fd_e:FuncData
 f_D:Addr
 fd_D:FuncData
 f_E:Addr
 fd_E:FuncData
 f_F:Addr
 fd_F:FuncData
 f_c:Addr
 fd_c:FuncData
 f_G:Addr
 fd_G:FuncData
 f_k:Addr
 fd_k:FuncData
 f_p:Addr
 fd_p:FuncData
 f_r:Addr
 fd_r:FuncData
 f_H:Addr
 fd_H:FuncData
 f_y:Addr
 fd_y:FuncData
 f_z:Addr
 fd_z:FuncData
 f_A:Addr
 fd_A:FuncData
 f_I:Addr
 fd_I:FuncData
 f_J:Addr
 fd_J:FuncData
 f_K:Addr
 fd_K:FuncData
 f_L:Addr
 fd_L:FuncData
 f_s:Addr
 fd_s:FuncData
 f_M:Addr
 fd_M:FuncData
 f_a:Addr
 fd_a:FuncData
 f_N:Addr
 fd_N:FuncData
 f_u:Addr
 fd_u:FuncData
 f_O:Addr
 fd_O:FuncData
 f_l:Addr
 fd_l:FuncData
 f_f:Addr
 fd_f:FuncData
 f_P:Addr
 fd_P:FuncData
 f_v:Addr
 fd_v:FuncData
 f_Q:Addr
 fd_Q:FuncData
 f_R:Addr
 fd_R:FuncData
 f_w:Addr
 fd_w:FuncData
 f_m:Addr
 fd_m:FuncData
 f_B:Addr
 fd_B:FuncData
 f_C:Addr
 fd_C:FuncData
 f_S:Addr
 fd_S:FuncData
 f_T:Addr
 fd_T:FuncData
 f_U:Addr
 fd_U:FuncData
 f_aa:Addr
 fd_aa:FuncData
 f_g:Addr
 fd_g:FuncData
 f_ab:Addr
 fd_ab:FuncData
 f_x:Addr
 fd_x:FuncData
 f_ac:Addr
 fd_ac:FuncData
 f_n:Addr
 fd_n:FuncData
 f_W:Addr
 fd_W:FuncData
 f_h:Addr
 fd_h:FuncData
 f_X:Addr
 fd_X:FuncData
 f_Y:Addr
 fd_Y:FuncData
 f_V:Addr
 fd_V:FuncData
 f_ad:Addr
 fd_ad:FuncData
 f_Z:Addr
 fd_Z:FuncData
 f_0:Addr
 fd_0:FuncData
 f_1:Addr
 fd_1:FuncData
 f_2:Addr
 fd_2:FuncData
 f_3:Addr
 fd_3:FuncData
 f_4:Addr
 fd_4:FuncData
 f_5:Addr
 fd_5:FuncData
 f_i:Addr
 fd_i:FuncData
 f_o:Addr
 fd_o:FuncData
 f_6:Addr
 fd_6:FuncData
 f_7:Addr
 fd_7:FuncData
 f_8:Addr
 fd_8:FuncData
 f_9:Addr
 fd_9:FuncData
structure DfM (K:Frag) (C:Addr) (x q:Str) (st:Stmt) (ps:List Str) (f:Addr) (fd:FuncData):Prop where
 F:Fun K x q st f fd
 b:Binds K fd ps []
 mt:qf5 K C x f
structure Txt (K:Frag) (mg:Str->Option Value) (a:Ad):Prop where
 d_d:Df K mg "is_number" JC ["thing"] a.f_d a.fd_d
 d_b:Df K mg "is_whole" qaC ["thing","low","high"] a.f_b a.fd_b
 d_j:Df K mg "is_moment" JD ["thing"] a.f_j a.fd_j
 d_e:Df K mg "is_reading" jM ["thing"] a.f_e a.fd_e
 d_D:Df K mg "is_name" qbE ["thing"] a.f_D a.fd_D
 d_E:Df K mg "is_stretch" jL ["thing"] a.f_E a.fd_E
 d_F:Df K mg "check_stretches" QE ["stretches"] a.f_F a.fd_F
 d_c:Df K mg "spans_of" qaB ["stretches"] a.f_c a.fd_c
 d_G:Df K mg "how_many" qaD ["spans"] a.f_G a.fd_G
 d_k:Df K mg "check_name" jP ["thing"] a.f_k a.fd_k
 d_p:Df K mg "check_moment" ZK ["thing"] a.f_p a.fd_p
 d_r:Df K mg "check_reading" Zg ["thing"] a.f_r a.fd_r
 d_H:Df K mg "check_part" jO ["part"] a.f_H a.fd_H
 d_y:Df K mg "on_days" zb ["low","high"] a.f_y a.fd_y
 d_z:Df K mg "daily" qV ["low","high"] a.f_z a.fd_z
 d_A:Df K mg "opposite" qU ["keeps"] a.f_A a.fd_A
 d_I:Df K mg "is_row" qc4 ["thing","widest"] a.f_I a.fd_I
 d_J:Df K mg "may_stand" JB ["rows","place"] a.f_J a.fd_J
 d_K:Df K mg "check_rows" jN ["rows","most","widest"] a.f_K a.fd_K
 d_L:Df K mg "_law_cell" qeF ["_law_script","_law_k"] a.f_L a.fd_L
 d_s:Df K mg "_law_mix" qhy ["_law_cell_here","_law_k"] a.f_s a.fd_s
 d_M:Df K mg "_law_begun" qdb ["_law_cell_here"] a.f_M a.fd_M
 d_a:Df K mg "_law_pull" qeC ["_law_state","_law_many"] a.f_a a.fd_a
 d_N:Df K mg "_law_names" qc8 ["_law_state","_law_many"] a.f_N a.fd_N
 d_u:Df K mg "_law_shift" qc6 ["_law_state"] a.f_u a.fd_u
 d_O:Df K mg "_law_rows" qeB ["_law_state"] a.f_O a.fd_O
 d_l:Df K mg "_law_pieces" qbF ["_law_rows_here"] a.f_l a.fd_l
 d_f:Df K mg "_law_joined" qbG ["_law_stretches"] a.f_f a.fd_f
 d_P:Df K mg "_law_shown" qc5 ["_law_rows_here","_law_low","_law_high"] a.f_P a.fd_P
 d_v:Df K mg "_law_same" qez ["_law_found","_law_due"] a.f_v a.fd_v
 d_Q:Df K mg "_law_made" qeE ["_law_spec"] a.f_Q a.fd_Q
 d_R:Df K mg "_law_part" qeD ["_law_state","_law_name","_law_place","_law_rows_here"] a.f_R a.fd_R
 d_w:Df K mg "_law_rule" qeA ["_law_state","_law_near"] a.f_w a.fd_w
 d_m:Df K mg "_law_keeps" qda ["_law_rule_here","_law_moment"] a.f_m a.fd_m
 d_B:Df K mg "_law_sieve" zG ["_law_rule_here"] a.f_B a.fd_B
 d_C:Df K mg "_law_noting" zr ["_law_sieve_here","_law_asked"] a.f_C a.fd_C
 d_S:Df K mg "_law_told" qey ["_law_sieve_here","_law_rule_here","_law_contrary","_law_near"] a.f_S a.fd_S
 d_T:Df K mg "_law_lacks" qc9 ["_law_entry","_law_place","_law_other"] a.f_T a.fd_T
 d_U:Df K mg "_law_right" qc7 ["_law_state","_law_spec","_law_rows_here","_law_names_here"] a.f_U a.fd_U
 d_aa:Df K mg "law" qjw ["_law_script"] a.f_aa a.fd_aa
 d_g:DfM K a.c_Entry "__init__" "Entry.__init__" jR ["self","name"] a.f_g a.fd_g
 d_ab:DfM K a.c_Entry "word" "Entry.word" qbH ["self"] a.f_ab a.fd_ab
 d_x:DfM K a.c_Entry "places" "Entry.places" ZP ["self"] a.f_x a.fd_x
 d_ac:DfM K a.c_Entry "spans" "Entry.spans" qa5 ["self","tables"] a.f_ac a.fd_ac
 d_n:DfM K a.c_Within "__init__" "Within.__init__" Z8 ["self","name","low","high"] a.f_n a.fd_n
 d_W:DfM K a.c_Within "word" "Within.word" Z7 ["self"] a.f_W a.fd_W
 d_h:DfM K a.c_Within "spans" "Within.spans" ZL ["self","tables"] a.f_h a.fd_h
 d_X:DfM K a.c_At "__init__" "At.__init__" qbJ ["self","name","moment"] a.f_X a.fd_X
 d_Y:DfM K a.c_At "word" "At.word" qbI ["self"] a.f_Y a.fd_Y
 d_V:DfM K a.c_Between "__init__" "Between.__init__" ZQ ["self","name","place","low","high"] a.f_V a.fd_V
 d_ad:DfM K a.c_Between "word" "Between.word" qah ["self"] a.f_ad a.fd_ad
 d_Z:DfM K a.c_Between "places" "Between.places" QY ["self"] a.f_Z a.fd_Z
 d_0:DfM K a.c_Between "spans" "Between.spans" Zj ["self","tables"] a.f_0 a.fd_0
 d_1:DfM K a.c_Read "__init__" "Read.__init__" JF ["self","name","place","reading"] a.f_1 a.fd_1
 d_2:DfM K a.c_Read "word" "Read.word" JE ["self"] a.f_2 a.fd_2
 d_3:DfM K a.c_Sifted "__init__" "Sifted.__init__" ja ["self","name","part","keeps"] a.f_3 a.fd_3
 d_4:DfM K a.c_Sifted "word" "Sifted.word" Z9 ["self"] a.f_4 a.fd_4
 d_5:DfM K a.c_Sifted "places" "Sifted.places" Zh ["self"] a.f_5 a.fd_5
 d_i:DfM K a.c_Sifted "spans" "Sifted.spans" ZN ["self","tables"] a.f_i a.fd_i
 d_o:DfM K a.c_Table "__init__" "Table.__init__" jQ ["self","rows"] a.f_o a.fd_o
 d_6:DfM K a.c_Table "pieces" "Table.pieces" ZM ["self"] a.f_6 a.fd_6
 d_7:DfM K a.c_Table "moments_between" "Table.moments_between" zp ["self","low","high"] a.f_7 a.fd_7
 d_8:DfM K a.c_NoPlace "__init__" "NoPlace.__init__" ZO ["self","found"] a.f_8 a.fd_8
 d_9:DfM K a.c_LogError "__init__" "LogError.__init__" Zi ["self","text"] a.f_9 a.fd_9
 g_Entry:mg "Entry"=some (.ref a.c_Entry)
 cl_Entry:Cls K a.c_Entry
 M_Entry:Mk K a.c_Entry a.f_g
 n_Entry_name:NoAttr K a.c_Entry "name"
 g_Within:mg "Within"=some (.ref a.c_Within)
 cl_Within:Cls K a.c_Within
 M_Within:Mk K a.c_Within a.f_n
 n_Within_low:NoAttr K a.c_Within "low"
 n_Within_high:NoAttr K a.c_Within "high"
 n_Within_name:NoAttr K a.c_Within "name"
 g_At:mg "At"=some (.ref a.c_At)
 cl_At:Cls K a.c_At
 M_At:Mk K a.c_At a.f_X
 n_At_low:NoAttr K a.c_At "low"
 n_At_high:NoAttr K a.c_At "high"
 n_At_name:NoAttr K a.c_At "name"
 g_Between:mg "Between"=some (.ref a.c_Between)
 cl_Between:Cls K a.c_Between
 M_Between:Mk K a.c_Between a.f_V
 n_Between_place:NoAttr K a.c_Between "place"
 n_Between_low:NoAttr K a.c_Between "low"
 n_Between_high:NoAttr K a.c_Between "high"
 n_Between_name:NoAttr K a.c_Between "name"
 g_Read:mg "Read"=some (.ref a.c_Read)
 cl_Read:Cls K a.c_Read
 M_Read:Mk K a.c_Read a.f_1
 n_Read_place:NoAttr K a.c_Read "place"
 n_Read_low:NoAttr K a.c_Read "low"
 n_Read_high:NoAttr K a.c_Read "high"
 n_Read_name:NoAttr K a.c_Read "name"
 g_Sifted:mg "Sifted"=some (.ref a.c_Sifted)
 cl_Sifted:Cls K a.c_Sifted
 M_Sifted:Mk K a.c_Sifted a.f_3
 n_Sifted_part:NoAttr K a.c_Sifted "part"
 n_Sifted_keeps:NoAttr K a.c_Sifted "keeps"
 n_Sifted_name:NoAttr K a.c_Sifted "name"
 g_Table:mg "Table"=some (.ref a.c_Table)
 cl_Table:Cls K a.c_Table
 M_Table:Mk K a.c_Table a.f_o
 n_Table_kept:NoAttr K a.c_Table "kept"
 n_all:mg "all"=none
 n_bool:mg "bool"=none
 n_divmod:mg "divmod"=none
 n_enumerate:mg "enumerate"=none
 n_int:mg "int"=none
 n_isinstance:mg "isinstance"=none
 n_len:mg "len"=none
 n_list:mg "list"=none
 n_max:mg "max"=none
 n_min:mg "min"=none
 n_range:mg "range"=none
 n_set:mg "set"=none
 n_sorted:mg "sorted"=none
 n_str:mg "str"=none
 n_sum:mg "sum"=none
 n_tuple:mg "tuple"=none
 n_zip:mg "zip"=none
 g_LAST:∃ t,mg "LAST"=some (.int 1000000000 t)
 g_WIDEST_READING:∃ t,mg "WIDEST_READING"=some (.int 10000000000 t)
 g_LONGEST_NAME:∃ t,mg "LONGEST_NAME"=some (.int 8 t)
 g_MOST_SIFTED:∃ t,mg "MOST_SIFTED"=some (.int 1000 t)
 g_DAY:∃ t,mg "DAY"=some (.int 1440 t)
 g_MOST_ROWS:∃ t,mg "MOST_ROWS"=some (.int 21 t)
 g_WIDEST_SHIFT:∃ t,mg "WIDEST_SHIFT"=some (.int 2880 t)
 n_ValueError:mg "ValueError"=none
 g_LogError:mg "LogError"=some (.ref a.c_LogError)
 g_NoSpans:mg "NoSpans"=some (.ref a.c_NoSpans)
 g_NoTable:mg "NoTable"=some (.ref a.c_NoTable)
 g_TooMany:mg "TooMany"=some (.ref a.c_TooMany)
 g_NoMoment:mg "NoMoment"=some (.ref a.c_NoMoment)
 g_NoReading:mg "NoReading"=some (.ref a.c_NoReading)
 g_NoName:mg "NoName"=some (.ref a.c_NoName)
 g_NoPlace:mg "NoPlace"=some (.ref a.c_NoPlace)
 g_NoEntry:mg "NoEntry"=some (.ref a.c_NoEntry)
 xl_LogError:xIn K a.c_LogError=true
 ci_LogError:qf7 K a.c_LogError a.f_9
 X_NoPlace:XMk K a.c_NoPlace a.f_8
 up_NoPlace:PySem.W.mroIn K a.c_NoPlace (.ref a.c_LogError)=some true
 n_NoPlace_found:NoAttr K a.c_NoPlace "found"
 is_NoPlace_NoPlace:qjc K a.c_NoPlace (.ref a.c_NoPlace)=some true
 i_Within_places:qf5 K a.c_Within "places" a.f_x
 i_At_places:qf5 K a.c_At "places" a.f_x
 i_At_spans:qf5 K a.c_At "spans" a.f_h
 i_Read_places:qf5 K a.c_Read "places" a.f_Z
 i_Read_spans:qf5 K a.c_Read "spans" a.f_0
 ci_Entry:qf7 K a.c_Entry a.f_g
 ci_Within:qf7 K a.c_Within a.f_n
 ci_Between:qf7 K a.c_Between a.f_V
 mr_Entry:XMro K a.c_Entry [some a.c_Entry,none]
 io_Entry:InsF K a.c_Entry
 mr_Within:XMro K a.c_Within [some a.c_Within,some a.c_Entry,none]
 io_Within:InsF K a.c_Within
 mr_At:XMro K a.c_At [some a.c_At,some a.c_Within,some a.c_Entry,none]
 io_At:InsF K a.c_At
 mr_Between:XMro K a.c_Between [some a.c_Between,some a.c_Entry,none]
 io_Between:InsF K a.c_Between
 mr_Read:XMro K a.c_Read [some a.c_Read,some a.c_Between,some a.c_Entry,none]
 io_Read:InsF K a.c_Read
 mr_Sifted:XMro K a.c_Sifted [some a.c_Sifted,some a.c_Entry,none]
 io_Sifted:InsF K a.c_Sifted
 mr_Table:XMro K a.c_Table [some a.c_Table,none]
 io_Table:InsF K a.c_Table
 t_Entry:qhr K a.c_Entry
 t_Within:qhr K a.c_Within
 t_At:qhr K a.c_At
 t_Between:qhr K a.c_Between
 t_Read:qhr K a.c_Read
 t_Sifted:qhr K a.c_Sifted
 t_Table:qhr K a.c_Table
 ndc:([a.c_Entry,a.c_Within,a.c_At,a.c_Between,a.c_Read,a.c_Sifted,a.c_Table]:List Addr).Nodup
 cd_on_days:a.fd_y.code=.ref a.k_on_days
 hd_on_days:codeHdIn K a.k_on_days a.t_on_days=true
 cd_daily:a.fd_z.code=.ref a.k_daily
 hd_daily:codeHdIn K a.k_daily a.t_daily=true
 cd_opposite:a.fd_A.code=.ref a.k_opposite
 hd_opposite:codeHdIn K a.k_opposite a.t_opposite=true
 cd_Lsieve:a.fd_B.code=.ref a.k_Lsieve
 hd_Lsieve:codeHdIn K a.k_Lsieve a.t_Lsieve=true
 cd_Lnoting:a.fd_C.code=.ref a.k_Lnoting
 hd_Lnoting:codeHdIn K a.k_Lnoting a.t_Lnoting=true
 nt:[a.t_on_days,a.t_daily,a.t_opposite,a.t_Lsieve,a.t_Lnoting].Nodup
theorem Qu {α β:Type}{f:α->β}{xs:List α}{i:Nat}{y:β} (h:(xs.map f)[i]?=some y):∃ x,xs[i]?=some x∧y=f x:=by
 rw[List.getElem?_map]at h
 cases e:xs[i]? with
 | none=>rw[e]at h;cases h
 | some x=>rw[e]at h;exact⟨x,rfl,(Option.some.inj h).symm⟩
def Asc (rows:List (Int×Int)):Prop:=rows.Pairwise fun a b=>a.1 < b.1
def g2 (p:Int×Int):List Int:=[p.1,p.2]
abbrev pr:Int×Int->List V:=fun p=>(g2 p).map V.int
structure Good (rows:List (Int×Int)):Prop where
 few:rows.length≤21
 fst:∃ n,rows.head?=some (0,n)
 asc:Asc rows
 ok:∀ r∈rows,0≤r.1∧r.1≤1000000000∧-2880≤r.2∧r.2≤2880
structure Pa (rows:List (Int×Int)) (mo:Int):Prop where
 fst:(rows=[]∧mo=0)∨∃ n,rows.head?=some (0,n)
 asc:Asc rows
 top:∀ r∈rows,r.1≤mo
 ok:∀ r∈rows,0≤r.1∧-2880≤r.2∧r.2≤2880
theorem Pa.nil:Pa [] 0:=⟨.inl ⟨rfl,rfl⟩,List.Pairwise.nil,(fun r m=>nomatch m),(fun r m=>nomatch m)⟩
theorem Pa.snoc {rows:List (Int×Int)}{mo m s:Int} (h:Pa rows mo) (h0:rows=[]->m=0) (h1:rows≠[]->mo < m) (m0:0≤m) (s0:-2880≤s) (s1:s≤2880):Pa (rows++[(m,s)]) m:=by
 have lt:∀ r∈rows,r.1 < m:=fun r mr=>by
   have:=h.top r mr
   have:=h1 (fun e=>by rw[e]at mr;cases mr)
   omega
 refine⟨.inr ?_,List.pairwise_append.mpr ⟨h.asc,List.pairwise_singleton _ _,fun r mr b mb=>?_⟩,fun r mr=>?_,fun r mr=>?_⟩
 · cases rows with
   | nil=>exact⟨s,by rw[h0 rfl];rfl⟩
   | cons r rs =>
     rcases h.fst with z|⟨n,hn⟩
     · cases z.1
     · exact⟨n,by simpa using hn⟩
 · have e:b=(m,s):=by simpa using mb
   rw[e];exact lt r mr
 · rcases List.mem_append.mp mr with mr|mr
   · exact Int.le_of_lt (lt r mr)
   · have e:r=(m,s):=by simpa using mr
     rw[e];exact Int.le_refl _
 · rcases List.mem_append.mp mr with mr|mr
   · exact h.ok r mr
   · have e:r=(m,s):=by simpa using mr
     rw[e];exact⟨m0,s0,s1⟩
theorem Pa.good {rows:List (Int×Int)}{mo:Int} (h:Pa rows mo) (hm:mo≤1000000000) (h0:0 < rows.length) (h1:rows.length≤21):Good rows:=by
 refine⟨h1,?_,h.asc,fun r m=>?_⟩
 · rcases h.fst with z|z
   · rw[z.1]at h0;simp at h0
   · exact z
 · have:=h.ok r m
   have:=h.top r m
   omega
theorem Pa.far {rows:List (Int×Int)}{mo:Int}{l:Int×Int} (h:Pa rows mo) (hm:mo≤1000000000) (h0:1 < rows.length) (h1:rows.length≤21) (el:rows.getLast?=some l):Good (rows.set (rows.length - 1) (1000000000,l.2)):=by
 obtain⟨ys,rfl⟩:=List.getLast?_eq_some_iff.mp el
 have ey:(ys++[l]).set ((ys++[l]).length - 1) (1000000000,l.2)=ys++[(1000000000,l.2)]:=by
   rw[List.length_append];show (ys++[l]).set (ys.length+1 - 1) _=_;rw[Nat.add_sub_cancel,List.set_append_right _ _ (Nat.le_refl _),Nat.sub_self];rfl
 rw[ey];have hl:ys.length+1≤21:=by rw[List.length_append]at h1;exact h1
 have pos:0 < ys.length:=by rw[List.length_append]at h0;simp at h0;omega
 have okl:=h.ok l (by simp)
 have lt:∀ r∈ys,r.1 < 1000000000:=fun r mr=>by
   have h2:=(List.pairwise_append.mp h.asc).2.2 r mr l (by simp);have h3:=h.top l (by simp);have h4:r.1 < l.1:=h2;omega
 refine⟨by rw[List.length_append];exact hl,?_,List.pairwise_append.mpr ⟨(List.pairwise_append.mp h.asc).1,List.pairwise_singleton _ _,fun r mr b mb=>?_⟩,fun r mr=>?_⟩
 · rcases h.fst with z|⟨n,hn⟩
   · simp at z
   · cases ys with
     | nil=>simp at pos
     | cons r rs=>exact⟨n,by simpa using hn⟩
 · have e:b=(1000000000,l.2):=by simpa using mb
   rw[e];exact lt r mr
 · rcases List.mem_append.mp mr with mr|mr
   · have:=h.ok r (List.mem_append_left _ mr)
     have:=lt r mr
     omega
   · have e:r=(1000000000,l.2):=by simpa using mr
     rw[e];exact⟨(by show (0:Int)≤1000000000;decide),(by show (1000000000:Int)≤1000000000;decide),okl.2.1,okl.2.2⟩
theorem Qq {α:Type}{xs:List α}{x:α} (h:xs.getLast?=some x):atI xs (-1)=some x:=by
 have hne:0 < xs.length:=List.length_pos_iff.mpr (fun z=>by rw[z]at h;cases h);unfold atI ixN;rw[if_neg (by decide),if_pos (by omega)];show xs[((-1:Int)+(xs.length:Int)).toNat]?=_;rw[tn_ xs.length,← List.getLast?_eq_getElem?];exact h
theorem qbi {n:Nat} (h:0 < n):ixN n (-1)=some (n - 1):=by
 unfold ixN;rw[if_neg (by decide),if_pos (by omega)];rw[tn_ n]
theorem TupL.last {H:Hp}{zs:List V}{ps:List (Int×Int)}{p:Int×Int} (h:TupL pr H zs ps) (e:ps.getLast?=some p):∃ t,zs.getLast?=some (.ref t)∧H t=some (.tup (pr p)):=by
 rw[List.getLast?_eq_getElem?]at e;obtain⟨t,h1,h2⟩:=h.at_ e;exact⟨t,by rw[List.getLast?_eq_getElem?,h.1];exact h1,h2⟩
theorem TupL.set {H:Hp}{zs:List V}{ps:List (Int×Int)}{i:Nat}{t:Addr}{p:Int×Int} (h:TupL pr H zs ps) (e:H t=some (.tup (pr p))):TupL pr H (zs.set i (.ref t)) (ps.set i p):=⟨by rw[List.length_set,List.length_set,h.1],fun j z y e1 e2=>by
 rw[List.getElem?_set]at e1 e2;by_cases hj:i=j
 · rw[if_pos hj]at e1 e2;split at e1
   · split at e2
     · cases e1;cases e2;exact⟨t,rfl,e⟩
     · cases e2
   · cases e1
 · rw[if_neg hj]at e1 e2
   exact h.2 j z y e1 e2⟩
inductive qlx (H:Hp) (q:Addr) (rows:List (Int×Int)):Prop
 | mk (zs:_) (h1:H q=some (.lst zs)) (h2:TupL pr H zs rows):qlx H q rows
def Rs (H:Hp) (q:Addr) (rows:List (Int×Int)):Prop:=qlx H q rows
inductive qay (K:Frag) (vs:List V) (H:Hp) (Q:VK):Prop
 | mk (a:Addr) (ns:List Int) (k:Int) (h1:vs=[.ref a,.int k]) (h2:SqL K H a (ns.map V.int)) (h3:0≤k) (h4:∀ c,Q (.int c) H):qay K vs H Q
def qc2 (K:Frag):Sp:=fun vs H Q _=>qay K vs H Q
inductive qbv (vs:List V) (H:Hp) (Q:VK):Prop
 | mk (c k:Int) (h1:vs=[.int c,.int k]) (h2:∀ n:Int,0≤n->n < 268435456->Q (.int n) H):qbv vs H Q
def qes:Sp:=fun vs H Q _=>qbv vs H Q
inductive Jv (vs:List V) (H:Hp) (Q:VK):Prop
 | mk (c:Int) (h1:vs=[.int c]) (h2:∀ (p:Addr) (A B:Int),H p=none->0≤A->Q (.ref p) (upd H p (.lst [.int A,.int B,.int 0]))):Jv vs H Q
def qbx:Sp:=fun vs H Q _=>Jv vs H Q
inductive qau (vs:List V) (H:Hp) (Q:VK):Prop
 | mk (p:Addr) (many:Int) (h1:vs=[.ref p,.int many]) (h2:PenAt H p) (h3:0 < many) (h4:many < 340282366920938463463374607431768211456) (h5:∀ (d:Int) (H':Hp),0≤d->d < many->But p H H'->PenAt H' p->Q (.int d) H'):qau vs H Q
def QO:Sp:=fun vs H Q _=>qau vs H Q
inductive Jp (vs:List V) (H:Hp) (Q:VK):Prop
 | mk (p:Addr) (h1:vs=[.ref p]) (h2:PenAt H p) (h3:∀ (d:Int) (H':Hp),-2880≤d->d≤2880->But p H H'->PenAt H' p->Q (.int d) H'):Jp vs H Q
def qbs:Sp:=fun vs H Q _=>Jp vs H Q
inductive qat (vs:List V) (H:Hp) (Q:VK):Prop
 | mk (p:Addr) (h1:vs=[.ref p]) (h2:PenAt H p) (h3:∀ (q:Addr) (rows:List (Int×Int)) (H':Hp),H q=none->But p H H'->PenAt H' p->Rs H' q rows->Good rows->Q (.ref q) H'):qat vs H Q
def qcZ:Sp:=fun vs H Q _=>qat vs H Q
theorem But.up {p:Addr}{H:Hp} (o:HO):But p H (upd H p o):=(But.refl p H).put o
section
variable {P:Program}{w:World}{K:Frag}{mg:Str->Option Value}{base:Heap}
theorem qiv {a:Ad} (T:Txt K mg a):qx P w K mg base CX0 1 a.f_s a.fd_s ["_law_cell_here","_law_k"] qes:=by
 refine T.d_s.F.ok sc_Lmix (fun vs H Q E h=>?_) (fun cdv A outer s H vs Q E hr h=>?_)
 · obtain⟨c,k,rfl,kk⟩:=h;rfl
 · obtain⟨c,k,rfl,kk⟩:=h;have hU:=hr.units
   refine⟨_,(qf (qA (i:=2) sc_Lmix.nd rfl (Or.inl rfl) (qo za (qo zV (qo zV (pv 0) (qo zJ qd (pv 1))) qd) qd))
     (qf (qA (i:=2) sc_Lmix.nd rfl (Or.inl rfl) (qo za (qo zJ (qo za (qo zJ (pv 2) (pv 2)) qd) qd) qd))
     (qg (qv (qo qa9 (qo za (qo zJ (pv 2) (qo zV (pv 2) qd)) qd) qd))))),?_⟩
   try dsimp only [qZ,Cx.nox]
   refine⟨_,rfl,_,rfl,_,_,rfl,rfl,.inl ⟨by decide,by decide⟩,.inl ⟨_,_,rfl,rfl,.inl ⟨_,_,rfl,rfl,_,_,rfl,rfl,(by show (0:Int) < _;decide),?_⟩⟩⟩;(try dsimp only);generalize hn:(c+7919 * k+12345) % 2147483629=n;have n0:0≤n:=by omega
   have n1:n < 2147483629:=by omega
   refine⟨_,rfl,_,rfl,_,_,rfl,rfl,.inl ⟨by omega,by omega⟩,_,_,rfl,rfl,(by show (0:Int) < _;decide),_,_,rfl,rfl,.inr ⟨by decide,by decide⟩,_,_,rfl,rfl,(by show (0:Int) < _;decide),?_⟩;(try dsimp only);generalize hm:n * n % 2147483587 * 48271 % 2147483549=m;have m0:0≤m:=by rw[← hm];exact Int.emod_nonneg _ (by decide)
   have m1:m < 2147483549:=by rw[← hm];exact Int.emod_lt_of_pos _ (by decide)
   refine⟨_,rfl,_,rfl,.inl ⟨_,_,rfl,rfl,_,_,rfl,rfl,.inl ⟨by omega,by omega⟩,_,_,rfl,rfl,(by show (0:Int) < _;decide),_,_,rfl,rfl,⟨by decide,by decide⟩,?_⟩⟩;(try dsimp only);generalize hz:m * (m+31) % 2147483543=z;have z0:0≤z:=by rw[← hz];exact Int.emod_nonneg _ (by decide)
   have z1:z < 2147483543:=by rw[← hz];exact Int.emod_lt_of_pos _ (by decide)
   exact kk _ (by omega) (by omega)
theorem qe6 {a:Ad} (T:Txt K mg a):qx P w K mg base CX0 1 a.f_M a.fd_M ["_law_cell_here"] qbx:=by
 refine T.d_M.F.ok qex (fun vs H Q E h=>?_) (fun cdv A outer s H vs Q E hr h=>?_)
 · obtain⟨c,rfl,kk⟩:=h;rfl
 · obtain⟨c,rfl,kk⟩:=h;refine⟨_,(qg (qv (qG (qa (ql (zg rfl) (by rfl) T.n_max zh (qa qd (qa (qo zI (pv 0) (qo Zp qd qd)) qc))) (qa (qo za (pv 0) qd) (qa qd qc)))))),?_⟩;(try dsimp only [qZ,Cx.nox]);refine⟨_,rfl,_,_,rfl,rfl,⟨by decide,by decide,by decide⟩,_,_,rfl,rfl,_,_,rfl,?_⟩;refine⟨_,rfl,_,_,rfl,rfl,(by show (0:Int) < _;decide),qp (Nat.le_of_ble_eq_true rfl),fun p fp=>?_⟩;exact kk p _ _ fp (by split<;>omega)
theorem Zy {a:Ad} (T:Txt K mg a):qx P w K mg base CX0 2 a.f_a a.fd_a ["_law_state","_law_many"] QO:=by
 have G_s:=qiv (P:=P) (w:=w) (base:=base) T;refine T.d_a.F.ok sc_Lpull (fun vs H Q E h=>?_) (fun cdv A outer s H vs Q E hr h=>?_)
 · obtain⟨p,many,rfl,⟨c,x,y,c0,hp⟩,m0,m1,kk⟩:=h;rfl
 · obtain⟨p,many,rfl,⟨c,x,y,c0,hp⟩,m0,m1,kk⟩:=h;have h_s:Room (1) _:=hr.mono (by decide)
   refine⟨_,(qf (qK (qy qeX (qC (r:=rIx K) qt (pv 0) qd (fun _ _=>rfl)) qd (qz _))
       (qf (qA (i:=2) sc_Lpull.nd rfl (Or.inl rfl) (qo za (qC (r:=rIx K) qt (pv 0) qd (fun _ _=>rfl)) (pv 1)))
       (qf (Zn (qo qgw (qC (r:=rIx K) qt (pv 0) qd (fun _ _=>rfl)) (pv 1)) (qbN (pv 0) qd Z6))
       (qg (qv (pv 2)))))
       qw)
     (qf (Zn (qo zV (qC (r:=rIx K) qt (pv 0) qd (fun _ _=>rfl)) qd) (qbN (pv 0) qd Z6))
     (qf (qA (i:=3) sc_Lpull.nd rfl (Or.inl rfl) (qj G_s h_s rfl T.d_s.m T.d_s.k T.d_s.b .nil qr (qa (qC (r:=rIx K) qt (pv 0) qd (fun _ _=>rfl)) (qa (qo zJ qd (qC (r:=rIx K) qt (pv 0) qd (fun _ _=>rfl))) qc))))
     (qf (qA (i:=4) sc_Lpull.nd rfl (Or.inl rfl) (qj G_s h_s rfl T.d_s.m T.d_s.k T.d_s.b .nil qr (qa (qC (r:=rIx K) qt (pv 0) qd (fun _ _=>rfl)) (qa (qo zV (qo zJ qd (qC (r:=rIx K) qt (pv 0) qd (fun _ _=>rfl))) qd) qc))))
     (qg (qv (qo za (qo zV (qo zJ (pv 3) qd) (pv 4)) (pv 1)))))))),?_⟩
   try dsimp only [qZ,Cx.nox]
   refine⟨_,rfl,.inl ⟨p,_,_,_,rfl,rfl,SqL.of hp,rfl,_,_,rfl,rfl,_,rfl,?_⟩⟩;refine ZW (fun hL=>?_) (fun hL=>?_)
   · refine⟨_,rfl,.inl ⟨p,_,_,_,rfl,rfl,SqL.of hp,rfl,_,rfl,_,_,rfl,rfl,m0,?_⟩⟩;refine⟨_,rfl,.inl ⟨p,_,_,_,rfl,rfl,SqL.of hp,rfl,_,rfl,_,_,rfl,rfl,⟨m0,m1⟩,_,rfl,p,_,_,0,rfl,rfl,hp,rfl,?_⟩⟩;refine⟨_,rfl,?_⟩;exact kk _ _ (Int.emod_nonneg _ (by omega)) (Int.emod_lt_of_pos _ m0) (But.up _) ⟨_,x,y,Int.ediv_nonneg c0 (by omega),qb⟩
   · refine⟨_,rfl,.inl ⟨p,_,_,_,rfl,rfl,SqL.of hp,rfl,.inl ⟨_,_,rfl,rfl,_,rfl,p,_,_,2,rfl,rfl,hp,rfl,?_⟩⟩⟩;have h1:(upd H p (.lst ([.int c,.int x,.int y].set 2 (.int (y+1))))) p=some (.lst [.int c,.int x,.int (y+1)]):=qb;have B:But p H (upd H p (.lst ([.int c,.int x,.int y].set 2 (.int (y+1))))):=But.up _;(try dsimp only);generalize upd H p (.lst ([.int c,.int x,.int y].set 2 (.int (y+1))))=G at h1 B ⊢;refine⟨_,rfl,.inl ⟨p,_,_,_,rfl,rfl,SqL.of h1,rfl,_,rfl,.inl ⟨p,_,_,_,rfl,rfl,SqL.of h1,rfl,_,_,rfl,rfl,.inl ⟨by decide,by decide⟩,_,_,rfl,fun n n0 n1=>?_⟩⟩⟩;refine⟨_,rfl,.inl ⟨p,_,_,_,rfl,rfl,SqL.of h1,rfl,_,rfl,.inl ⟨p,_,_,_,rfl,rfl,SqL.of h1,rfl,_,_,rfl,rfl,.inl ⟨by decide,by decide⟩,.inl ⟨_,_,rfl,rfl,_,_,rfl,fun k k0 k1=>?_⟩⟩⟩⟩;refine⟨_,rfl,_,_,rfl,rfl,.inr ⟨by decide,by decide⟩,_,rfl,.inl ⟨_,_,rfl,rfl,_,rfl,_,_,rfl,rfl,m0,?_⟩⟩;exact kk _ _ (Int.emod_nonneg _ (by omega)) (Int.emod_lt_of_pos _ m0) B ⟨c,x,y+1,c0,h1⟩
theorem qe2 {a:Ad} (T:Txt K mg a):qx P w K mg base CX0 3 a.f_u a.fd_u ["_law_state"] qbs:=by
 have G_a:=Zy (P:=P) (w:=w) (base:=base) T;refine T.d_u.F.ok sc_Lshift (fun vs H Q E h=>?_) (fun cdv A outer s H vs Q E hr h=>?_)
 · obtain⟨p,rfl,hp,kk⟩:=h;rfl
 · obtain⟨p,rfl,hp,kk⟩:=h;have hU:=hr.units;have h_a:Room (2) _:=hr.mono (by decide)
   refine⟨_,(qf (qA (i:=1) sc_Lshift.nd rfl (Or.inl rfl) (qj G_a h_a rfl T.d_a.m T.d_a.k T.d_a.b .nil qr (qa (pv 0) (qa qd qc))))
     (qf (qK (qy (uEq hU) (pv 1) qd (qz _))
       (qg (qv (qo zJ qd (qo zI (qj G_a h_a rfl T.d_a.m T.d_a.k T.d_a.b .nil qr (qa (pv 0) (qa qd qc))) qd))))
       qw)
     (qf (qK (qy (uEq hU) (pv 1) qd (qz _))
       (qg (qv (qo zI (qj G_a h_a rfl T.d_a.m T.d_a.k T.d_a.b .nil qr (qa (pv 0) (qa qd qc))) qd)))
       qw)
     (qg (qv (qo zI (qj G_a h_a rfl T.d_a.m T.d_a.k T.d_a.b .nil qr (qa (pv 0) (qa qd qc))) qd)))))),?_⟩
   try dsimp only [qZ,Cx.nox]
   refine⟨_,rfl,p,_,rfl,hp,by decide,by decide,fun w G1 w0 w1 B_G1 p_G1=>?_⟩;refine⟨_,rfl,.inl ⟨rfl,_,rfl,?_⟩⟩;refine ZW (fun g=>?_) (fun g=>?_)
   · refine⟨_,rfl,p,_,rfl,p_G1,by decide,by decide,fun d G2 d0 d1 B_G2 p_G2=>?_⟩;refine⟨_,_,rfl,rfl,_,_,rfl,rfl,.inl ⟨by decide,by decide⟩,?_⟩;exact kk _ _ (by omega) (by omega) (B_G1.trans B_G2) p_G2
   refine⟨_,rfl,.inl ⟨rfl,_,rfl,?_⟩⟩;refine ZW (fun g=>?_) (fun g=>?_)
   · refine⟨_,rfl,p,_,rfl,p_G1,by decide,by decide,fun d G2 d0 d1 B_G2 p_G2=>?_⟩;refine⟨_,_,rfl,rfl,?_⟩;exact kk _ _ (by omega) (by omega) (B_G1.trans B_G2) p_G2
   · refine⟨_,rfl,p,_,rfl,p_G1,by decide,by decide,fun d G2 d0 d1 B_G2 p_G2=>?_⟩;refine⟨_,_,rfl,rfl,?_⟩;exact kk _ _ (by omega) (by omega) (B_G1.trans B_G2) p_G2
end
theorem TupL.pen {H H':Hp}{p:Addr}{zs:List V}{ps:List (Int×Int)} (h:TupL pr H zs ps) (hp:PenAt H p) (b:But p H H'):TupL pr H' zs ps:=⟨h.1,fun j z y e1 e2=>by
 obtain⟨t,e,ht⟩:=h.2 j z y e1 e2;obtain⟨c,x,y',_,hq⟩:=hp
 exact⟨t,e,b _ _ ht (zd ht hq (by intro z;cases z))⟩⟩
section
variable {P:Program}{w:World}{K:Frag}{mg:Str->Option Value}{base:Heap}
theorem qgB {a:Ad} (T:Txt K mg a):qx P w K mg base CX0 4 a.f_O a.fd_O ["_law_state"] qcZ:=by
 have G_a:=Zy (P:=P) (w:=w) (base:=base) T;have G_u:=qe2 (P:=P) (w:=w) (base:=base) T;refine T.d_O.F.ok sc_Lrows (fun vs H Q E h=>?_) (fun cdv A outer s H vs Q E hr h=>?_)
 · obtain⟨p,rfl,hp,kk⟩:=h;rfl
 · obtain⟨p,rfl,hp,kk⟩:=h;have hU:=hr.units;have h_a:Room (2) _:=hr.mono (by decide);have h_u:Room (3) _:=hr.mono (by decide)
   refine⟨_,(@qf _ _ _ _ _ (by exact(@qA _ _ 1 _ _ _ _ (by exact sc_Lrows.nd) (by rfl) (by exact(Or.inl rfl)) (by exact(@qC _ _ _ _ _ _ (rIx K) (by exact qt) (by exact(@qG _ _ _ _ (by exact(@qa _ _ _ _ _ (by exact qd) (by exact(@qa _ _ _ _ _ (by exact qd) (by exact(@qa _ _ _ _ _ (by exact qd) (by exact(@qa _ _ _ _ _ (by exact qd) (by exact(@qa _ _ _ _ _ (by exact(qo Zp qd qd)) (by exact(@qc _)) (by rfl))) (by rfl))) (by rfl))) (by rfl))) (by rfl))))) (by exact(qj G_a h_a rfl T.d_a.m T.d_a.k T.d_a.b .nil qr (qa (pv 0) (qa qd qc)))) (by exact fun _ _=>rfl))) (by rfl) (by exact .inl rfl)))
     (by exact(@qf _ _ _ _ _ (by exact(qA (i:=2) sc_Lrows.nd rfl (Or.inl rfl) (qG (qa (q9 (qa qd (qa (qj G_u h_u rfl T.d_u.m T.d_u.k T.d_u.b .nil qr (qa (pv 0) qc)) qc))) qc))))
     (by exact(@qf _ _ _ _ _ (by exact(@QZ _ _ _ _ _ _ _ _ (by exact PassesOwn.never) (by rfl) (by exact(jc rfl T.n_range (qa (qj G_a h_a rfl T.d_a.m T.d_a.k T.d_a.b .nil qr (qa (pv 0) (qa (qC (r:=rIx K) qt (qG (qa qd (qa qd (qa qd (qa qd qc))))) (qj G_a h_a rfl T.d_a.m T.d_a.k T.d_a.b .nil qr (qa (pv 0) (qa qd qc))) (fun _ _=>rfl)) qc))) qc))) (by exact(qm (i:=3) (sc_Lrows.nd) rfl (Or.inl rfl)))
       (by exact(qg (qJ (qbP PySem.F.plainAttrs_list PySem.F.slot_list_append PySem.F.type_list_append Qf (pv 2) (qa (q9 (qa (qo zV (qo zV (qC (r:=rIx K) qt (qC (r:=rIx K) qt (pv 2) (jd Qi qd) (fun _ _=>rfl)) qd (fun _ _=>rfl)) qd) (qj G_a h_a rfl T.d_a.m T.d_a.k T.d_a.b .nil qr (qa (pv 0) (qa (qo zJ qd (pv 1)) qc)))) (qa (qj G_u h_u rfl T.d_u.m T.d_u.k T.d_u.b .nil qr (qa (pv 0) qc)) qc))) qc))))) (by intro _;rfl)))
     (by exact(qf (qK (PW.pt (qdg (qy qeX (ql zx (by rfl) T.n_len qT (qa (pv 2) qc)) qd (qz _)) (qcq (qy (uEq hU) (qj G_a h_a rfl T.d_a.m T.d_a.k T.d_a.b .nil qr (qa (pv 0) (qa qd qc))) qd (qz _)))))
       (qg (Zn (q9 (qa (qo Zp qd qd) (qa (qC (r:=rIx K) qt (qC (r:=rIx K) qt (pv 2) (jd Qi qd) (fun _ _=>rfl)) qd (fun _ _=>rfl)) qc))) (qbN (pv 2) (jd Qi qd) Z6)))
       qw)
     (qg (qv (pv 2)))))))))),?_⟩
   try dsimp only [qZ,Cx.nox]
   have p0:PenAt H p:=hp;have t0:But p H H:=But.refl p H;refine⟨_,_,rfl,rfl,⟨by decide,by decide,by decide⟩,(qp (Nat.le_of_ble_eq_true rfl)),fun l1 f_l1=>?_⟩;have n_l1:l1≠p:=p0.ne f_l1;have e_l1:(upd H l1 (.lst [.int 1,.int 4,.int 60,.int 1440,.int (10 ^ (7:Int).toNat)])) l1=some (.lst [.int 1,.int 4,.int 60,.int 1440,.int (10 ^ (7:Int).toNat)]):=qb;have p1:PenAt (upd H l1 (.lst [.int 1,.int 4,.int 60,.int 1440,.int (10 ^ (7:Int).toNat)])) p:=p0.upd n_l1 _;have u1:Same H (upd H l1 (.lst [.int 1,.int 4,.int 60,.int 1440,.int (10 ^ (7:Int).toNat)])):=Same.new _ f_l1;have t1:=t0.same u1;(try dsimp only);generalize upd H l1 (.lst [.int 1,.int 4,.int 60,.int 1440,.int (10 ^ (7:Int).toNat)])=G1 at e_l1 p1 u1 t1 ⊢;refine⟨_,rfl,p,_,rfl,p1,by decide,by decide,fun da G2 da0 da1 u2 p2=>?_⟩;have t2:=t1.trans u2;obtain⟨v,hv,mv⟩:=qaT (xs:=([.int 1,.int 4,.int 60,.int 1440,.int (10 ^ (7:Int).toNat)]:List V)) da0 da1
   obtain⟨u,rfl,ub0,ub1⟩:∃ u:Int,v=.int u∧1≤u∧u≤10000000:=by
     simp only[List.mem_cons,List.not_mem_nil,or_false]at mv;rcases mv with rfl|rfl|rfl|rfl|rfl<;>exact⟨_,rfl,by decide,by decide⟩
   refine .inl ⟨l1,_,_,_,rfl,rfl,SqL.of (u2 _ _ e_l1 n_l1),hv,?_⟩;refine⟨_,rfl,p,rfl,p2,fun sh G3 sh0 sh1 u3 p3=>?_⟩;have t3:=t2.trans u3;refine⟨(qp (Nat.le_of_ble_eq_true rfl)),fun t f_t=>?_⟩;have n_t:t≠p:=p3.ne f_t;have e_t:(upd G3 t (.tup [.int 0,.int sh])) t=some (.tup [.int 0,.int sh]):=qb;have p4:PenAt (upd G3 t (.tup [.int 0,.int sh])) p:=p3.upd n_t _;have u4:Same G3 (upd G3 t (.tup [.int 0,.int sh])):=Same.new _ f_t;have t4:=t3.same u4;(try dsimp only);generalize upd G3 t (.tup [.int 0,.int sh])=G4 at e_t p4 u4 t4 ⊢;refine⟨(qp (Nat.le_of_ble_eq_true rfl)),fun q f_q=>?_⟩;have n_q:q≠p:=p4.ne f_q;have e_q:(upd G4 q (.lst [.ref t])) q=some (.lst [.ref t]):=qb;have p5:PenAt (upd G4 q (.lst [.ref t])) p:=p4.upd n_q _;have u5:Same G4 (upd G4 q (.lst [.ref t])):=Same.new _ f_q;have t5:=t4.same u5;(try dsimp only);generalize upd G4 q (.lst [.ref t])=G5 at e_q p5 u5 t5 ⊢;have fqH:H q=none:=(t4).none f_q n_q
   have T0:TupL pr G5 [.ref t] [(0,sh)]:=by
     refine⟨rfl,fun j z y e1 e2=>?_⟩
     cases j with
     | zero=>cases e1;cases e2;exact⟨t,rfl,(u5 _ _ e_t)⟩
     | succ j=>cases e1
   have P0:Pa [(0,sh)] 0:=Pa.nil.snoc (fun _=>rfl) (fun z=>absurd rfl z) (by decide) (by omega) (by omega);clear u1 u2 u3 u4 u5 p0 p1 p2 p3 p4 t0 t1 t2 t3 t4 e_l1 e_t hv;(try unfold qE);(try dsimp only);refine zH (t:=qi4 _ _ _) (fun σ' H'=>∃ (s3:Option V) (zs:List V) (rows:List (Int×Int)) (mo:Int),σ'=[some (.ref p),some (.int u),some (.ref q),s3]∧But p H H'∧PenAt H' p∧H' q=some (.lst zs)∧TupL pr H' zs rows∧0 < rows.length∧rows.length≤21∧Pa rows mo∧mo≤900000000) (fun N hN=>?_) ?_;have t5':=t5
   · have p0:PenAt G5 p:=p5;have t0:But p G5 G5:=But.refl p G5;refine⟨_,rfl,(qp (Nat.le_of_ble_eq_true rfl)),fun l3 f_l3=>?_⟩;have n_l3:l3≠p:=p0.ne f_l3;have e_l3:(upd G5 l3 (.lst [.int 4,.int 4,.int 4,.int 21])) l3=some (.lst [.int 4,.int 4,.int 4,.int 21]):=qb;have p1:PenAt (upd G5 l3 (.lst [.int 4,.int 4,.int 4,.int 21])) p:=p0.upd n_l3 _;have u1:Same G5 (upd G5 l3 (.lst [.int 4,.int 4,.int 4,.int 21])):=Same.new _ f_l3;have t1:=t0.same u1;(try dsimp only);generalize upd G5 l3 (.lst [.int 4,.int 4,.int 4,.int 21])=G1 at e_l3 p1 u1 t1 ⊢;refine⟨_,rfl,p,_,rfl,p1,by decide,by decide,fun db G2 db0 db1 u2 p2=>?_⟩;have t2:=t1.trans u2;obtain⟨v,hv,mv⟩:=qaT (xs:=([.int 4,.int 4,.int 4,.int 21]:List V)) db0 db1
     obtain⟨m,rfl,m0,m1⟩:∃ u:Int,v=.int u∧0 < u∧u≤21:=by
       simp only[List.mem_cons,List.not_mem_nil,or_false]at mv;rcases mv with rfl|rfl|rfl|rfl<;>exact⟨_,rfl,by decide,by decide⟩
     refine .inl ⟨l3,_,_,_,rfl,rfl,SqL.of (u2 _ _ e_l3 n_l3),hv,?_⟩;refine⟨p,_,rfl,p2,m0,by omega,fun dn G3 dn0 dn1 u3 p3=>?_⟩;have t3:=t2.trans u3;have B0:But p H G3:=t5'.trans t3;have hq0:=(u3 _ _ (u2 _ _ (u1 _ _ e_q) n_q) n_q)
     have T1:=(TupL.pen (TupL.pen (L2.TupL.same T0 u1) p1 u2) p2 u3)
     refine⟨_,rfl,by omega,by omega,JZ (lo:=0) (D:={ nx:=N,rt:=Q }) (fun i σ H2=>∃ (s3:Option V) (zs:List V) (rows:List (Int×Int)) (mo:Int),σ=[some (.ref p),some (.int u),some (.ref q),s3]∧But p H H2∧PenAt H2 p∧H2 q=some (.lst zs)∧TupL pr H2 zs rows∧rows.length=i+1∧Pa rows mo∧0≤mo∧mo≤30000000 * (i:Int)∧∃ s,rows.getLast?=some (mo,s)) ⟨_,_,_,0,rfl,B0,p3,hq0,T1,rfl,P0,Int.le_refl _,(by omega),sh,rfl⟩ ?_ ?_⟩
     · rintro i σ H2 hi ⟨s3,zs,rows,mo,rfl,B,pB,hq,tz,lr,pa,mo0,mo1,s,el⟩;obtain⟨t0,hz0,ht0⟩:=TupL.last tz el;have hi2:i < 21:=by omega
       refine⟨_,rfl,.inl ⟨rfl,_,SqL.of hq⟩,?_⟩;refine⟨_,rfl,_,rfl,.inl ⟨q,_,_,_,rfl,rfl,SqL.of hq,Qq hz0,.inr (.inl ⟨t0,_,_,_,rfl,rfl,SqT.of ht0,rfl,.inl ⟨_,_,rfl,rfl,?_⟩⟩)⟩⟩;refine⟨_,rfl,_,rfl,_,_,rfl,rfl,.inl ⟨by decide,by decide⟩,p,_,rfl,pB,by omega,by omega,fun d H3 d0 d1 B3 p3=>?_⟩;refine .inl ⟨_,_,rfl,rfl,_,rfl,p,rfl,p3,fun s2 H4 s20 s21 B4 p4=>?_⟩;have hq4:=B4 _ _ (B3 _ _ hq (n_q)) (n_q);have tz4:=TupL.pen (TupL.pen tz pB B3) p3 B4;refine⟨qp (Nat.le_of_ble_eq_true rfl),fun tt ft=>?_⟩;have ntp:tt≠p:=p4.ne ft;have St:=Same.new (.tup [.int (mo+1+d),.int s2]) ft;have hq5:=St _ _ hq4;refine⟨q,_,_,rfl,rfl,hq5,qB (by rw[tz.1];omega),?_⟩;refine⟨_,zs++[.ref tt],rows++[(mo+1+d,s2)],mo+1+d,rfl,?_,?_,qb,((tz4.same St).snoc (p:=(mo+1+d,s2)) qb).put hq5,by rw[List.length_append,lr];rfl,pa.snoc (fun z=>by rw[z]at lr;simp at lr) (fun _=>by omega) (by omega) (by omega) (by omega),by omega,by push_cast;omega,s2,by simp⟩
       · intro b o z nb
         have:=(B.trans (B3.trans B4)) b o z nb
         rw[qi (qh z fqH),qi (qh this ft)];exact this
       · exact(p4.upd ntp _).upd n_q _
     · rintro σ H2 ⟨s3,zs,rows,mo,rfl,B,pB,hq,tz,lr,pa,mo0,mo1,s,el⟩;exact hN _ _ ⟨s3,zs,rows,mo,rfl,B,pB,hq,tz,by omega,by omega,pa,by omega⟩
   rintro _ H2 ⟨s3,zs,rows,mo,rfl,B,pB,hq,tz,r0,r1,pa,mo1⟩;have e9:(10:Int) ^ (9:Int).toNat=1000000000:=by decide
   refine zH (t:=qkg _ _ _) (fun σ' H'=>∃ rows':List (Int×Int),σ'=[some (.ref p),some (.int u),some (.ref q),s3]∧But p H H'∧PenAt H' p∧Rs H' q rows'∧Good rows') (fun N hN=>?_) ?_
   · refine⟨_,rfl,_,_,rfl,.inl ⟨_,SqL.of hq,rfl⟩,_,_,rfl,rfl,_,rfl,ZW (fun g1=>?_) (fun g1=>qdu (hN _ _ ⟨rows,rfl,B,pB,⟨zs,hq,tz⟩,pa.good (by omega) r0 r1⟩))⟩;have g3:1 < rows.length:=by have:=tz.1;omega
     refine⟨_,rfl,p,_,rfl,pB,by decide,by decide,fun d H3 d0 d1 B3 p3=>?_⟩;have hq3:=B3 _ _ hq n_q;have tz3:=TupL.pen tz pB B3;refine .inl ⟨rfl,_,rfl,ZW (fun g2=>?_) (fun g2=>hN _ _ ⟨rows,rfl,B.trans B3,p3,⟨zs,hq3,tz3⟩,pa.good (by omega) r0 r1⟩)⟩
     cases el:rows.getLast? with
     | none =>
       rw[List.getLast?_eq_none_iff.mp el]at g3;simp at g3
     | some l =>
       obtain⟨t0,hz0,ht0⟩:=TupL.last tz3 el;refine⟨_,_,rfl,rfl,⟨by decide,by decide,by decide⟩,_,rfl,_,rfl,.inl ⟨q,_,_,_,rfl,rfl,SqL.of hq3,Qq hz0,.inr (.inl ⟨t0,_,_,_,rfl,rfl,SqT.of ht0,rfl,qp (Nat.le_of_ble_eq_true rfl),fun tt ft=>?_⟩)⟩⟩;(try dsimp only);rw[e9];have St:=Same.new (.tup [.int 1000000000,.int l.2]) ft;have ntp:tt≠p:=p3.ne ft;refine⟨_,rfl,_,rfl,q,_,_,zs.length - 1,rfl,rfl,St _ _ hq3,qbi (by rw[tz.1];omega),?_⟩;refine hN _ _ ⟨_,rfl,?_,(p3.upd ntp _).upd n_q _,⟨_,qb,(TupL.set (tz3.same St) (i:=zs.length - 1) (p:=(1000000000,l.2)) qb).put (St _ _ hq3)⟩,?_⟩
       · intro b o z nb
         have:=(B.trans B3) b o z nb
         rw[qi (qh z fqH),qi (qh this ft)];exact this
       · rw[tz.1];exact pa.far (by omega) g3 r1 el
   rintro _ G6 ⟨rows',rfl,B6,p6,R6,good6⟩;exact⟨_,rfl,kk q rows' G6 fqH B6 p6 R6 good6⟩
end
def sgn (c:Nat):Bool:=(!decide ((⟨#[c]⟩:Str).cps.toList < ("a":Str).cps.toList)) && (!decide (("z":Str).cps.toList < (⟨#[c]⟩:Str).cps.toList))
def ze:V->Bool
 | .str x=>decide (1≤x.length) && decide (x.length≤8) && x.cps.toList.all sgn
 | _=>false
theorem qeh {l:List Nat}{i c:Nat} (h:l[i]?=some c):l.take (i+1)=l.take i++[c]:=by
 rw[List.take_add_one,h];rfl
theorem qid {n:Nat} (h:n≤2000):n≤sizeLine:=Nat.le_trans h (by decide)
inductive ZF (vs:List V) (H:Hp) (Q:VK):Prop
 | mk (i:_) (h1:vs=[.int i]) (h2:Q (.bl true) H):ZF vs H Q
def Q4:Sp:=fun vs H Q _=>ZF vs H Q
inductive Z1 (vs:List V) (H:Hp) (Q:VK):Prop
 | mk (i lo hi:Int) (h1:vs=[.int i,.int lo,.int hi]) (h2:lo≤i) (h3:i≤hi) (h4:Q (.bl true) H):Z1 vs H Q
def QK:Sp:=fun vs H Q _=>Z1 vs H Q
inductive ZG (vs:List V) (H:Hp) (Q:VK):Prop
 | mk (i:Int) (h1:vs=[.int i]) (h2:0≤i) (h3:i≤1000000000) (h4:Q (.bl true) H):ZG vs H Q
def Q5:Sp:=fun vs H Q _=>ZG vs H Q
inductive Q3 (vs:List V) (H:Hp) (Q:VK):Prop
 | mk (i:Int) (h1:vs=[.int i]) (h2:-10000000000≤i) (h3:i≤10000000000) (h4:Q (.bl true) H):Q3 vs H Q
def QL:Sp:=fun vs H Q _=>Q3 vs H Q
inductive jF (vs:List V) (H:Hp) (Q:VK):Prop
 | mk (x:Str) (h1:vs=[.str x]) (h2:ze (.str x)=true) (h3:∀ H',Same H H'->Q (.bl true) H'):jF vs H Q
def qao:Sp:=fun vs H Q _=>jF vs H Q
inductive Q8 (vs:List V) (H:Hp) (Q:VK):Prop
 | mk (x:Str) (h1:vs=[.str x]) (h2:ze (.str x)=true) (h3:∀ H',Same H H'->Q .non H'):Q8 vs H Q
def QM:Sp:=fun vs H Q _=>Q8 vs H Q
inductive Qw (vs:List V) (H:Hp) (Q:VK):Prop
 | mk (i:Int) (h1:vs=[.int i]) (h2:0≤i) (h3:i≤1000000000) (h4:Q .non H):Qw vs H Q
def Q9:Sp:=fun vs H Q _=>Qw vs H Q
inductive Qk (vs:List V) (H:Hp) (Q:VK):Prop
 | mk (i:Int) (h1:vs=[.int i]) (h2:-10000000000≤i) (h3:i≤10000000000) (h4:Q .non H):Qk vs H Q
def QT:Sp:=fun vs H Q _=>Qk vs H Q
inductive Ze (K:Frag) (vs:List V) (H:Hp) (Q:VK):Prop
 | mk (x C dx:Addr) (nm:Str) (h1:vs=[.ref x,.str nm]) (h2:H x=some (.ins C dx [])) (h3:ze (.str nm)=true) (h4:Cls K C) (h5:NoAttr K C "name") (h6:∀ H',But x H H'->H' x=some (.ins C dx [("name",.str nm)])->Q .non H'):Ze K vs H Q
def zT (K:Frag):Sp:=fun vs H Q _=>Ze K vs H Q
inductive QU (K:Frag) (vs:List V) (H:Hp) (Q:VK):Prop
 | mk (x C dx:Addr) (nm:Str) (lo hi:Int) (h1:vs=[.ref x,.str nm,.int lo,.int hi]) (h2:H x=some (.ins C dx [])) (h3:ze (.str nm)=true) (h4:(0≤lo∧lo≤1000000000)) (h5:(0≤hi∧hi≤1000000000)) (h6:Cls K C) (h7:NoAttr K C "name") (h8:NoAttr K C "low") (h9:NoAttr K C "high") (h10:∀ H',But x H H'->H' x=some (.ins C dx [("name",.str nm),("low",.int lo),("high",.int hi)])->Q .non H'):QU K vs H Q
def Qs (K:Frag):Sp:=fun vs H Q _=>QU K vs H Q
inductive jK (a:Ad) (vs:List V) (H:Hp) (Q:VK):Prop
 | mk (x dx:Addr) (nm:Str) (m:Int) (h1:vs=[.ref x,.str nm,.int m]) (h2:H x=some (.ins a.c_At dx [])) (h3:ze (.str nm)=true) (h4:(0≤m∧m≤1000000000)) (h5:∀ H',But x H H'->H' x=some (.ins a.c_At dx [("name",.str nm),("low",.int m),("high",.int m)])->Q .non H'):jK a vs H Q
def qaz (a:Ad):Sp:=fun vs H Q _=>jK a vs H Q
inductive QC (K:Frag) (vs:List V) (H:Hp) (Q:VK):Prop
 | mk (x C dx:Addr) (nm pl:Str) (lo hi:Int) (h1:vs=[.ref x,.str nm,.str pl,.int lo,.int hi]) (h2:H x=some (.ins C dx [])) (h3:ze (.str nm)=true) (h4:ze (.str pl)=true) (h5:(-10000000000≤lo∧lo≤10000000000)) (h6:(-10000000000≤hi∧hi≤10000000000)) (h7:Cls K C) (h8:NoAttr K C "name") (h9:NoAttr K C "place") (h10:NoAttr K C "low") (h11:NoAttr K C "high") (h12:∀ H',But x H H'->H' x=some (.ins C dx [("name",.str nm),("place",.str pl),("low",.int lo),("high",.int hi)])->Q .non H'):QC K vs H Q
def Zf (K:Frag):Sp:=fun vs H Q _=>QC K vs H Q
inductive ZJ (a:Ad) (vs:List V) (H:Hp) (Q:VK):Prop
 | mk (x dx:Addr) (nm pl:Str) (m:Int) (h1:vs=[.ref x,.str nm,.str pl,.int m]) (h2:H x=some (.ins a.c_Read dx [])) (h3:ze (.str nm)=true) (h4:ze (.str pl)=true) (h5:(-10000000000≤m∧m≤10000000000)) (h6:∀ H',But x H H'->H' x=some (.ins a.c_Read dx [("name",.str nm),("place",.str pl),("low",.int m),("high",.int m)])->Q .non H'):ZJ a vs H Q
def jG (a:Ad):Sp:=fun vs H Q _=>ZJ a vs H Q
def qc3 (w:Str):Sp:=fun vs H Q _=>∃ v:V,vs=[v]∧Q (.str w) H
abbrev Qr:Sp:=qc3 "within"
abbrev jt:Sp:=qc3 "at"
abbrev Zc:Sp:=qc3 "read"
inductive QB (vs:List V) (H:Hp) (Q:VK):Prop
 | mk (v:V) (h1:vs=[v]) (h2:∀ l,H l=none->Q (.ref l) (upd H l (.lst []))):QB vs H Q
def zo:Sp:=fun vs H Q _=>QB vs H Q
section
variable {P:Program}{w:World}{K:Frag}{mg:Str->Option Value}{base:Heap}
theorem jS {a:Ad} (T:Txt K mg a):qx P w K mg base CX0 1 a.f_d a.fd_d ["thing"] Q4:=by
 refine T.d_d.F.ok qbA (fun vs H Q E h=>?_) (fun cdv A outer s H vs Q E hr h=>?_)
 · obtain⟨i,rfl,kk⟩:=h;rfl
 · obtain⟨i,rfl,kk⟩:=h;refine⟨_,(qg (qv (qaH (ql zy (by rfl) T.n_isinstance qu (qa (pv 0) (qa (Qe (v:=.ty "int") rfl T.n_int qaa rfl) qc))) (qaG (qhJ (ql zy (by rfl) T.n_isinstance qu (qa (pv 0) (qa (Qe (v:=.ty "bool") rfl T.n_bool jB rfl) qc)))))))),?_⟩;(try dsimp only [qZ,Cx.nox]);refine⟨_,rfl,_,_,_,rfl,(by decide),rfl,true,rfl,qf8 ?_⟩;exact⟨_,rfl,_,_,_,rfl,(by decide),rfl,false,rfl,kk⟩
theorem ZV {a:Ad} (T:Txt K mg a):qx P w K mg base CX0 2 a.f_b a.fd_b ["thing","low","high"] QK:=by
 have G_d:=jS (P:=P) (w:=w) (base:=base) T;refine T.d_b.F.ok qco (fun vs H Q E h=>?_) (fun cdv A outer s H vs Q E hr h=>?_)
 · obtain⟨i,lo,hi,rfl,h1,h2,kk⟩:=h;rfl
 · obtain⟨i,lo,hi,rfl,h1,h2,kk⟩:=h;have h_d:Room (1) _:=hr.mono (by decide);refine⟨_,(qg (qv (qaH (qj G_d h_d rfl T.d_d.m T.d_d.k T.d_d.b .nil qr (qa (pv 0) qc)) (qaG (Zx Qt Qt (pv 1) (pv 0) (pv 2)))))),?_⟩;(try dsimp only [qZ,Cx.nox]);refine⟨_,rfl,i,rfl,true,rfl,qf8 ?_⟩;refine⟨_,rfl,_,rfl,_,_,rfl,rfl,_,rfl,ZW (fun _=>?_) (fun g=>absurd h1 g)⟩;refine⟨_,rfl,_,_,rfl,rfl,?_⟩;show Q (.bl (decide (i≤hi))) H;rw[decide_eq_true h2];exact kk
theorem jT {a:Ad} (T:Txt K mg a):qx P w K mg base CX0 3 a.f_j a.fd_j ["thing"] Q5:=by
 have G_b:=ZV (P:=P) (w:=w) (base:=base) T;refine T.d_j.F.ok qbB (fun vs H Q E h=>?_) (fun cdv A outer s H vs Q E hr h=>?_)
 · obtain⟨i,rfl,h1,h2,kk⟩:=h;rfl
 · obtain⟨i,rfl,h1,h2,kk⟩:=h;have h_b:Room (2) _:=hr.mono (by decide);obtain⟨t_LAST,c_LAST⟩:=T.g_LAST;refine⟨_,(qg (qv (qj G_b h_b rfl T.d_b.m T.d_b.k T.d_b.b .nil qr (qa (pv 0) (qa qd (qa (qY (v:=.int 1000000000) rfl c_LAST ⟨_,rfl⟩) qc)))))),?_⟩;(try dsimp only [qZ,Cx.nox]);exact⟨_,rfl,i,0,1000000000,rfl,h1,h2,kk⟩
theorem jg {a:Ad} (T:Txt K mg a):qx P w K mg base CX0 3 a.f_e a.fd_e ["thing"] QL:=by
 have G_b:=ZV (P:=P) (w:=w) (base:=base) T;refine T.d_e.F.ok qa1 (fun vs H Q E h=>?_) (fun cdv A outer s H vs Q E hr h=>?_)
 · obtain⟨i,rfl,h1,h2,kk⟩:=h;rfl
 · obtain⟨i,rfl,h1,h2,kk⟩:=h;have h_b:Room (2) _:=hr.mono (by decide);obtain⟨t_WIDEST_READING,c_WIDEST_READING⟩:=T.g_WIDEST_READING;refine⟨_,(qg (qv (qj G_b h_b rfl T.d_b.m T.d_b.k T.d_b.b .nil qr (qa (pv 0) (qa (jd Qi (qY (v:=.int 10000000000) rfl c_WIDEST_READING ⟨_,rfl⟩)) (qa (qY (v:=.int 10000000000) rfl c_WIDEST_READING ⟨_,rfl⟩) qc)))))),?_⟩;(try dsimp only [qZ,Cx.nox]);exact⟨_,rfl,_,rfl,i,-10000000000,10000000000,rfl,h1,h2,kk⟩
theorem qdT {a:Ad} (T:Txt K mg a):qx P w K mg base CX0 1 a.f_D a.fd_D ["thing"] qao:=by
 refine T.d_D.F.ok qdM (fun vs H Q E h=>?_) (fun cdv A outer s H vs Q E hr h=>?_)
 · obtain⟨x,rfl,ok,k⟩:=h;rfl
 · obtain⟨x,rfl,ok,k⟩:=h;obtain⟨t_LONGEST_NAME,c_LONGEST_NAME⟩:=T.g_LONGEST_NAME
   refine⟨_,(qf (qK (PW.pt (jv (qX (qP (ql zy (by rfl) T.n_isinstance qu (qa (pv 0) (qa (Qe (v:=.ty "str") rfl T.n_str qfV rfl) qc))))) (Zk (qX (qgq Qt Qt qd (ql zx (by rfl) T.n_len qT (qa (pv 0) qc)) (qY (v:=.int 8) rfl c_LONGEST_NAME ⟨_,rfl⟩))))))
       (qg (qv ZT))
       qw)
     (qg (qv (ql (qfR rfl) (by rfl) T.n_all qfY (qa (zP rfl (CompOk.def ["sign"] [none]) (qjE (pv 0)) (fun _ _ _ _ _=>(qm (i:=0) (show List.Nodup (["sign"]:List Str) by decide +kernel) rfl (Or.inl rfl))) (fun _ _ _ _ _=>Qd) (fun _ _ _ _ _=>(Zx qbQ qbQ qH (pv 0) qH))) qc))))),?_⟩
   try dsimp only [qZ,Cx.nox]
   obtain⟨⟨l1,l8⟩,al⟩:(1≤x.length∧x.length≤8)∧x.cps.toList.all sgn=true:=by
     simp only[ze,Bool.and_eq_true,decide_eq_true_eq]at ok;exact ok
   have hx:x.length=x.cps.size:=rfl;refine⟨_,rfl,_,_,_,rfl,(by decide),rfl,true,rfl,zf rfl ?_⟩;refine⟨_,rfl,_,_,rfl,⟨qid (by omega),rfl⟩,_,_,rfl,rfl,_,rfl,?_⟩;refine ZW (fun h2=>?_) (fun h2=>absurd (by omega) h2);refine⟨_,_,rfl,rfl,_,rfl,?_⟩;refine qj2 (fun h3=>absurd (by omega) h3) (fun h3=>?_);refine⟨_,rfl,x,rfl,fun D fD=>?_⟩;refine qhh (x:=x) (D:=D) (fun i σ H2=>∃ (s0:Option V) (bs:List Bool),σ=[s0]∧Same H H2∧H2 D=some (.lst (bs.map V.bl))∧bs=(x.cps.toList.take i).map sgn) ⟨none,[],rfl,Same.new _ fD,qb,rfl⟩ ?_ ?_
   · rintro i c σ H2 hc ⟨s0,bs,rfl,s2,hD,hb⟩;obtain⟨hi,_⟩:=Array.getElem?_eq_some_iff.mp hc;have hcl:x.cps.toList[i]?=some c:=by simpa using hc
     have hbl:bs.length≤i:=by rw[hb,List.length_map,List.length_take];omega
     refine⟨_,rfl,_,_,rfl,rfl,_,rfl,?_⟩
     have fin:∀ v:Bool,v=sgn c->∃ ys,H2 D=some (.lst ys)∧ys.length < sizeLine∧∃ (s0:Option V) (bs:List Bool),[some (V.str ⟨#[c]⟩)]=[s0]∧Same H (upd H2 D (.lst (ys++[.bl v])))∧(upd H2 D (.lst (ys++[.bl v]))) D=some (.lst (bs.map V.bl))∧bs=(x.cps.toList.take (i+1)).map sgn:=fun v e =>
       ⟨_,hD,qB (by rw[List.length_map];omega),_,bs++[v],rfl,(fun b o z=>by rw[qi (qh z fD)];exact s2 b o z),by rw[qb,List.map_append];rfl,by rw[qeh hcl,List.map_append,← hb,e];rfl⟩
     refine qcE (fun h4=>?_) (fun h4=>?_)
     · refine⟨_,_,rfl,rfl,fin _ ?_⟩;unfold sgn;rw[h4,Bool.true_and]
     · refine fin _ ?_;unfold sgn;rw[h4,Bool.false_and]
   · rintro σ H2 ⟨s0,bs,rfl,s2,hD,hb⟩;refine⟨D,bs,rfl,SqL.of hD,?_⟩
     have e:bs.all id=true:=by
       rw[hb,List.all_map];refine List.all_eq_true.mpr fun c m=>?_;exact List.all_eq_true.mp al c (List.mem_of_mem_take m)
     first
       | (rw[e];exact k H2 s2)
       | (have:=k H2 s2;simpa[e] using this)
theorem ji {a:Ad} (T:Txt K mg a):qx P w K mg base CX0 2 a.f_k a.fd_k ["thing"] QM:=by
 have G_D:=qdT (P:=P) (w:=w) (base:=base) T;refine T.d_k.F.ok qa2 (fun vs H Q E h=>?_) (fun cdv A outer s H vs Q E hr h=>?_)
 · obtain⟨x,rfl,ok,k⟩:=h;rfl
 · obtain⟨x,rfl,ok,k⟩:=h;have h_D:Room (1) _:=hr.mono (by decide)
   refine⟨_,(qg (qK (qX (qP (qj G_D h_D rfl T.d_D.m T.d_D.k T.d_D.b .nil qr (qa (pv 0) qc))))
       (qg zi)
       qw)),?_⟩
   try dsimp only [qZ,Cx.nox]
   exact⟨_,rfl,x,rfl,ok,fun H1 S1=>⟨true,rfl,zf rfl (k H1 S1)⟩⟩
theorem JJ {a:Ad} (T:Txt K mg a):qx P w K mg base CX0 4 a.f_p a.fd_p ["thing"] Q9:=by
 have G_j:=jT (P:=P) (w:=w) (base:=base) T;refine T.d_p.F.ok Jw (fun vs H Q E h=>?_) (fun cdv A outer s H vs Q E hr h=>?_)
 · obtain⟨i,rfl,h1,h2,k⟩:=h;rfl
 · obtain⟨i,rfl,h1,h2,k⟩:=h;have h_j:Room (3) _:=hr.mono (by decide)
   refine⟨_,(qg (qK (qX (qP (qj G_j h_j rfl T.d_j.m T.d_j.k T.d_j.b .nil qr (qa (pv 0) qc))))
       (qg zi)
       qw)),?_⟩
   try dsimp only [qZ,Cx.nox]
   exact⟨_,rfl,i,rfl,h1,h2,true,rfl,zf rfl k⟩
theorem j6 {a:Ad} (T:Txt K mg a):qx P w K mg base CX0 4 a.f_r a.fd_r ["thing"] QT:=by
 have G_e:=jg (P:=P) (w:=w) (base:=base) T;refine T.d_r.F.ok jZ (fun vs H Q E h=>?_) (fun cdv A outer s H vs Q E hr h=>?_)
 · obtain⟨i,rfl,h1,h2,k⟩:=h;rfl
 · obtain⟨i,rfl,h1,h2,k⟩:=h;have h_e:Room (3) _:=hr.mono (by decide)
   refine⟨_,(qg (qK (qX (qP (qj G_e h_e rfl T.d_e.m T.d_e.k T.d_e.b .nil qr (qa (pv 0) qc))))
       (qg zi)
       qw)),?_⟩
   try dsimp only [qZ,Cx.nox]
   exact⟨_,rfl,i,rfl,h1,h2,true,rfl,zf rfl k⟩
theorem QQ {a:Ad} (T:Txt K mg a):qx P w K mg base CX0 3 a.f_g a.fd_g ["self","name"] (zT K):=by
 have G_k:=ji (P:=P) (w:=w) (base:=base) T;refine T.d_g.F.ok qa4 (fun vs H Q E h=>?_) (fun cdv A outer s H vs Q E hr h=>?_)
 · obtain⟨x,C,dx,nm,rfl,hx,ok,cl,na,k⟩:=h;rfl
 · obtain⟨x,C,dx,nm,rfl,hx,ok,cl,na,k⟩:=h;have h_k:Room (2) _:=hr.mono (by decide)
   refine⟨_,(qf (qJ (qj G_k h_k rfl T.d_k.m T.d_k.k T.d_k.b .nil qr (qa (pv 1) qc)))
     (qg (jb (pv 0) (pv 1) rfl))),?_⟩
   try dsimp only [qZ,Cx.nox]
   refine⟨_,rfl,nm,rfl,ok,fun H1 S1=>?_⟩;exact⟨_,rfl,_,rfl,x,C,dx,_,rfl,S1 _ _ hx,cl,na,(by decide),k _ (fun b o z nb=>by rw[qi nb];exact S1 b o z) qb⟩
theorem ZR {a:Ad} (T:Txt K mg a):qx P w K mg base CX0 5 a.f_n a.fd_n ["self","name","low","high"] (Qs K):=by
 have G_g:=QQ (P:=P) (w:=w) (base:=base) T;have G_p:=JJ (P:=P) (w:=w) (base:=base) T;refine T.d_n.F.ok qae (fun vs H Q E h=>?_) (fun cdv A outer s H vs Q E hr h=>?_)
 · obtain⟨x,C,dx,nm,lo,hi,rfl,hx,ok,hlo,hhi,cl,n1,n2,n3,k⟩:=h;rfl
 · obtain⟨x,C,dx,nm,lo,hi,rfl,hx,ok,hlo,hhi,cl,n1,n2,n3,k⟩:=h;have h_g:Room (3+1) _:=hr.mono (by decide);have h_p:Room (4) _:=hr.mono (by decide)
   refine⟨_,(qf (qJ (Zw T.ci_Entry G_g (h_g.mono (by decide)) T.d_g.b rfl T.g_Entry (qa (pv 0) (qa (pv 1) qc))))
     (qf (qJ (qj G_p h_p rfl T.d_p.m T.d_p.k T.d_p.b .nil qr (qa (pv 2) qc)))
     (qf (qJ (qj G_p h_p rfl T.d_p.m T.d_p.k T.d_p.b .nil qr (qa (pv 3) qc)))
     (qf (jb (pv 0) (pv 2) rfl)
     (qg (jb (pv 0) (pv 3) rfl)))))),?_⟩
   try dsimp only [qZ,Cx.nox]
   refine⟨_,rfl,_,rfl,x,C,dx,nm,rfl,hx,ok,cl,n1,fun H1 B1 h1=>?_⟩;refine⟨_,rfl,lo,rfl,hlo.1,hlo.2,?_⟩;refine⟨_,rfl,hi,rfl,hhi.1,hhi.2,?_⟩;refine⟨_,rfl,_,rfl,x,C,dx,_,rfl,h1,cl,n2,(by simp),?_⟩;refine⟨_,rfl,_,rfl,x,C,dx,_,rfl,qb,cl,n3,(Nat.le_of_ble_eq_true rfl),?_⟩;exact k _ ((B1.put _).put _) (by rw[qb];rfl)
theorem qdW {a:Ad} (T:Txt K mg a):qx P w K mg base CX0 7 a.f_X a.fd_X ["self","name","moment"] (qaz a):=by
 have G_n:=ZR (P:=P) (w:=w) (base:=base) T;refine T.d_X.F.ok qdO (fun vs H Q E h=>?_) (fun cdv A outer s H vs Q E hr h=>?_)
 · obtain⟨x,dx,nm,m,rfl,hx,ok,hm,k⟩:=h;rfl
 · obtain⟨x,dx,nm,m,rfl,hx,ok,hm,k⟩:=h;have h_n:Room (5+1) _:=hr.mono (by decide);refine⟨_,(qg (qJ (Zw T.ci_Within G_n (h_n.mono (by decide)) T.d_n.b rfl T.g_Within (qa (pv 0) (qa (pv 1) (qa (pv 2) (qa (pv 2) qc))))))),?_⟩;(try dsimp only [qZ,Cx.nox]);exact⟨_,rfl,_,rfl,_,rfl,_,rfl,x,a.c_At,dx,nm,m,m,rfl,hx,ok,hm,hm,T.cl_At,T.n_At_name,T.n_At_low,T.n_At_high,fun H1 B1 h1=>k H1 B1 h1⟩
theorem JO {a:Ad} (T:Txt K mg a):qx P w K mg base CX0 5 a.f_V a.fd_V ["self","name","place","low","high"] (Zf K):=by
 have G_g:=QQ (P:=P) (w:=w) (base:=base) T;have G_k:=ji (P:=P) (w:=w) (base:=base) T;have G_r:=j6 (P:=P) (w:=w) (base:=base) T;refine T.d_V.F.ok JA (fun vs H Q E h=>?_) (fun cdv A outer s H vs Q E hr h=>?_)
 · obtain⟨x,C,dx,nm,pl,lo,hi,rfl,hx,ok,okp,hlo,hhi,cl,n1,n2,n3,n4,k⟩:=h;rfl
 · obtain⟨x,C,dx,nm,pl,lo,hi,rfl,hx,ok,okp,hlo,hhi,cl,n1,n2,n3,n4,k⟩:=h;have h_g:Room (3+1) _:=hr.mono (by decide);have h_k:Room (2) _:=hr.mono (by decide);have h_r:Room (4) _:=hr.mono (by decide)
   refine⟨_,(qf (qJ (Zw T.ci_Entry G_g (h_g.mono (by decide)) T.d_g.b rfl T.g_Entry (qa (pv 0) (qa (pv 1) qc))))
     (qf (qJ (qj G_k h_k rfl T.d_k.m T.d_k.k T.d_k.b .nil qr (qa (pv 2) qc)))
     (qf (qJ (qj G_r h_r rfl T.d_r.m T.d_r.k T.d_r.b .nil qr (qa (pv 3) qc)))
     (qf (qJ (qj G_r h_r rfl T.d_r.m T.d_r.k T.d_r.b .nil qr (qa (pv 4) qc)))
     (qf (jb (pv 0) (pv 2) rfl)
     (qf (jb (pv 0) (pv 3) rfl)
     (qg (jb (pv 0) (pv 4) rfl)))))))),?_⟩
   try dsimp only [qZ,Cx.nox]
   refine⟨_,rfl,_,rfl,x,C,dx,nm,rfl,hx,ok,cl,n1,fun H1 B1 h1=>?_⟩;refine⟨_,rfl,pl,rfl,okp,fun H2 S2=>?_⟩;refine⟨_,rfl,lo,rfl,hlo.1,hlo.2,?_⟩;refine⟨_,rfl,hi,rfl,hhi.1,hhi.2,?_⟩;refine⟨_,rfl,_,rfl,x,C,dx,_,rfl,S2 _ _ h1,cl,n2,(by simp),?_⟩;refine⟨_,rfl,_,rfl,x,C,dx,_,rfl,qb,cl,n3,(Nat.le_of_ble_eq_true rfl),?_⟩;refine⟨_,rfl,_,rfl,x,C,dx,_,rfl,qb,cl,n4,(Nat.le_of_ble_eq_true rfl),?_⟩;exact k _ ((((B1.same S2).put _).put _).put _) (by rw[qb];rfl)
theorem qbT {a:Ad} (T:Txt K mg a):qx P w K mg base CX0 7 a.f_1 a.fd_1 ["self","name","place","reading"] (jG a):=by
 have G_V:=JO (P:=P) (w:=w) (base:=base) T;refine T.d_1.F.ok qbD (fun vs H Q E h=>?_) (fun cdv A outer s H vs Q E hr h=>?_)
 · obtain⟨x,dx,nm,pl,m,rfl,hx,ok,okp,hm,k⟩:=h;rfl
 · obtain⟨x,dx,nm,pl,m,rfl,hx,ok,okp,hm,k⟩:=h;have h_V:Room (5+1) _:=hr.mono (by decide);refine⟨_,(qg (qJ (Zw T.ci_Between G_V (h_V.mono (by decide)) T.d_V.b rfl T.g_Between (qa (pv 0) (qa (pv 1) (qa (pv 2) (qa (pv 3) (qa (pv 3) qc)))))))),?_⟩;(try dsimp only [qZ,Cx.nox]);exact⟨_,rfl,_,rfl,_,rfl,_,rfl,_,rfl,x,a.c_Read,dx,nm,pl,m,m,rfl,hx,ok,okp,hm,hm,T.cl_Read,T.n_Read_name,T.n_Read_place,T.n_Read_low,T.n_Read_high,fun H1 B1 h1=>k H1 B1 h1⟩
theorem qaj {a:Ad} (T:Txt K mg a):qx P w K mg base CX0 1 a.f_W a.fd_W ["self"] Qr:=by
 refine T.d_W.F.ok qad (fun vs H Q E h=>?_) (fun cdv A outer s H vs Q E hr h=>?_)
 · obtain⟨v,rfl,k⟩:=h;rfl
 · obtain⟨v,rfl,k⟩:=h;refine⟨_,(qg (qv qH)),?_⟩;(try dsimp only [qZ,Cx.nox]);exact k
theorem qdV {a:Ad} (T:Txt K mg a):qx P w K mg base CX0 1 a.f_Y a.fd_Y ["self"] jt:=by
 refine T.d_Y.F.ok qdN (fun vs H Q E h=>?_) (fun cdv A outer s H vs Q E hr h=>?_)
 · obtain⟨v,rfl,k⟩:=h;rfl
 · obtain⟨v,rfl,k⟩:=h;refine⟨_,(qg (qv qH)),?_⟩;(try dsimp only [qZ,Cx.nox]);exact k
theorem qbS {a:Ad} (T:Txt K mg a):qx P w K mg base CX0 1 a.f_2 a.fd_2 ["self"] Zc:=by
 refine T.d_2.F.ok qbC (fun vs H Q E h=>?_) (fun cdv A outer s H vs Q E hr h=>?_)
 · obtain⟨v,rfl,k⟩:=h;rfl
 · obtain⟨v,rfl,k⟩:=h;refine⟨_,(qg (qv qH)),?_⟩;(try dsimp only [qZ,Cx.nox]);exact k
theorem JN {a:Ad} (T:Txt K mg a):qx P w K mg base CX0 1 a.f_x a.fd_x ["self"] zo:=by
 refine T.d_x.F.ok Jz (fun vs H Q E h=>?_) (fun cdv A outer s H vs Q E hr h=>?_)
 · obtain⟨v,rfl,k⟩:=h;rfl
 · obtain⟨v,rfl,k⟩:=h;refine⟨_,(qg (qv (qG qc))),?_⟩;(try dsimp only [qZ,Cx.nox]);exact⟨Nat.zero_le _,fun l f=>k l f⟩
end
inductive Spc:Str->Str->Str->Int->Int->Prop
 | any {nm:Str}:ze (.str nm)=true->Spc "any" nm "" 0 1000000000
 | within {nm:Str}{lo hi:Int}:ze (.str nm)=true->(0≤lo∧lo≤1000000000)->(0≤hi∧hi≤1000000000)->Spc "within" nm "" lo hi
 | at_ {nm:Str}{m:Int}:ze (.str nm)=true->(0≤m∧m≤1000000000)->Spc "at" nm "" m m
 | between {nm pl:Str}{lo hi:Int}:ze (.str nm)=true->ze (.str pl)=true->(-10000000000≤lo∧lo≤10000000000)->(-10000000000≤hi∧hi≤10000000000)->Spc "between" nm pl lo hi
 | read {nm pl:Str}{m:Int}:ze (.str nm)=true->ze (.str pl)=true->(-10000000000≤m∧m≤10000000000)->Spc "read" nm pl m m
inductive En (a:Ad) (H:Hp) (x:Addr):Str->Str->Str->Int->Int->Prop
 | any {dx:Addr}{nm:Str}:H x=some (.ins a.c_Entry dx [("name",.str nm)])->En a H x "any" nm "" 0 1000000000
 | within {dx:Addr}{nm:Str}{lo hi:Int}:H x=some (.ins a.c_Within dx [("name",.str nm),("low",.int lo),("high",.int hi)])->En a H x "within" nm "" lo hi
 | at_ {dx:Addr}{nm:Str}{m:Int}:H x=some (.ins a.c_At dx [("name",.str nm),("low",.int m),("high",.int m)])->En a H x "at" nm "" m m
 | between {dx:Addr}{nm pl:Str}{lo hi:Int}:H x=some (.ins a.c_Between dx [("name",.str nm),("place",.str pl),("low",.int lo),("high",.int hi)])->En a H x "between" nm pl lo hi
 | read {dx:Addr}{nm pl:Str}{m:Int}:H x=some (.ins a.c_Read dx [("name",.str nm),("place",.str pl),("low",.int m),("high",.int m)])->En a H x "read" nm pl m m
theorem En.same {a:Ad}{H H':Hp} (s:Same H H') {x:Addr}{wd nm pl:Str}{lo hi:Int} (h:En a H x wd nm pl lo hi):En a H' x wd nm pl lo hi:=by
 cases h with
 | any e=>exact .any (s _ _ e)
 | within e=>exact .within (s _ _ e)
 | at_ e=>exact .at_ (s _ _ e)
 | between e=>exact .between (s _ _ e)
 | read e=>exact .read (s _ _ e)
def qkh (wd nm pl:Str) (lo hi:Int):List V:=[.str wd,.str nm,.str pl,.int lo,.int hi]
def W3 (wd:Str):Prop:=wd="read"∨wd="within"∨wd="at"
inductive qax (a:Ad) (vs:List V) (H:Hp) (Q:VK):Prop
 | mk (s:Addr) (wd nm pl:Str) (lo hi:Int) (h1:vs=[.ref s]) (h2:H s=some (.tup (qkh wd nm pl lo hi))) (h3:Spc wd nm pl lo hi) (h4:W3 wd) (h5:∀ (x:Addr) (H':Hp),Same H H'->En a H' x wd nm pl lo hi->Q (.ref x) H'):qax a vs H Q
def qc1 (a:Ad):Sp:=fun vs H Q _=>qax a vs H Q
theorem zK {H H':Hp}{x dx C:Addr} (h1:H x=none) (h2:H dx=none) (b:But x (upd (upd H dx (.own x)) x (.ins C dx [])) H'):Same H H':=fun c o e=>by
 have n1:=qh e h1;have n2:=qh e h2;exact b c o (by rw[qi n1,qi n2];exact e) n1
section
variable {P:Program}{w:World}{K:Frag}{mg:Str->Option Value}{base:Heap}
theorem qgD {a:Ad} (T:Txt K mg a):qx P w K mg base CX0 9 a.f_Q a.fd_Q ["_law_spec"] (qc1 a):=by
 have G_1:=qbT (P:=P) (w:=w) (base:=base) T;have G_X:=qdW (P:=P) (w:=w) (base:=base) T;have G_n:=ZR (P:=P) (w:=w) (base:=base) T;refine T.d_Q.F.ok sc_Lmade (fun vs H Q E h=>?_) (fun cdv A outer s H vs Q E hr h=>?_)
 · obtain⟨s,wd,nm,pl,lo,hi,rfl,hs,sp,w3,kk⟩:=h;rfl
 · obtain⟨s,wd,nm,pl,lo,hi,rfl,hs,sp,w3,kk⟩:=h;have hU:=hr.units;have h_1:Room (7+1) _:=hr.mono (by decide);have h_X:Room (7+1) _:=hr.mono (by decide);have h_n:Room (5+1) _:=hr.mono (by decide)
   refine⟨_,(qf (Zn (pv 0) (zu rfl (qq (qm (i:=1) (sc_Lmade.nd) rfl (Or.inl rfl)) (qq (qm (i:=2) (sc_Lmade.nd) rfl (Or.inl rfl)) (qq (qm (i:=3) (sc_Lmade.nd) rfl (Or.inl rfl)) (qq (qm (i:=4) (sc_Lmade.nd) rfl (Or.inl rfl)) (qq (qm (i:=5) (sc_Lmade.nd) rfl (Or.inl rfl)) qR)))))))
     (qf (qK (qy (uEq hU) (pv 1) qH (qz _))
       (qg (qv (jw T.M_At G_X h_X rfl T.g_At T.d_X.b .nil qr (qa (pv 2) (qa (pv 4) qc)))))
       qw)
     (qf (qK (qy (uEq hU) (pv 1) qH (qz _))
       (qg (qv (jw T.M_Within G_n h_n rfl T.g_Within T.d_n.b .nil qr (qa (pv 2) (qa (pv 4) (qa (pv 5) qc))))))
       qw)
     (qg (qv (jw T.M_Read G_1 h_1 rfl T.g_Read T.d_1.b .nil qr (qa (pv 2) (qa (pv 3) (qa (pv 4) qc))))))))),?_⟩
   try dsimp only [qZ,Cx.nox]
   refine⟨_,rfl,s,_,rfl,SqT.of hs,rfl,_,_,rfl,_,_,rfl,_,_,rfl,_,_,rfl,_,_,rfl,rfl,?_⟩
   cases sp with
   | any ok=>exact absurd w3 (by unfold W3;decide)
   | within ok hlo hhi =>
     refine⟨_,rfl,.inl ⟨rfl,_,rfl,ZW (fun g=>absurd g (by decide)) (fun _=>?_)⟩⟩;refine⟨_,rfl,.inl ⟨rfl,_,rfl,ZW (fun _=>?_) (fun g=>absurd rfl g)⟩⟩;exact⟨_,rfl,_,rfl,_,rfl,fun x dx f1 f2 ne=>⟨x,_,dx,nm,_,_,rfl,qb,ok,hlo,hhi,T.cl_Within,T.n_Within_name,T.n_Within_low,T.n_Within_high,fun H1 B1 h1=>⟨rfl,kk x H1 (zK f1 f2 B1) (.within h1)⟩⟩⟩
   | at_ ok hm =>
     refine⟨_,rfl,.inl ⟨rfl,_,rfl,ZW (fun _=>?_) (fun g=>absurd rfl g)⟩⟩;exact⟨_,rfl,_,rfl,fun x dx f1 f2 ne=>⟨x,dx,nm,_,rfl,qb,ok,hm,fun H1 B1 h1=>⟨rfl,kk x H1 (zK f1 f2 B1) (.at_ h1)⟩⟩⟩
   | between ok okp hlo hhi=>exact absurd w3 (by unfold W3;decide)
   | read ok okp hm =>
     refine⟨_,rfl,.inl ⟨rfl,_,rfl,ZW (fun g=>absurd g (by decide)) (fun _=>?_)⟩⟩;refine⟨_,rfl,.inl ⟨rfl,_,rfl,ZW (fun g=>absurd g (by decide)) (fun _=>?_)⟩⟩;exact⟨_,rfl,_,rfl,_,rfl,fun x dx f1 f2 ne=>⟨x,dx,nm,pl,_,rfl,qb,ok,okp,hm,fun H1 B1 h1=>⟨rfl,kk x H1 (zK f1 f2 B1) (.read h1)⟩⟩⟩
end
theorem qhg {K:Frag}{a:Addr}{xs:List V}{g:TG}{tt:TT}{te:TE}{D:Addr}{Q:VK}{σ:L2.St}{H:Hp} (Pv:Nat->L2.St->Hp->Prop) (h0:Pv 0 σ H) (hl:∀ i σ H,i≤xs.length->Pv i σ H->SqT K H a xs)
   (hs:∀ i x σ H,xs[i]?=some x->Pv i σ H->g x σ H fun σ3 H3=>tt σ3 H3 fun ok H4=>if ok=true then te σ3 H4 fun y H5=>∃ ys,H5 D=some (.lst ys)∧ys.length < sizeLine∧Pv (i+1) σ3 (upd H5 D (.lst (ys++[y]))) else Pv (i+1) σ3 H4)
   (hd:∀ σ H,Pv xs.length σ H->Q (.ref D) H) :
   ZC (Itt K a) g tt te D Q σ H:=by
 refine⟨fun i m σ H=>m=xs.length - i∧i≤xs.length∧Pv i σ H,⟨xs.length,by simp,Nat.zero_le _,h0⟩,?_⟩;rintro i m σ H ⟨rfl,hi,p⟩;have q:=hl i σ H hi p;by_cases hlt:i < xs.length
 · refine .inr ⟨⟨xs,xs[i],q,by simp[hlt]⟩,Pv (i+1),fun σ' H' p'=>⟨xs.length - (i+1),by omega,rfl,hlt,p'⟩,fun v H' y=>?_⟩;obtain⟨e,y⟩:=y;subst e;exact hs i v σ _ (y xs q) p
 · have e:i=xs.length:=by omega
   subst e;exact .inl ⟨⟨xs,q,Nat.le_refl _⟩,hd σ H p⟩
def SrtOk (ws:List (Int×Int)):Prop:=ws.length < 64∨(ws.length≤1000∧(ws.map g2).Pairwise (fun a b=>QH b a=false))
theorem SrtOk.le {ws:List (Int×Int)} (h:SrtOk ws):ws.length≤1000:=by rcases h with h|h<;>omega
theorem SrtOk.filter {ws:List (Int×Int)} (h:SrtOk ws) (p:Int×Int->Bool):SrtOk (ws.filter p):=by
 have l:=List.length_filter_le p ws;rcases h with h|⟨h,k⟩
 · exact .inl (by omega)
 · exact .inr ⟨by omega,List.Pairwise.sublist (List.Sublist.map _ List.filter_sublist) k⟩
theorem SrtOk.one (w:Int×Int):SrtOk [w]:=.inl (Nat.le_of_ble_eq_true rfl)
theorem jX:bootBuiltins "sorted"=some (.builtin "sorted"):=by decide +kernel
theorem Rs.same {H H':Hp}{q:Addr}{rows:List (Int×Int)} (h:Rs H q rows) (s:Same H H'):Rs H' q rows:=by
 obtain⟨zs,h1,h2⟩:=h;exact⟨zs,s _ _ h1,h2.same s⟩
abbrev okw (w:Int×Int):Bool:=decide (w.1≤w.2)
theorem qcl {H:Hp}{zs:List V}{ws:List (Int×Int)} (h:TupL pr H zs ws):TupI H zs (ws.map g2):=by
 refine⟨by rw[List.length_map];exact h.1,fun i z r e1 e2=>?_⟩;obtain⟨p,hp,rfl⟩:=Qu e2;exact h.2 i z p e1 hp
theorem qe7 {H:Hp}{zs:List V}{ws:List (Int×Int)} (h:TupI H zs (ws.map g2)):TupL pr H zs ws :=
 ⟨by have:=h.len;rwa [List.length_map]at this,fun i z p e1 e2=>h.at_ i z (g2 p) e1 (by rw[List.getElem?_map,e2];rfl)⟩
theorem qdj {rs:List (List Int)}{fs:List (Int×Int)} (h:rs.Perm (fs.map g2)):∃ ss:List (Int×Int),rs=ss.map g2∧ss.Perm fs:=by
 refine⟨rs.map fun r=>(r.getD 0 0,r.getD 1 0),?_,?_⟩
 · rw[List.map_map];refine(List.map_id rs).symm.trans (List.map_congr_left fun r hr=>?_);obtain⟨p,_,rfl⟩:=List.mem_map.mp (h.mem_iff.mp hr);rfl
 · have:=h.map fun r=>(r.getD 0 0,r.getD 1 0)
   rw[List.map_map]at this
   rwa [show (fs.map ((fun r:List Int=>(r.getD 0 0,r.getD 1 0)) ∘ g2))=fs from (List.map_congr_left fun p _=>rfl).trans (List.map_id fs)]at this
theorem qhL {ss:List (Int×Int)} (h:(ss.map g2).Pairwise fun a b=>QH b a=false):ss.Pairwise fun a b=>a.1≤b.1:=by
 refine(List.pairwise_map.mp h).imp fun {a b} g=>?_;have g':QH [b.1,b.2] [a.1,a.2]=false:=g;unfold QH at g';by_cases e:b.1=a.1
 · omega
 · rw[if_neg e]at g'
   have:=of_decide_eq_false g'
   omega
theorem qhN (ws:List (Int×Int)) (n:Int):Mem (ws.filter okw) n↔Mem ws n:=by
 constructor
 · rintro⟨w,hw,h⟩;exact⟨w,(List.mem_filter.mp hw).1,h⟩
 · rintro⟨w,hw,h⟩;exact⟨w,List.mem_filter.mpr ⟨hw,decide_eq_true (by omega)⟩,h⟩
theorem qdo {ss fs:List (Int×Int)} (h:ss.Perm fs) (n:Int):Mem ss n↔Mem fs n :=
 ⟨fun⟨w,hw,k⟩=>⟨w,h.mem_iff.mp hw,k⟩,fun⟨w,hw,k⟩=>⟨w,h.mem_iff.mpr hw,k⟩⟩
theorem qb5 {acc:List (Int×Int)}{l w:Int×Int} (h:acc.getLast?=some l) (e:w.1≤l.2+1):Jd acc w=acc.set (acc.length - 1) (l.1,if w.2 > l.2 then w.2 else l.2):=by
 unfold Jd;rw[h];exact if_pos e
theorem qdw {acc:List (Int×Int)}{l w:Int×Int} (h:acc.getLast?=some l) (e:¬ w.1≤l.2+1):Jd acc w=acc++[w]:=by
 unfold Jd;rw[h];exact if_neg e
theorem qha (acc:List (Int×Int)) (w:Int×Int):(Jd acc w).length≤acc.length+1:=by
 unfold Jd;split
 · split
   · rw[List.length_set];omega
   · rw[List.length_append];exact Nat.le_refl _
 · simp
theorem qdx {ws:List (Int×Int)}{i:Nat}{w:Int×Int} (h:ws[i]?=some w):(ws.take (i+1)).foldl Jd []=Jd ((ws.take i).foldl Jd []) w:=by
 rw[List.take_add_one,h,List.foldl_append];rfl
theorem Zt (ws:List (Int×Int)):∀ i,((ws.take i).foldl Jd []).length≤i
 | 0=>by simp
 | i+1=>by
   cases h:ws[i]? with
   | none =>
     have:=Zt ws i
     rw[List.take_add_one,h];simp only[Option.toList,List.append_nil];omega
   | some w =>
     have:=Zt ws i
     have:=qha ((ws.take i).foldl Jd []) w
     rw[qdx h];omega
theorem qju {K:Frag}{H:Hp}{q:Addr}{zs:List V}{ws:List (Int×Int)}{Q:VK} (hq:SqL K H q zs) (tp:TupL pr H zs ws) (so:SrtOk ws)
   (k:∀ (p:Addr) (zs':List V) (rs':List (List Int)),H p=none->rs'.Perm (ws.map g2)->TupI H zs' rs'->rs'.Pairwise (fun a b=>QH b a=false)->Q (.ref p) (upd H p (.lst zs'))):qhA K [.ref q] H Q∨qhz K [.ref q] H Q:=by
 have h2:∀ r∈ws.map g2,r.length=2:=fun r hr=>by obtain⟨w,_,rfl⟩:=List.mem_map.mp hr;rfl
 rcases so with so|⟨_,up⟩
 · exact .inl ⟨q,zs,ws.map g2,2,rfl,hq,qcl tp,h2,(by decide),by rw[tp.1];exact so,k⟩
 · exact .inr ⟨q,zs,ws.map g2,2,rfl,hq,qcl tp,h2,(by decide),up,fun p fp=>k p zs _ fp (.refl _) (qcl tp) up⟩
inductive Q2 (vs:List V) (H:Hp) (Q:VK):Prop
 | mk (t:Addr) (r:Int×Int) (h1:vs=[.ref t]) (h2:H t=some (.tup (pr r))) (h3:Q (.bl true) H):Q2 vs H Q
def Z2:Sp:=fun vs H Q _=>Q2 vs H Q
inductive zS (vs:List V) (H:Hp) (Q:VK):Prop
 | mk (q:Addr) (ws:List (Int×Int)) (h1:vs=[.ref q]) (h2:Rs H q ws) (h3:∀ H',Same H H'->Q .non H'):zS vs H Q
def Qj:Sp:=fun vs H Q _=>zS vs H Q
inductive ZZ (vs:List V) (H:Hp) (Q:VK):Prop
 | mk (q:Addr) (ws:List (Int×Int)) (h1:vs=[.ref q]) (h2:Rs H q ws) (h3:SrtOk ws) (h4:∀ (d:Addr) (r:List (Int×Int)) (H':Hp),H d=none->Same H H'->Rs H' d r->zB r->r.length≤ws.length->(∀ n,Mem r n↔Mem ws n)->Q (.ref d) H'):ZZ vs H Q
def QJ:Sp:=fun vs H Q _=>ZZ vs H Q
section
variable {P:Program}{w:World}{K:Frag}{mg:Str->Option Value}{base:Heap}
theorem qba {a:Ad} (T:Txt K mg a):qx P w K mg base CX0 2 a.f_E a.fd_E ["thing"] Z2:=by
 have G_d:=jS (P:=P) (w:=w) (base:=base) T;refine T.d_E.F.ok qa0 (fun vs H Q E h=>?_) (fun cdv A outer s H vs Q E hr h=>?_)
 · obtain⟨t,r,rfl,ht,kk⟩:=h;rfl
 · obtain⟨t,r,rfl,ht,kk⟩:=h;have hU:=hr.units;have h_d:Room (1) _:=hr.mono (by decide);refine⟨_,(qg (qv (qaH (ql zy (by rfl) T.n_isinstance qu (qa (pv 0) (qa (Qe (v:=.ty "tuple") rfl T.n_tuple ZX rfl) qc))) (qaH (zv (uEq hU) (ql zx (by rfl) T.n_len qT (qa (pv 0) qc)) qd (qz _)) (qaH (qj G_d h_d rfl T.d_d.m T.d_d.k T.d_d.b .nil qr (qa (qC (r:=rIx K) qt (pv 0) qd (fun _ _=>rfl)) qc)) (qaG (qj G_d h_d rfl T.d_d.m T.d_d.k T.d_d.b .nil qr (qa (qC (r:=rIx K) qt (pv 0) qd (fun _ _=>rfl)) qc)))))))),?_⟩;(try dsimp only [qZ,Cx.nox]);have ty:tyN H (.ref t)=some "tuple":=by simp only[tyN];rw[ht]
   refine⟨_,rfl,_,_,_,rfl,(by decide),ty,_,rfl,qg6 rfl ?_⟩;refine⟨_,rfl,_,_,rfl,.inr ⟨_,SqT.of ht,rfl⟩,.inl ⟨rfl,_,rfl,qg6 (decide_eq_true rfl) ?_⟩⟩;refine⟨_,rfl,.inr (.inl ⟨t,_,_,_,rfl,rfl,SqT.of ht,rfl,_,rfl,true,rfl,qf8 ?_⟩)⟩;exact⟨_,rfl,.inr (.inl ⟨t,_,_,_,rfl,rfl,SqT.of ht,rfl,_,rfl,kk⟩)⟩
theorem jh {a:Ad} (T:Txt K mg a):qx P w K mg base CX0 3 a.f_F a.fd_F ["stretches"] Qj:=by
 have G_E:=qba (P:=P) (w:=w) (base:=base) T;refine T.d_F.F.ok sc_check_stretches (fun vs H Q E h=>?_) (fun cdv A outer s H vs Q E hr h=>?_)
 · obtain⟨q,ws,rfl,hrs,kk⟩:=h;rfl
 · obtain⟨q,ws,rfl,hrs,kk⟩:=h;have h_E:Room (2) _:=hr.mono (by decide)
   refine⟨_,(qf (qK (qX (qP (ql zy (by rfl) T.n_isinstance qu (qa (pv 0) (qa (Qe (v:=.ty "list") rfl T.n_list zZ rfl) qc)))))
       (qg zi)
       qw)
     (qg (QZ PassesOwn.never rfl (qeS rfl T.n_enumerate (qa (pv 0) qc)) (zu rfl (qq (qm (i:=1) (sc_check_stretches.nd) rfl (Or.inl rfl)) (qq (qm (i:=2) (sc_check_stretches.nd) rfl (Or.inl rfl)) qR)))
       (qg (qK (qX (qP (qj G_E h_E rfl T.d_E.m T.d_E.k T.d_E.b .nil qr (qa (pv 2) qc))))
         (qg zi)
         qw))))),?_⟩
   try dsimp only [qZ,Cx.nox]
   obtain⟨zs,hq,tp⟩:=id hrs;have ty:tyN H (.ref q)=some "list":=by simp only[tyN];rw[hq]
   refine⟨_,rfl,_,_,_,rfl,(by decide),ty,true,rfl,zf rfl ?_⟩;refine⟨_,rfl,q,rfl,⟨zs,SqL.of hq⟩,qdA (K:=K) (a:=q) (xs:=zs) (fun i σ H2=>∃ s1 s2:Option V,σ=[some (.ref q),s1,s2]∧Same H H2) ⟨none,none,rfl,Same.refl H⟩ (fun i σ H2 _ ⟨_,_,_,S⟩=>SqL.of (S _ _ hq)) ?_ ?_⟩
   · rintro i x σ H2 p hx ⟨s1,s2,rfl,S⟩ hn;have S2:Same H (upd H2 p (.tup [.int i,x])):=S.then _ hn
     obtain⟨r,t,hr',rfl,ht⟩:=tp.of hx;refine⟨p,_,rfl,SqT.of qb,rfl,_,_,rfl,_,_,rfl,rfl,?_⟩;exact⟨_,rfl,t,r,rfl,S2 _ _ ht,_,rfl,zf rfl ⟨_,_,rfl,S2⟩⟩
   · rintro σ H2 ⟨s1,s2,rfl,S⟩;exact kk H2 S
theorem ZU {a:Ad} (T:Txt K mg a):qx P w K mg base CX0 4 a.f_c a.fd_c ["stretches"] QJ:=by
 have G_F:=jh (P:=P) (w:=w) (base:=base) T;refine T.d_c.F.ok sc_spans_of (fun vs H Q E h=>?_) (fun cdv A outer s H vs Q E hr h=>?_)
 · obtain⟨q,ws,rfl,hrs,few,kk⟩:=h;rfl
 · obtain⟨q,ws,rfl,hrs,few,kk⟩:=h;have few1:=few.le;have h_F:Room (3) _:=hr.mono (by decide)
   refine⟨_,(qf (qJ (qj G_F h_F rfl T.d_F.m T.d_F.k T.d_F.b .nil qr (qa (pv 0) qc)))
     (qf (qA (i:=1) sc_spans_of.nd rfl (Or.inl rfl) (qG qc))
     (qf (QZ PassesOwn.never rfl (zl (ql (call_sortT.or qaS) (by rfl) T.n_sorted jX (qa (zP rfl (CompOk.def ["stretch"] [none]) (zl (pv 0)) (fun _ _ _ _ _=>(qm (i:=0) (show List.Nodup (["stretch"]:List Str) by decide +kernel) rfl (Or.inl rfl))) (fun _ _ _ _ _=>(qa6 (qy Qt (qC (r:=rIx K) qt (pv 0) qd (fun _ _=>rfl)) (qC (r:=rIx K) qt (pv 0) qd (fun _ _=>rfl)) (qz _)))) (fun _ _ _ _ _=>(pv 0))) qc))) (zu rfl (qq (qm (i:=2) (sc_spans_of.nd) rfl (Or.inl rfl)) (qq (qm (i:=3) (sc_spans_of.nd) rfl (Or.inl rfl)) qR)))
       (qg (qK (PW.pt (qdg (qdh (pv 1) (fun _=>rfl)) (qcq (qy Qt (pv 2) (qo zV (qC (r:=rIx K) qt (qC (r:=rIx K) qt (pv 1) (jd Qi qd) (fun _ _=>rfl)) qd (fun _ _=>rfl)) qd) (qz _)))))
         (qg (Zn (q9 (qa (qC (r:=rIx K) qt (qC (r:=rIx K) qt (pv 1) (jd Qi qd) (fun _ _=>rfl)) qd (fun _ _=>rfl)) (qa (ql (zg rfl) (by rfl) T.n_max zh (qa (qC (r:=rIx K) qt (qC (r:=rIx K) qt (pv 1) (jd Qi qd) (fun _ _=>rfl)) qd (fun _ _=>rfl)) (qa (pv 3) qc))) qc))) (qbN (pv 1) (jd Qi qd) Z6)))
         (qg (qJ (qbP PySem.F.plainAttrs_list PySem.F.slot_list_append PySem.F.type_list_append Qf (pv 1) (qa (q9 (qa (pv 2) (qa (pv 3) qc))) qc)))))))
     (qg (qv (pv 1)))))),?_⟩
   try dsimp only [qZ,Cx.nox]
   refine⟨_,rfl,q,ws,rfl,hrs,fun G0 S0=>?_⟩;refine⟨qp (Nat.le_of_ble_eq_true rfl),fun D fD=>?_⟩;have SD:=Same.new (.lst []) fD;have hD0:(upd G0 D (.lst [])) D=some (.lst []):=qb;obtain⟨zs,hq,tp⟩:=(hrs.same S0).same SD;(try unfold qE);(try dsimp only);generalize upd G0 D (.lst [])=G at SD hD0 hq tp ⊢;have hl:zs.length=ws.length:=tp.1;refine⟨_,rfl,q,rfl,⟨_,SqL.of hq⟩,fun C fC=>?_⟩;refine zw (K:=K) (a:=q) (xs:=zs) (D:=C) (fun i σ H2=>∃ (c0:Option V) (cs:List V),σ=[c0]∧Same G H2∧H2 C=some (.lst cs)∧TupL pr H2 cs ((ws.take i).filter okw)) ⟨none,[],rfl,Same.new _ fC,qb,.nil⟩ (fun i σ H2 _ ⟨_,_,_,S,_⟩=>SqL.of (S _ _ hq)) ?_ ?_
   · rintro i z σ H2 hz ⟨c0,cs,rfl,S,hC,tc⟩;obtain⟨r,t,hr',rfl,ht⟩:=tp.of hz;have ht2:=S _ _ ht;have et:ws.take (i+1)=ws.take i++[r]:=by rw[List.take_add_one,hr'];rfl
     have lc:cs.length≤1000:=by
       rw[tc.1];refine Nat.le_trans (List.length_filter_le _ _) ?_;rw[List.length_take];omega
     refine⟨_,rfl,.inr (.inl ⟨t,_,_,_,rfl,rfl,SqT.of ht2,rfl,_,rfl,.inr (.inl ⟨t,_,_,_,rfl,rfl,SqT.of ht2,rfl,_,_,rfl,rfl,_,rfl,ZW (fun g=>?_) (fun g=>?_)⟩)⟩)⟩
     · refine⟨_,rfl,_,hC,qB (by omega),_,cs++[.ref t],rfl,S.put fC _,qb,?_⟩;rw[et,List.filter_append,show List.filter okw [r]=[r] by simp[okw,g]];exact(tc.snoc (p:=r) ht2).put hC
     · refine⟨_,cs,rfl,S,hC,?_⟩;rw[et,List.filter_append,show List.filter okw [r]=[] by simp[okw,g],List.append_nil];exact tc
   rintro σ H2 ⟨c0,cs,rfl,S,hC,tc⟩;rw[hl,List.take_length]at tc;have okf:∀ w∈ws.filter okw,w.1≤w.2:=fun w hw=>of_decide_eq_true (List.mem_filter.mp hw).2;have lf:(ws.filter okw).length≤ws.length:=List.length_filter_le _ _;have mok:=qhN ws;have sof:=few.filter okw;generalize ws.filter okw=fs at tc okf lf mok sof;refine qju (SqL.of hC) tc sof fun p zs' rs' fp hp tI ho=>?_;obtain⟨ss,rfl,hss⟩:=qdj hp;have ord:=qhL ho;have oks:∀ w∈ss,w.1≤w.2:=fun w m=>okf w (hss.mem_iff.mp m);have lss:ss.length≤ws.length:=by rw[hss.length_eq];exact lf
   have tz0:TupL pr H2 zs' ss:=qe7 tI;have Sp:=Same.new (.lst zs') fp;have tz:=tz0.same Sp;have hp1:(upd H2 p (.lst zs')) p=some (.lst zs'):=qb;have hD1:=Sp _ _ (S _ _ hD0);have npD:p≠D:=fun e=>by rw[e,S _ _ hD0]at fp;cases fp
   have SG:=SD.trans (S.trans Sp);(try dsimp only);generalize upd H2 p (.lst zs')=G1 at tz hp1 hD1 SG ⊢;refine⟨p,rfl,⟨_,SqL.of hp1⟩,ZB (D:={ nx:=qh6 (qjl 1) { nx:=fun _ H'=>Q .non H',rt:=Q },rt:=Q }) (K:=K) (a:=p) (xs:=zs') (fun i σ H3=>∃ (s2 s3:Option V) (ys:List V),σ=[some (.ref q),some (.ref D),s2,s3]∧But D G1 H3∧H3 D=some (.lst ys)∧TupL pr H3 ys ((ss.take i).foldl Jd [])) ⟨none,none,[],rfl,(fun c o e _=>e),hD1,.nil⟩ (fun i σ H3 _ ⟨_,_,_,_,B,_⟩=>SqL.of (B _ _ hp1 npD)) ?_ ?_⟩
   · rintro i z σ H3 hz ⟨s2,s3,ys,rfl,B,hD,ty⟩;obtain⟨wv,t,hw,rfl,ht⟩:=tz.of hz;have ntD:t≠D:=zd ht hD1 (by intro z;cases z);have ht3:=B _ _ ht ntD;have okv:=oks wv (List.mem_of_getElem? hw)
     have ly:ys.length≤1000:=by
       have:=Zt ss i
       have lti:i < ss.length:=(List.getElem?_eq_some_iff.mp hw).1;rw[ty.1];omega
     refine⟨t,_,rfl,SqT.of ht3,rfl,_,_,rfl,_,_,rfl,rfl,?_⟩;rw[qdx hw];generalize (ss.take i).foldl Jd []=acc at ty ⊢
     cases ea:acc.getLast? with
     | none =>
       have e0:acc=[]:=List.getLast?_eq_none_iff.mp ea;subst e0;have ey:ys=[]:=List.eq_nil_of_length_eq_zero ty.1;subst ey;refine⟨_,rfl,false,.inl ⟨_,SqL.of hD,rfl⟩,qdu (qdu ?_)⟩;refine⟨_,rfl,.inl ⟨rfl,_,SqL.of hD⟩,_,rfl,_,rfl,qp (Nat.le_of_ble_eq_true rfl),fun tt ft=>?_⟩;have St:=Same.new (.tup [.int wv.1,.int wv.2]) ft;refine⟨D,_,_,rfl,rfl,St _ _ hD,qB (by omega),?_⟩;refine⟨_,_,[]++[.ref tt],rfl,(fun c o e n=>?_),qb,?_⟩
       · rw[qi n];exact St _ _ (B c o e n)
       · exact((TupL.nil (f:=pr)).snoc (p:=wv) qb).put (St _ _ hD)
     | some l =>
       obtain⟨tl,hzl,htl⟩:=TupL.last ty ea
       have ey:true=!ys.isEmpty:=by
         cases ys with
         | nil=>cases hzl
         | cons y ys=>rfl
       refine⟨_,rfl,true,.inl ⟨_,SqL.of hD,ey⟩,qf8 ?_⟩;refine⟨_,rfl,_,rfl,_,rfl,.inl ⟨D,_,_,_,rfl,rfl,SqL.of hD,Qq hzl,.inr (.inl ⟨tl,_,_,_,rfl,rfl,SqT.of htl,rfl,.inl ⟨_,_,rfl,rfl,_,_,rfl,rfl,_,rfl,ZW (fun g=>?_) (fun g=>?_)⟩⟩)⟩⟩
       · have g':wv.1≤l.2+1:=g;refine⟨_,rfl,_,rfl,.inl ⟨D,_,_,_,rfl,rfl,SqL.of hD,Qq hzl,.inr (.inl ⟨tl,_,_,_,rfl,rfl,SqT.of htl,rfl,_,rfl,_,rfl,.inl ⟨D,_,_,_,rfl,rfl,SqL.of hD,Qq hzl,.inr (.inl ⟨tl,_,_,_,rfl,rfl,SqT.of htl,rfl,_,rfl,_,_,rfl,qp (Nat.le_of_ble_eq_true rfl),fun tt ft=>?_⟩)⟩⟩)⟩⟩;have St:=Same.new (.tup [.int l.1,.int (if wv.2 > l.2 then wv.2 else l.2)]) ft;refine⟨_,rfl,_,rfl,D,_,_,ys.length - 1,rfl,rfl,St _ _ hD,qbi (by cases ys with|nil=>cases hzl|cons y ys=>simp),?_⟩;refine⟨_,_,ys.set (ys.length - 1) (.ref tt),rfl,(fun c o e n=>?_),qb,?_⟩
         · rw[qi n];exact St _ _ (B c o e n)
         · rw[qb5 ea g',← ty.1];exact(TupL.set (ty.same St) (i:=ys.length - 1) (p:=(l.1,if wv.2 > l.2 then wv.2 else l.2)) qb).put (St _ _ hD)
       · have g':¬ wv.1≤l.2+1:=g;refine⟨_,rfl,.inl ⟨rfl,_,SqL.of hD⟩,_,rfl,_,rfl,qp (Nat.le_of_ble_eq_true rfl),fun tt ft=>?_⟩;have St:=Same.new (.tup [.int wv.1,.int wv.2]) ft;refine⟨D,_,_,rfl,rfl,St _ _ hD,qB (by omega),?_⟩;refine⟨_,_,ys++[.ref tt],rfl,(fun c o e n=>?_),qb,?_⟩
         · rw[qi n];exact St _ _ (B c o e n)
         · rw[qdw ea g'];exact((ty.same St).snoc (p:=wv) qb).put (St _ _ hD)
   · rintro σ H3 ⟨s2,s3,ys,rfl,B,hD,ty⟩;have glen:=Zt ss ss.length;rw[tz.1]at ty;rw[List.take_length]at ty glen;obtain⟨f1,f2⟩:=qcF ss [] ⟨fun _ z=>(nomatch z),List.Pairwise.nil⟩ oks ord fun _ z=>nomatch z;refine⟨_,rfl,kk D _ H3 (S0.none fD) (fun c o e=>?_) ⟨ys,hD,ty⟩ f1 (by omega) fun n=>?_⟩
     · have n:c≠D:=qh (S0 _ _ e) fD;exact B _ _ (SG _ _ (S0 _ _ e)) n
     · rw[f2,qdo hss,mok];exact⟨fun h=>h.elim (fun⟨_,z,_⟩=>nomatch z) id,.inr⟩
end
abbrev rD (r:Int×Int):PyData:=.tuple [.int r.1,.int r.2]
theorem qeH {H:Hp}:∀ {rows:List (Int×Int)}{zs:List V},TupL pr H zs rows->DVs H zs (rows.map rD)∧PyData.canLayAll0 (rows.map rD)=true∧PyData.depthAll (rows.map rD)≤2
 | [],zs,h=>by
   have:zs=[]:=List.eq_nil_of_length_eq_zero h.1
   subst this;exact⟨.nil,rfl,by simp[PyData.depthAll]⟩
 | r::rows,zs,h=>by
   cases zs with
   | nil=>have:=h.1;simp at this
   | cons z zs =>
     obtain⟨t,rfl,ht⟩:=h.2 0 z r rfl rfl;obtain⟨h1,h2,h3⟩:=qeH (rows:=rows) (zs:=zs) ⟨by have:=h.1;simpa using this,fun i z p e1 e2=>h.2 (i+1) z p (by simpa using e1) (by simpa using e2)⟩;refine⟨.cons (.tup (.inl ht) (.cons (.int _) (.cons (.int _) .nil))) h1,?_,?_⟩
     · rw[List.map_cons];simp only[PyData.canLayAll0,PyData.canLay0,h2];rfl
     · rw[List.map_cons];simp only[PyData.depthAll,PyData.depth];omega
theorem qii {rows:List (Int×Int)} (h1:PyData.canLayAll0 (rows.map rD)=true) (h2:PyData.depthAll (rows.map rD)≤2):PyData.canLay0 (.list (rows.map rD))=true∧SeqAt.shaped (.list (rows.map rD))=true:=by
 have cl:PyData.canLay0 (.list (rows.map rD))=true:=by simp only[PyData.canLay0,h1]
 refine⟨cl,?_⟩;unfold SeqAt.shaped;rw[cl,Bool.true_and];refine decide_eq_true ?_;simp only[PyData.depth];omega
theorem qjN {H:Hp}{a b:Addr}{ws:List (Int×Int)}{Q:VK} (h1:Rs H a ws) (h2:H b=some (.lst [])) (q:Q (.bl (!ws.isEmpty)) H):qik (.ref a) (.ref b) H Q:=by
 obtain⟨zs,ha,ta⟩:=h1;obtain⟨d1,d2,d3⟩:=qeH ta;obtain⟨cl,sh⟩:=qii d2 d3;refine .inr ⟨_,_,.lst (.inl ha) d1,.lst (.inl h2) .nil,sh,rfl,?_⟩
 cases ws with
 | nil=>exact q
 | cons w ws=>exact q
abbrev jf (ss:List (Int×Int)) (i:Nat):List (Int×Int):=((ss.take i).filter okw).foldl Jd []
theorem qj0 {ss:List (Int×Int)}{i:Nat}{w:Int×Int} (h:ss[i]?=some w) (g:w.1≤w.2):jf ss (i+1)=Jd (jf ss i) w:=by
 unfold jf;rw[List.take_add_one,h,List.filter_append,List.foldl_append];show List.foldl Jd _ (List.filter okw [w])=_;rw[show List.filter okw [w]=[w] by simp[g]];rfl
theorem qkY {ss:List (Int×Int)}{i:Nat}{w:Int×Int} (h:ss[i]?=some w) (g:¬ w.1≤w.2):jf ss (i+1)=jf ss i:=by
 unfold jf;rw[List.take_add_one,h,List.filter_append,List.foldl_append];show List.foldl Jd _ (List.filter okw [w])=_;rw[show List.filter okw [w]=[] by simp[g]];rfl
theorem qhO (ss:List (Int×Int)) (i:Nat):(jf ss i).length≤ss.length:=by
 have:=Zt ((ss.take i).filter okw) ((ss.take i).filter okw).length
 rw[List.take_length]at this;refine Nat.le_trans this (Nat.le_trans (List.length_filter_le _ _) (List.length_take_le' _ _))
inductive jJ (vs:List V) (H:Hp) (Q:VK):Prop
 | mk (q:Addr) (ws:List (Int×Int)) (h1:vs=[.ref q]) (h2:Rs H q ws) (h3:SrtOk ws) (h4:∀ (d:Addr) (r:List (Int×Int)) (H':Hp),H d=none->Same H H'->Rs H' d r->zB r->r.length≤ws.length->(∀ n,Mem r n↔Mem ws n)->Q (.ref d) H'):jJ vs H Q
def jr:Sp:=fun vs H Q _=>jJ vs H Q
section
variable {P:Program}{w:World}{K:Frag}{mg:Str->Option Value}{base:Heap}
theorem qaK {a:Ad} (T:Txt K mg a):qx P w K mg base CX0 1 a.f_f a.fd_f ["_law_stretches"] jr:=by
 refine T.d_f.F.ok sc_Ljoined (fun vs H Q E h=>?_) (fun cdv A outer s H vs Q E hr h=>?_)
 · obtain⟨q,ws,rfl,hrs,few,kk⟩:=h;rfl
 · obtain⟨q,ws,rfl,hrs,few,kk⟩:=h;have few1:=few.le;have hU:=hr.units
   refine⟨_,(qf (qA (i:=1) sc_Ljoined.nd rfl (Or.inl rfl) (qG qc))
     (qf (QZ PassesOwn.never rfl (zl (ql (call_sortT.or qaS) (by rfl) T.n_sorted jX (qa (pv 0) qc))) (zu rfl (qq (qm (i:=2) (sc_Ljoined.nd) rfl (Or.inl rfl)) (qq (qm (i:=3) (sc_Ljoined.nd) rfl (Or.inl rfl)) qR)))
       (qg (qK (PW.pt (qdg (qy Qt (pv 2) (pv 3) (qz _)) (qdg (qy (uNe hU) (pv 1) (qG qc) (qz _)) (qcq (qy Qt (pv 2) (qo zV (qC (r:=rIx K) qt (qC (r:=rIx K) qt (pv 1) (jd Qi qd) (fun _ _=>rfl)) qd (fun _ _=>rfl)) qd) (qz _))))))
         (qg (Zn (q9 (qa (qC (r:=rIx K) qt (qC (r:=rIx K) qt (pv 1) (jd Qi qd) (fun _ _=>rfl)) qd (fun _ _=>rfl)) (qa (ql (zg rfl) (by rfl) T.n_max zh (qa (qC (r:=rIx K) qt (qC (r:=rIx K) qt (pv 1) (jd Qi qd) (fun _ _=>rfl)) qd (fun _ _=>rfl)) (qa (pv 3) qc))) qc))) (qbN (pv 1) (jd Qi qd) Z6)))
         (qg (qK (qy Qt (pv 2) (pv 3) (qz _))
           (qg (qJ (qbP PySem.F.plainAttrs_list PySem.F.slot_list_append PySem.F.type_list_append Qf (pv 1) (qa (q9 (qa (pv 2) (qa (pv 3) qc))) qc))))
           qw)))))
     (qg (qv (pv 1))))),?_⟩
   try dsimp only [qZ,Cx.nox]
   refine⟨qp (Nat.le_of_ble_eq_true rfl),fun D fD=>?_⟩;have SD:=Same.new (.lst []) fD;have hD0:(upd H D (.lst [])) D=some (.lst []):=qb;obtain⟨zs,hq,tp⟩:=hrs.same SD;(try unfold qE);(try dsimp only);generalize upd H D (.lst [])=G at SD hD0 hq tp ⊢;have hl:zs.length=ws.length:=tp.1;refine⟨_,rfl,qju (SqL.of hq) tp few fun p zs' rs' fp hp tI ho=>?_⟩;obtain⟨ss,rfl,hss⟩:=qdj hp;have ord:=qhL ho;have lss:ss.length=ws.length:=hss.length_eq;have tz0:TupL pr G zs' ss:=qe7 tI;have Sp:=Same.new (.lst zs') fp;have tz:=tz0.same Sp;have hp1:(upd G p (.lst zs')) p=some (.lst zs'):=qb;have hD1:=Sp _ _ hD0;have npD:p≠D:=fun e=>by rw[e,hD0]at fp;cases fp
   have SG:=SD.trans Sp;(try dsimp only);generalize upd G p (.lst zs')=G1 at tz hp1 hD1 SG ⊢;refine⟨p,rfl,⟨_,SqL.of hp1⟩,ZB (D:={ nx:=qh6 (qjl 1) { nx:=fun _ H'=>Q .non H',rt:=Q },rt:=Q }) (K:=K) (a:=p) (xs:=zs') (fun i σ H3=>∃ (s2 s3:Option V) (ys:List V),σ=[some (.ref q),some (.ref D),s2,s3]∧But D G1 H3∧H3 D=some (.lst ys)∧TupL pr H3 ys (jf ss i)) ⟨none,none,[],rfl,(fun c o e _=>e),hD1,.nil⟩ (fun i σ H3 _ ⟨_,_,_,_,B,_⟩=>SqL.of (B _ _ hp1 npD)) ?_ ?_⟩
   · rintro i z σ H3 hz ⟨s2,s3,ys,rfl,B,hD,ty⟩;obtain⟨wv,t,hw,rfl,ht⟩:=tz.of hz;have ntD:t≠D:=zd ht hD1 (by intro z;cases z);have ht3:=B _ _ ht ntD
     have ly:ys.length≤1000:=by
       have:=qhO ss i
       rw[ty.1];omega
     refine⟨t,_,rfl,SqT.of ht3,rfl,_,_,rfl,_,_,rfl,rfl,?_⟩;refine⟨_,rfl,_,rfl,_,_,rfl,rfl,_,rfl,ZW (fun g=>?_) (fun g=>qdu ?_)⟩
     · have g0:wv.1≤wv.2:=g;rw[qj0 hw g0];generalize jf ss i=acc at ty ⊢;refine⟨_,rfl,qp (Nat.le_of_ble_eq_true rfl),fun nl fnl=>?_⟩;have Sn:=Same.new (.lst []) fnl;have B1:But D G1 (upd H3 nl (.lst [])):=B.same Sn;have hD2:=Sn _ _ hD;have ty2:=ty.same Sn;have enl:(upd H3 nl (.lst [])) nl=some (.lst []):=qb;(try dsimp only);generalize upd H3 nl (.lst [])=H4 at B1 hD2 ty2 enl ⊢;refine qjN (ws:=acc) ⟨ys,hD2,ty2⟩ enl ?_
       cases ea:acc.getLast? with
       | none =>
         have e0:acc=[]:=List.getLast?_eq_none_iff.mp ea;subst e0;have ey:ys=[]:=List.eq_nil_of_length_eq_zero ty.1;subst ey;refine⟨_,rfl,qdu (qdu ?_)⟩;refine⟨_,rfl,_,rfl,_,_,rfl,rfl,_,rfl,ZW (fun _=>?_) (fun g2=>absurd g g2)⟩;refine⟨_,rfl,.inl ⟨rfl,_,SqL.of hD2⟩,_,rfl,_,rfl,qp (Nat.le_of_ble_eq_true rfl),fun tt ft=>?_⟩;have St:=Same.new (.tup [.int wv.1,.int wv.2]) ft;refine⟨D,_,_,rfl,rfl,St _ _ hD2,qB (by omega),?_⟩;refine⟨_,_,[]++[.ref tt],rfl,(fun c o e n=>?_),qb,?_⟩
         · rw[qi n];exact St _ _ (B1 c o e n)
         · exact((TupL.nil (f:=pr)).snoc (p:=wv) qb).put (St _ _ hD2)
       | some l =>
         obtain⟨tl,hzl,htl⟩:=TupL.last ty2 ea
         have ie:(!acc.isEmpty)=true:=by
           cases acc with
           | nil=>cases ea
           | cons y ys=>rfl
         rw[ie];refine⟨_,rfl,qf8 ?_⟩;refine⟨_,rfl,_,rfl,_,rfl,.inl ⟨D,_,_,_,rfl,rfl,SqL.of hD2,Qq hzl,.inr (.inl ⟨tl,_,_,_,rfl,rfl,SqT.of htl,rfl,.inl ⟨_,_,rfl,rfl,_,_,rfl,rfl,_,rfl,ZW (fun g=>?_) (fun g=>?_)⟩⟩)⟩⟩
         · have g':wv.1≤l.2+1:=g;refine⟨_,rfl,_,rfl,.inl ⟨D,_,_,_,rfl,rfl,SqL.of hD2,Qq hzl,.inr (.inl ⟨tl,_,_,_,rfl,rfl,SqT.of htl,rfl,_,rfl,_,rfl,.inl ⟨D,_,_,_,rfl,rfl,SqL.of hD2,Qq hzl,.inr (.inl ⟨tl,_,_,_,rfl,rfl,SqT.of htl,rfl,_,rfl,_,_,rfl,qp (Nat.le_of_ble_eq_true rfl),fun tt ft=>?_⟩)⟩⟩)⟩⟩;have St:=Same.new (.tup [.int l.1,.int (if wv.2 > l.2 then wv.2 else l.2)]) ft;refine⟨_,rfl,_,rfl,D,_,_,ys.length - 1,rfl,rfl,St _ _ hD2,qbi (by cases ys with|nil=>cases hzl|cons y ys=>simp),?_⟩;refine⟨_,_,ys.set (ys.length - 1) (.ref tt),rfl,(fun c o e n=>?_),qb,?_⟩
           · rw[qi n];exact St _ _ (B1 c o e n)
           · rw[qb5 ea g',← ty2.1];exact(TupL.set (ty2.same St) (i:=ys.length - 1) (p:=(l.1,if wv.2 > l.2 then wv.2 else l.2)) qb).put (St _ _ hD2)
         · have g':¬ wv.1≤l.2+1:=g;refine⟨_,rfl,_,rfl,_,_,rfl,rfl,_,rfl,ZW (fun _=>?_) (fun g2=>absurd g0 g2)⟩;refine⟨_,rfl,.inl ⟨rfl,_,SqL.of hD2⟩,_,rfl,_,rfl,qp (Nat.le_of_ble_eq_true rfl),fun tt ft=>?_⟩;have St:=Same.new (.tup [.int wv.1,.int wv.2]) ft;refine⟨D,_,_,rfl,rfl,St _ _ hD2,qB (by omega),?_⟩;refine⟨_,_,ys++[.ref tt],rfl,(fun c o e n=>?_),qb,?_⟩
           · rw[qi n];exact St _ _ (B1 c o e n)
           · rw[qdw ea g'];exact((ty2.same St).snoc (p:=wv) qb).put (St _ _ hD2)
     · have g0:¬ wv.1≤wv.2:=g;rw[qkY hw g0];refine⟨_,rfl,_,rfl,_,_,rfl,rfl,_,rfl,ZW (fun g2=>absurd g2 g) (fun _=>?_)⟩;exact⟨_,_,ys,rfl,B,hD,ty⟩
   · rintro σ H3 ⟨s2,s3,ys,rfl,B,hD,ty⟩;rw[tz.1]at ty;unfold jf at ty;rw[List.take_length]at ty;have oks:∀ w∈ss.filter okw,w.1≤w.2:=fun w hw=>of_decide_eq_true (List.mem_filter.mp hw).2;obtain⟨f1,f2⟩:=qcF (ss.filter okw) [] ⟨fun _ z=>(nomatch z),List.Pairwise.nil⟩ oks (ord.filter _) fun _ z=>nomatch z;have glen:=qhO ss ss.length;unfold jf at glen;rw[List.take_length]at glen;refine⟨_,rfl,kk D _ H3 fD (fun c o e=>?_) ⟨ys,hD,ty⟩ f1 (by omega) fun n=>?_⟩
     · have n:c≠D:=qh e fD;exact B _ _ (SG _ _ e) n
     · rw[f2,qhN,qdo hss];exact⟨fun h=>h.elim (fun⟨_,z,_⟩=>nomatch z) id,.inr⟩
end
abbrev pr3:Int×Int×Int->List V:=fun p=>[.int p.1,.int p.2.1,.int p.2.2]
def ends (rows:List (Int×Int)):List Int:=(rows.drop 1).map (fun r=>r.1 - 1)++[1000000000]
def nxt:List (Int×Int)->Int
 | []=>1000000000
 | r::_=>r.1 - 1
def pcs:List (Int×Int)->List (Int×Int×Int)
 | []=>[]
 | r::rs=>(r.1,nxt rs,r.2)::pcs rs
theorem QP:∀ rows:List (Int×Int),(pcs rows).length=rows.length
 | []=>rfl
 | r::rs=>by show (pcs rs).length+1=rs.length+1;rw[QP rs]
theorem qdC {rows:List (Int×Int)} (h:0 < rows.length):(ends rows).length=rows.length:=by
 unfold ends;rw[List.length_append,List.length_map,List.length_drop];show rows.length - 1+1=rows.length;omega
theorem qb7 (r r':Int×Int) (rs:List (Int×Int)):ends (r::r'::rs)=(r'.1 - 1)::ends (r'::rs):=rfl
theorem qeV:∀ (rows:List (Int×Int)) (i:Nat) (r:Int×Int) (e:Int),rows[i]?=some r->(ends rows)[i]?=some e->(pcs rows)[i]?=some (r.1,e,r.2)
 | [],i,r,e,h,_=>by simp at h
 | [r0],i,r,e,h,h'=>by
   cases i with
   | zero=>cases h;cases h';rfl
   | succ i=>simp at h
 | r0::r1::rs,i,r,e,h,h'=>by
   cases i with
   | zero =>
     cases h;rw[qb7]at h';cases h';rfl
   | succ i =>
     rw[qb7]at h';exact qeV (r1::rs) i r e h h'
theorem qlu (zs:List V) (h:0 < zs.length):qga zs (some 1) none=zs.drop 1:=by
 unfold qga;rw[show HT.sIx zs.length 0 (some 1)=min 1 zs.length from HT.sIx_nat _ _ 1,HT.sIx_none,Nat.min_eq_left h];rw[List.take_of_length_le (by rw[List.length_drop];exact Nat.le_refl _)]
theorem jm {rows:List (Int×Int)} (h:Good rows):0 < rows.length:=by
 obtain⟨n,hn⟩:=h.fst
 cases rows with
 | nil=>cases hn
 | cons r rs=>exact Nat.succ_pos _
inductive jH (vs:List V) (H:Hp) (Q:VK):Prop
 | mk (q:Addr) (rows:List (Int×Int)) (h1:vs=[.ref q]) (h2:Rs H q rows) (h3:Good rows) (h4:∀ (d:Addr) (zs:List V) (H':Hp),H d=none->Same H H'->H' d=some (.lst zs)->TupL pr3 H' zs (pcs rows)->Q (.ref d) H'):jH vs H Q
def jq:Sp:=fun vs H Q _=>jH vs H Q
section
variable {P:Program}{w:World}{K:Frag}{mg:Str->Option Value}{base:Heap}
theorem qaJ {a:Ad} (T:Txt K mg a):qx P w K mg base CX0 1 a.f_l a.fd_l ["_law_rows_here"] jq:=by
 refine T.d_l.F.ok sc_Lpieces (fun vs H Q E h=>?_) (fun cdv A outer s H vs Q E hr h=>?_)
 · obtain⟨k,rows,rfl,⟨zs,hk,tp⟩,good,kk⟩:=h;rfl
 · obtain⟨k,rows,rfl,⟨zs,hk,tp⟩,good,kk⟩:=h;have hU:=hr.units
   refine⟨_,(qf (qA (i:=1) sc_Lpieces.nd rfl (Or.inl rfl) (qo zV (zP rfl (CompOk.def ["_law_row"] [none]) (zl (Je uSl (pv 0) (JH qd) qcs)) (fun _ _ _ _ _=>(qm (i:=0) (show List.Nodup (["_law_row"]:List Str) by decide +kernel) rfl (Or.inl rfl))) (fun _ _ _ _ _=>Qd) (fun _ _ _ _ _=>(qo zI (qC (r:=rIx K) qt (pv 0) qd (fun _ _=>rfl)) qd))) (qG (qa (qo Zp qd qd) qc))))
     (qg (qv (zP rfl (CompOk.def ["_law_row","_law_end"] [none,none]) (qeQ rfl T.n_zip (qa (pv 0) (qa (pv 1) qc))) (fun _ _ _ _ _=>(show PG _ _ (qiN K 2 _) from (zu rfl (qq (qm (i:=0) (show List.Nodup (["_law_row","_law_end"]:List Str) by decide +kernel) rfl (Or.inl rfl)) (qq (qm (i:=1) (show List.Nodup (["_law_row","_law_end"]:List Str) by decide +kernel) rfl (Or.inl rfl)) qR))))) (fun _ _ _ _ _=>Qd) (fun _ _ _ _ _=>(q9 (qa (qC (r:=rIx K) qt (pv 0) qd (fun _ _=>rfl)) (qa (pv 1) (qa (qC (r:=rIx K) qt (pv 0) qd (fun _ _=>rfl)) qc))))))))),?_⟩
   try dsimp only [qZ,Cx.nox]
   have hl:zs.length=rows.length:=tp.1;have pos:=jm good;have few:=good.few;refine⟨_,rfl,_,rfl,.inl ⟨k,_,rfl,SqL.of hk,fun sl fsl=>?_⟩⟩;rw[qlu zs (by omega)];have B1:=Same.new (.lst (zs.drop 1)) fsl;refine⟨sl,rfl,⟨_,SqL.of qb⟩,fun D fD=>?_⟩;have B2:=B1.then (.lst []) fD
   refine zw (K:=K) (a:=sl) (xs:=zs.drop 1) (D:=D) (fun i σ H2=>∃ c0:Option V,σ=[c0]∧Same (upd H sl (.lst (zs.drop 1))) H2∧H2 D=some (.lst (((rows.drop 1).take i).map fun r=>V.int (r.1 - 1)))) ⟨none,rfl,Same.new _ fD,qb⟩ (fun i σ H2 _ ⟨_,_,S,_⟩=>SqL.of (S _ _ qb)) ?_ ?_
   · rintro i z σ H2 hz ⟨c0,rfl,S,hD⟩;have hz':zs[i+1]?=some z:=by rw[List.getElem?_drop]at hz;rw[Nat.add_comm];exact hz
     have hi:i+1 < rows.length:=by rw[← hl];exact(List.getElem?_eq_some_iff.mp hz').1
     obtain⟨r,hr'⟩:∃ r,rows[i+1]?=some r:=⟨_,List.getElem?_eq_getElem hi⟩
     obtain⟨u,rfl,hu'⟩:=tp.2 (i+1) z r hz' hr';have hu2:=S _ _ (B1 _ _ hu');have hrd:(rows.drop 1)[i]?=some r:=by rw[List.getElem?_drop,Nat.add_comm];exact hr'
     have et:(rows.drop 1).take (i+1)=(rows.drop 1).take i++[r]:=by rw[List.take_add_one,hrd];rfl
     refine⟨_,rfl,.inr (.inl ⟨u,_,_,_,rfl,rfl,SqT.of hu2,rfl,_,_,rfl,rfl,_,hD,qB ?_,_,rfl,S.put fD _,?_⟩)⟩
     · rw[List.length_map,List.length_take,List.length_drop];omega
     · rw[qb,et,List.map_append];rfl
   rintro σ H2 ⟨c0,rfl,S,hD⟩;rw[List.length_drop,hl,show rows.length - 1=(rows.drop 1).length by rw[List.length_drop],List.take_length]at hD;refine⟨_,_,rfl,rfl,⟨by decide,by decide,by decide⟩,qp (Nat.le_of_ble_eq_true rfl),fun l1 fl1=>?_⟩;rw[show (10:Int) ^ (9:Int).toNat=1000000000 by decide]at *;have C1:=Same.new (.lst [.int 1000000000]) fl1;refine .inr (.inl ⟨D,l1,_,_,rfl,rfl,C1 _ _ hD,qb,qB (by rw[List.length_map,List.length_drop];omega),fun e fe=>?_⟩)
   have he:(upd (upd H2 l1 (.lst [.int 1000000000])) e (.lst (((rows.drop 1).map fun r=>V.int (r.1 - 1))++[.int 1000000000]))) e=some (.lst ((ends rows).map V.int)):=by
     rw[qb];unfold ends;rw[List.map_append,List.map_map];rfl
   have C2:=Same.new (.lst (((rows.drop 1).map fun r=>V.int (r.1 - 1))++[.int 1000000000])) fe;have SS:=((B1.trans S).trans C1).trans C2;(try dsimp only);generalize upd (upd H2 l1 (.lst [.int 1000000000])) e (.lst (((rows.drop 1).map fun r=>V.int (r.1 - 1))++[.int 1000000000]))=G at he SS ⊢;have hkG:=SS _ _ hk;have tpG:=tp.same SS;refine⟨_,rfl,_,rfl,false,k,e,rfl,⟨_,SqL.of hkG⟩,⟨_,SqL.of he⟩,fun D2 fD2=>?_⟩;have el:zs.length=((ends rows).map V.int).length:=by rw[List.length_map,qdC pos,hl]
   refine qdF (K:=K) (t:=false) (a:=k) (b:=e) (xs:=zs) (ys:=(ends rows).map V.int) (D:=D2) (fun i σ H3=>∃ (c0 c1:Option V) (ws:List V),σ=[c0,c1]∧Same G H3∧H3 D2=some (.lst ws)∧TupL pr3 H3 ws ((pcs rows).take i)) el ⟨none,none,[],rfl,Same.new _ fD2,qb,.nil⟩ (fun i σ H3 _ ⟨_,_,_,_,S3,_⟩=>⟨SqL.of (S3 _ _ hkG),SqL.of (S3 _ _ he)⟩) ?_ ?_
   · rintro i z y σ H3 p hz hy ⟨c0,c1,ws,rfl,S3,hD2,tw⟩ fp;obtain⟨ey,hey,rfl⟩:=Qu hy;obtain⟨r,u,hr',rfl,hu'⟩:=tpG.of hz;have hpc:=qeV rows i r ey hr' hey;have P1:=Same.new (.tup [.ref u,.int ey]) fp;have S4:=S3.trans P1;have hu2:=S4 _ _ hu';have et:(pcs rows).take (i+1)=(pcs rows).take i++[(r.1,ey,r.2)]:=by rw[List.take_add_one,hpc];rfl
     refine⟨p,_,rfl,SqT.of qb,rfl,_,_,rfl,_,_,rfl,rfl,?_⟩;refine⟨_,rfl,.inr (.inl ⟨u,_,_,_,rfl,rfl,SqT.of hu2,rfl,_,rfl,_,rfl,.inr (.inl ⟨u,_,_,_,rfl,rfl,SqT.of hu2,rfl,qp (Nat.le_of_ble_eq_true rfl),fun tt ft=>?_⟩)⟩)⟩;have P2:=Same.new (.tup [.int r.1,.int ey,.int r.2]) ft;have hD3:=P2 _ _ (P1 _ _ hD2);have lw:ws.length≤21:=by rw[tw.1,List.length_take,QP];omega
     refine⟨_,hD3,qB (by omega),_,_,ws++[.ref tt],rfl,(S4.trans P2).put fD2 _,qb,?_⟩;rw[et];exact(((tw.same P1).same P2).snoc (p:=(r.1,ey,r.2)) qb).put hD3
   · rintro σ H3 ⟨c0,c1,ws,rfl,S3,hD2,tw⟩;rw[hl,show rows.length=(pcs rows).length by rw[QP],List.take_length]at tw;exact kk D2 ws H3 (SS.none fD2) (SS.trans S3) hD2 tw
end
def mp (lo hi:Int) (p:Int×Int×Int):Int×Int:=(if lo - p.2.2 > p.1 then lo - p.2.2 else p.1,if hi - p.2.2 < p.2.1 then hi - p.2.2 else p.2.1)
def shw (rows:List (Int×Int)) (lo hi:Int):List (Int×Int):=(pcs rows).map (mp lo hi)
inductive Jo (vs:List V) (H:Hp) (Q:VK):Prop
 | mk (q:Addr) (rows:List (Int×Int)) (lo hi:Int) (h1:vs=[.ref q,.int lo,.int hi]) (h2:Rs H q rows) (h3:Good rows) (h4:∀ (d:Addr) (r:List (Int×Int)) (H':Hp),H d=none->Same H H'->Rs H' d r->zB r->r.length≤21->(∀ n,Mem r n↔Mem (shw rows lo hi) n)->Q (.ref d) H'):Jo vs H Q
def qbr:Sp:=fun vs H Q _=>Jo vs H Q
section
variable {P:Program}{w:World}{K:Frag}{mg:Str->Option Value}{base:Heap}
theorem qe1 {a:Ad} (T:Txt K mg a):qx P w K mg base CX0 2 a.f_P a.fd_P ["_law_rows_here","_law_low","_law_high"] qbr:=by
 have G_f:=qaK (P:=P) (w:=w) (base:=base) T;have G_l:=qaJ (P:=P) (w:=w) (base:=base) T;refine T.d_P.F.ok qew (fun vs H Q E h=>?_) (fun cdv A outer s H vs Q E hr h=>?_)
 · obtain⟨q,rows,lo,hi,rfl,hrs,good,kk⟩:=h;rfl
 · obtain⟨q,rows,lo,hi,rfl,hrs,good,kk⟩:=h;have h_f:Room (1) _:=hr.mono (by decide);have h_l:Room (1) _:=hr.mono (by decide);refine⟨_,(qg (qv (qj G_f h_f rfl T.d_f.m T.d_f.k T.d_f.b .nil qr (qa (zP rfl (CompOk.def ["_law_a","_law_b","_law_shift_here","_law_low","_law_high"] [none,none,none,some 1,some 2]) (zl (qj G_l h_l rfl T.d_l.m T.d_l.k T.d_l.b .nil qr (qa (pv 0) qc))) (fun _ _ _ _ _=>(show PG _ _ (qiN K 3 _) from (zu rfl (qq (qm (i:=0) (show List.Nodup (["_law_a","_law_b","_law_shift_here","_law_low","_law_high"]:List Str) by decide +kernel) rfl (Or.inl rfl)) (qq (qm (i:=1) (show List.Nodup (["_law_a","_law_b","_law_shift_here","_law_low","_law_high"]:List Str) by decide +kernel) rfl (Or.inl rfl)) (qq (qm (i:=2) (show List.Nodup (["_law_a","_law_b","_law_shift_here","_law_low","_law_high"]:List Str) by decide +kernel) rfl (Or.inl rfl)) qR)))))) (fun _ _ _ _ _=>Qd) (fun _ _ _ _ _=>(q9 (qa (ql (zg rfl) (by rfl) T.n_max zh (qa (pv 0) (qa (qo zI (pv 3) (pv 2)) qc))) (qa (ql (zL rfl) (by rfl) T.n_min zM (qa (pv 1) (qa (qo zI (pv 4) (pv 2)) qc))) qc))))) qc)))),?_⟩;(try dsimp only [qZ,Cx.nox]);have lp:=QP rows;have few:=good.few;refine⟨_,rfl,q,rows,rfl,hrs,good,fun d zs H1 fd S1 hd tz=>⟨d,rfl,⟨_,SqL.of hd⟩,fun C fC=>?_⟩⟩;refine zw (K:=K) (a:=d) (xs:=zs) (D:=C) (fun i σ H2=>∃ (c0 c1 c2:Option V) (cs:List V),σ=[c0,c1,c2,some (.int lo),some (.int hi)]∧Same H1 H2∧H2 C=some (.lst cs)∧TupL pr H2 cs (((pcs rows).take i).map (mp lo hi))) ⟨none,none,none,[],rfl,Same.new _ fC,qb,.nil⟩ (fun i σ H2 _ ⟨_,_,_,_,_,S,_⟩=>SqL.of (S _ _ hd)) ?_ ?_
   · rintro i z σ H2 hz ⟨c0,c1,c2,cs,rfl,S,hC,tc⟩;obtain⟨r,u,hr',rfl,hu'⟩:=tz.of hz;have hu2:=S _ _ hu';have et:(pcs rows).take (i+1)=(pcs rows).take i++[r]:=by rw[List.take_add_one,hr'];rfl
     have lc:cs.length≤21:=by rw[tc.1,List.length_map,List.length_take];omega
     refine⟨u,_,rfl,SqT.of hu2,rfl,_,_,rfl,_,_,rfl,_,_,rfl,rfl,?_⟩;refine⟨_,rfl,_,rfl,_,rfl,_,_,rfl,rfl,_,_,rfl,_,rfl,_,rfl,_,rfl,_,_,rfl,rfl,_,_,rfl,qp (Nat.le_of_ble_eq_true rfl),fun tt ft=>?_⟩;have St:=Same.new (.tup (pr (mp lo hi r))) ft;have hC2:=St _ _ hC;refine⟨_,hC2,qB (by omega),_,_,_,cs++[.ref tt],rfl,(S.trans St).put fC _,qb,?_⟩;rw[et,List.map_append];exact((tc.same St).snoc (p:=mp lo hi r) qb).put hC2
   rintro σ H2 ⟨c0,c1,c2,cs,rfl,S,hC,tc⟩;rw[tz.1,List.take_length]at tc;refine⟨C,(pcs rows).map (mp lo hi),rfl,⟨cs,hC,tc⟩,.inl (by rw[List.length_map];omega),fun e r H3 fe S3 R can lr mem=>?_⟩;rw[List.length_map]at lr;exact kk e r H3 ((S1.trans S).none fe) ((S1.trans S).trans S3) R can (by omega) mem
end
def qj6 (k:Addr):List (Str×V):=qbM "kept" (.ref k) []
theorem qb6 (k:Addr):(qj6 k).lookup ("kept":Str)=some (.ref k):=by
 unfold qj6;rw[QS,if_pos rfl]
theorem qfE (k:Addr) {m:Str} (h1:¬ m="kept"):(qj6 k).lookup m=none:=by
 unfold qj6;rw[QS,if_neg h1];rfl
inductive qlw (a:Ad) (H:Hp) (x:Addr) (rows:List (Int×Int)):Prop
 | mk (k dx:Addr) (zs:List V) (h1:H x=some (.ins a.c_Table dx (qj6 k))) (h2:H k=some (.lst zs)) (h3:TupL pr H zs rows):qlw a H x rows
def Tb (a:Ad) (H:Hp) (x:Addr) (rows:List (Int×Int)):Prop:=qlw a H x rows
inductive Qy (a:Ad) (vs:List V) (H:Hp) (Q:VK):Prop
 | mk (x:Addr) (rows:List (Int×Int)) (h1:vs=[.ref x]) (h2:Tb a H x rows) (h3:Good rows) (h4:∀ (d:Addr) (zs:List V) (H':Hp),H d=none->Same H H'->H' d=some (.lst zs)->TupL pr3 H' zs (pcs rows)->Q (.ref d) H'):Qy a vs H Q
def Za (a:Ad):Sp:=fun vs H Q _=>Qy a vs H Q
inductive q8 (a:Ad) (vs:List V) (H:Hp) (Q:VK):Prop
 | mk (x:Addr) (rows:List (Int×Int)) (lo hi:Int) (h1:vs=[.ref x,.int lo,.int hi]) (h2:Tb a H x rows) (h3:Good rows) (h4:(-10000000000≤lo∧lo≤10000000000)) (h5:(-10000000000≤hi∧hi≤10000000000)) (h6:∀ (d:Addr) (r:List (Int×Int)) (H':Hp),H d=none->Same H H'->Rs H' d r->zB r->r.length≤21->(∀ n,Mem r n↔Mem (shw rows lo hi) n)->Q (.ref d) H'):q8 a vs H Q
def zn (a:Ad):Sp:=fun vs H Q _=>q8 a vs H Q
section
variable {P:Program}{w:World}{K:Frag}{mg:Str->Option Value}{base:Heap}
theorem JK {a:Ad} (T:Txt K mg a):qx P w K mg base CX0 1 a.f_6 a.fd_6 ["self"] (Za a):=by
 refine T.d_6.F.ok sc_Table_pieces (fun vs H Q E h=>?_) (fun cdv A outer s H vs Q E hr h=>?_)
 · obtain⟨x,rows,rfl,⟨k,dx,zs,hx,hk,tp⟩,good,kk⟩:=h;rfl
 · obtain⟨x,rows,rfl,⟨k,dx,zs,hx,hk,tp⟩,good,kk⟩:=h;obtain⟨t_LAST,c_LAST⟩:=T.g_LAST
   refine⟨_,(qf (qA (i:=1) sc_Table_pieces.nd rfl (Or.inl rfl) (qo zV (zP rfl (CompOk.def ["moment","shift"] [none,none]) (zl (Je uSl (zc (pv 0) rfl) (JH qd) qcs)) (fun _ _ _ _ _=>(show PG _ _ (qiN K 2 _) from (zu rfl (qq (qm (i:=0) (show List.Nodup (["moment","shift"]:List Str) by decide +kernel) rfl (Or.inl rfl)) (qq (qm (i:=1) (show List.Nodup (["moment","shift"]:List Str) by decide +kernel) rfl (Or.inl rfl)) qR))))) (fun _ _ _ _ _=>Qd) (fun _ _ _ _ _=>(qo zI (pv 0) qd))) (qG (qa (qY (v:=.int 1000000000) rfl c_LAST ⟨_,rfl⟩) qc))))
     (qg (qv (zP rfl (CompOk.def ["row","end"] [none,none]) (qeQ rfl T.n_zip (qa (zc (pv 0) rfl) (qa (pv 1) qc))) (fun _ _ _ _ _=>(show PG _ _ (qiN K 2 _) from (zu rfl (qq (qm (i:=0) (show List.Nodup (["row","end"]:List Str) by decide +kernel) rfl (Or.inl rfl)) (qq (qm (i:=1) (show List.Nodup (["row","end"]:List Str) by decide +kernel) rfl (Or.inl rfl)) qR))))) (fun _ _ _ _ _=>Qd) (fun _ _ _ _ _=>(q9 (qa (qC (r:=rIx K) qt (pv 0) qd (fun _ _=>rfl)) (qa (pv 1) (qa (qC (r:=rIx K) qt (pv 0) qd (fun _ _=>rfl)) qc))))))))),?_⟩
   try dsimp only [qZ,Cx.nox]
   have hl:zs.length=rows.length:=tp.1;have pos:=jm good;have few:=good.few;refine⟨_,rfl,x,_,dx,_,_,rfl,hx,T.cl_Table,T.n_Table_kept,qb6 _,_,rfl,.inl ⟨k,_,rfl,SqL.of hk,fun sl fsl=>?_⟩⟩;rw[qlu zs (by omega)];have B1:=Same.new (.lst (zs.drop 1)) fsl;refine⟨sl,rfl,⟨_,SqL.of qb⟩,fun D fD=>?_⟩;have B2:=B1.then (.lst []) fD
   refine zw (K:=K) (a:=sl) (xs:=zs.drop 1) (D:=D) (fun i σ H2=>∃ c0 c1:Option V,σ=[c0,c1]∧Same (upd H sl (.lst (zs.drop 1))) H2∧H2 D=some (.lst (((rows.drop 1).take i).map fun r=>V.int (r.1 - 1)))) ⟨none,none,rfl,Same.new _ fD,qb⟩ (fun i σ H2 _ ⟨_,_,_,S,_⟩=>SqL.of (S _ _ qb)) ?_ ?_
   · rintro i z σ H2 hz ⟨c0,c1,rfl,S,hD⟩;have hz':zs[i+1]?=some z:=by rw[List.getElem?_drop]at hz;rw[Nat.add_comm];exact hz
     have hi:i+1 < rows.length:=by rw[← hl];exact(List.getElem?_eq_some_iff.mp hz').1
     obtain⟨r,hr'⟩:∃ r,rows[i+1]?=some r:=⟨_,List.getElem?_eq_getElem hi⟩
     obtain⟨u,rfl,hu'⟩:=tp.2 (i+1) z r hz' hr';have hu2:=S _ _ (B1 _ _ hu');have hrd:(rows.drop 1)[i]?=some r:=by rw[List.getElem?_drop,Nat.add_comm];exact hr'
     have et:(rows.drop 1).take (i+1)=(rows.drop 1).take i++[r]:=by rw[List.take_add_one,hrd];rfl
     refine⟨u,_,rfl,SqT.of hu2,rfl,_,_,rfl,_,_,rfl,rfl,?_⟩;refine⟨_,rfl,_,_,rfl,rfl,_,hD,qB ?_,_,_,rfl,S.put fD _,?_⟩
     · rw[List.length_map,List.length_take,List.length_drop];omega
     · rw[qb,et,List.map_append];rfl
   rintro σ H2 ⟨c0,c1,rfl,S,hD⟩;rw[List.length_drop,hl,show rows.length - 1=(rows.drop 1).length by rw[List.length_drop],List.take_length]at hD;refine⟨qp (Nat.le_of_ble_eq_true rfl),fun l1 fl1=>?_⟩;have C1:=Same.new (.lst [.int 1000000000]) fl1;refine .inr (.inl ⟨D,l1,_,_,rfl,rfl,C1 _ _ hD,qb,qB (by rw[List.length_map,List.length_drop];omega),fun e fe=>?_⟩)
   have he:(upd (upd H2 l1 (.lst [.int 1000000000])) e (.lst (((rows.drop 1).map fun r=>V.int (r.1 - 1))++[.int 1000000000]))) e=some (.lst ((ends rows).map V.int)):=by
     rw[qb];unfold ends;rw[List.map_append,List.map_map];rfl
   have C2:=Same.new (.lst (((rows.drop 1).map fun r=>V.int (r.1 - 1))++[.int 1000000000])) fe;have SS:=((B1.trans S).trans C1).trans C2;(try dsimp only);generalize upd (upd H2 l1 (.lst [.int 1000000000])) e (.lst (((rows.drop 1).map fun r=>V.int (r.1 - 1))++[.int 1000000000]))=G at he SS ⊢;have hkG:=SS _ _ hk;have tpG:=tp.same SS;refine⟨_,rfl,x,_,dx,_,_,rfl,(SS _ _ hx),T.cl_Table,T.n_Table_kept,qb6 _,_,rfl,false,k,e,rfl,⟨_,SqL.of hkG⟩,⟨_,SqL.of he⟩,fun D2 fD2=>?_⟩;have el:zs.length=((ends rows).map V.int).length:=by rw[List.length_map,qdC pos,hl]
   refine qdF (K:=K) (t:=false) (a:=k) (b:=e) (xs:=zs) (ys:=(ends rows).map V.int) (D:=D2) (fun i σ H3=>∃ (c0 c1:Option V) (ws:List V),σ=[c0,c1]∧Same G H3∧H3 D2=some (.lst ws)∧TupL pr3 H3 ws ((pcs rows).take i)) el ⟨none,none,[],rfl,Same.new _ fD2,qb,.nil⟩ (fun i σ H3 _ ⟨_,_,_,_,S3,_⟩=>⟨SqL.of (S3 _ _ hkG),SqL.of (S3 _ _ he)⟩) ?_ ?_
   · rintro i z y σ H3 p hz hy ⟨c0,c1,ws,rfl,S3,hD2,tw⟩ fp;obtain⟨ey,hey,rfl⟩:=Qu hy;obtain⟨r,u,hr',rfl,hu'⟩:=tpG.of hz;have hpc:=qeV rows i r ey hr' hey;have P1:=Same.new (.tup [.ref u,.int ey]) fp;have S4:=S3.trans P1;have hu2:=S4 _ _ hu';have et:(pcs rows).take (i+1)=(pcs rows).take i++[(r.1,ey,r.2)]:=by rw[List.take_add_one,hpc];rfl
     refine⟨p,_,rfl,SqT.of qb,rfl,_,_,rfl,_,_,rfl,rfl,?_⟩;refine⟨_,rfl,.inr (.inl ⟨u,_,_,_,rfl,rfl,SqT.of hu2,rfl,_,rfl,_,rfl,.inr (.inl ⟨u,_,_,_,rfl,rfl,SqT.of hu2,rfl,qp (Nat.le_of_ble_eq_true rfl),fun tt ft=>?_⟩)⟩)⟩;have P2:=Same.new (.tup [.int r.1,.int ey,.int r.2]) ft;have hD3:=P2 _ _ (P1 _ _ hD2);have lw:ws.length≤21:=by rw[tw.1,List.length_take,QP];omega
     refine⟨_,hD3,qB (by omega),_,_,ws++[.ref tt],rfl,(S4.trans P2).put fD2 _,qb,?_⟩;rw[et];exact(((tw.same P1).same P2).snoc (p:=(r.1,ey,r.2)) qb).put hD3
   · rintro σ H3 ⟨c0,c1,ws,rfl,S3,hD2,tw⟩;rw[hl,show rows.length=(pcs rows).length by rw[QP],List.take_length]at tw;exact kk D2 ws H3 (SS.none fD2) (SS.trans S3) hD2 tw
theorem QF {a:Ad} (T:Txt K mg a):qx P w K mg base CX0 5 a.f_7 a.fd_7 ["self","low","high"] (zn a):=by
 have G_c:=ZU (P:=P) (w:=w) (base:=base) T;have G_e:=jg (P:=P) (w:=w) (base:=base) T;have G_6:=JK (P:=P) (w:=w) (base:=base) T;refine T.d_7.F.ok QD (fun vs H Q E h=>?_) (fun cdv A outer s H vs Q E hr h=>?_)
 · obtain⟨x,rows,lo,hi,rfl,tb,good,hlo,hhi,kk⟩:=h;rfl
 · obtain⟨x,rows,lo,hi,rfl,tb,good,hlo,hhi,kk⟩:=h;have h_c:Room (4) _:=hr.mono (by decide);have h_e:Room (3) _:=hr.mono (by decide);have h_6:Room (1) _:=hr.mono (by decide)
   refine⟨_,(qf (qK (qX (qP (qj G_e h_e rfl T.d_e.m T.d_e.k T.d_e.b .nil qr (qa (pv 1) qc))))
       (qg zi)
       qw)
     (qf (qK (qX (qP (qj G_e h_e rfl T.d_e.m T.d_e.k T.d_e.b .nil qr (qa (pv 2) qc))))
       (qg zi)
       qw)
     (qg (qv (qj G_c h_c rfl T.d_c.m T.d_c.k T.d_c.b .nil qr (qa (zP rfl (CompOk.def ["start","end","shift","low","high"] [none,none,none,some 1,some 2]) (zl (zU (pv 0) T.cl_Table T.d_6.mt G_6 h_6 T.d_6.b .nil qr)) (fun _ _ _ _ _=>(show PG _ _ (qiN K 3 _) from (zu rfl (qq (qm (i:=0) (show List.Nodup (["start","end","shift","low","high"]:List Str) by decide +kernel) rfl (Or.inl rfl)) (qq (qm (i:=1) (show List.Nodup (["start","end","shift","low","high"]:List Str) by decide +kernel) rfl (Or.inl rfl)) (qq (qm (i:=2) (show List.Nodup (["start","end","shift","low","high"]:List Str) by decide +kernel) rfl (Or.inl rfl)) qR)))))) (fun _ _ _ _ _=>Qd) (fun _ _ _ _ _=>(q9 (qa (ql (zg rfl) (by rfl) T.n_max zh (qa (pv 0) (qa (qo zI (pv 3) (pv 2)) qc))) (qa (ql (zL rfl) (by rfl) T.n_min zM (qa (pv 1) (qa (qo zI (pv 4) (pv 2)) qc))) qc))))) qc)))))),?_⟩
   try dsimp only [qZ,Cx.nox]
   have lp:=QP rows;have few:=good.few;obtain⟨k0,dx,zs0,hx,hk0,tp0⟩:=id tb;refine⟨_,rfl,lo,rfl,hlo.1,hlo.2,true,rfl,zf rfl ?_⟩;refine⟨_,rfl,hi,rfl,hhi.1,hhi.2,true,rfl,zf rfl ?_⟩;refine⟨_,rfl,x,dx,_,rfl,hx,qfE _ (by decide),x,rows,rfl,tb,good,fun d zs H1 fd S1 hd tz=>⟨d,rfl,⟨_,SqL.of hd⟩,fun C fC=>?_⟩⟩;refine zw (K:=K) (a:=d) (xs:=zs) (D:=C) (fun i σ H2=>∃ (c0 c1 c2:Option V) (cs:List V),σ=[c0,c1,c2,some (.int lo),some (.int hi)]∧Same H1 H2∧H2 C=some (.lst cs)∧TupL pr H2 cs (((pcs rows).take i).map (mp lo hi))) ⟨none,none,none,[],rfl,Same.new _ fC,qb,.nil⟩ (fun i σ H2 _ ⟨_,_,_,_,_,S,_⟩=>SqL.of (S _ _ hd)) ?_ ?_
   · rintro i z σ H2 hz ⟨c0,c1,c2,cs,rfl,S,hC,tc⟩;obtain⟨r,u,hr',rfl,hu'⟩:=tz.of hz;have hu2:=S _ _ hu';have et:(pcs rows).take (i+1)=(pcs rows).take i++[r]:=by rw[List.take_add_one,hr'];rfl
     have lc:cs.length≤21:=by rw[tc.1,List.length_map,List.length_take];omega
     refine⟨u,_,rfl,SqT.of hu2,rfl,_,_,rfl,_,_,rfl,_,_,rfl,rfl,?_⟩;refine⟨_,rfl,_,rfl,_,rfl,_,_,rfl,rfl,_,_,rfl,_,rfl,_,rfl,_,rfl,_,_,rfl,rfl,_,_,rfl,qp (Nat.le_of_ble_eq_true rfl),fun tt ft=>?_⟩;have St:=Same.new (.tup (pr (mp lo hi r))) ft;have hC2:=St _ _ hC;refine⟨_,hC2,qB (by omega),_,_,_,cs++[.ref tt],rfl,(S.trans St).put fC _,qb,?_⟩;rw[et,List.map_append];exact((tc.same St).snoc (p:=mp lo hi r) qb).put hC2
   rintro σ H2 ⟨c0,c1,c2,cs,rfl,S,hC,tc⟩;rw[tz.1,List.take_length]at tc;refine⟨C,(pcs rows).map (mp lo hi),rfl,⟨cs,hC,tc⟩,.inl (by rw[List.length_map];omega),fun e r H3 fe S3 R can lr mem=>?_⟩;rw[List.length_map]at lr;exact kk e r H3 ((S1.trans S).none fe) ((S1.trans S).trans S3) R can (by omega) mem
end
abbrev fsW (nm:Str) (lo hi:Int):List (Str×V):=[("name",.str nm),("low",.int lo),("high",.int hi)]
abbrev fsB (nm pl:Str) (lo hi:Int):List (Str×V):=[("name",.str nm),("place",.str pl),("low",.int lo),("high",.int hi)]
inductive Qx (K:Frag) (vs:List V) (H:Hp) (Q:VK):Prop
 | mk (x C dx:Addr) (nm:Str) (lo hi:Int) (u:V) (h1:vs=[.ref x,u]) (h2:H x=some (.ins C dx (fsW nm lo hi))) (h3:Cls K C) (h4:NoAttr K C "low") (h5:NoAttr K C "high") (h6:∀ (d:Addr) (r:List (Int×Int)) (H':Hp),H d=none->Same H H'->Rs H' d r->zB r->r.length≤1->(∀ n,Mem r n↔Mem [(lo,hi)] n)->Q (.ref d) H'):Qx K vs H Q
def qW (K:Frag):Sp:=fun vs H Q _=>Qx K vs H Q
inductive Qc (K:Frag) (vs:List V) (H:Hp) (Q:VK):Prop
 | mk (x C dx:Addr) (nm pl:Str) (lo hi:Int) (h1:vs=[.ref x]) (h2:H x=some (.ins C dx (fsB nm pl lo hi))) (h3:Cls K C) (h4:NoAttr K C "place") (h5:∀ l,H l=none->Q (.ref l) (upd H l (.lst [.str pl]))):Qc K vs H Q
def zC (K:Frag):Sp:=fun vs H Q _=>Qc K vs H Q
theorem qjL {H:Hp}{t d:Addr}{w:Int×Int} (h1:H t=some (.tup (pr w))) (h2:H d=some (.lst [.ref t])):Rs H d [w]:=by
 refine⟨_,h2,rfl,fun j z y e1 e2=>?_⟩
 cases j with
 | zero=>cases e1;cases e2;exact⟨t,rfl,h1⟩
 | succ j=>cases e1
section
variable {P:Program}{w:World}{K:Frag}{mg:Str->Option Value}{base:Heap}
theorem Zq {a:Ad} (T:Txt K mg a):qx P w K mg base CX0 5 a.f_h a.fd_h ["self","tables"] (qW K):=by
 have G_c:=ZU (P:=P) (w:=w) (base:=base) T;refine T.d_h.F.ok Jx (fun vs H Q E h=>?_) (fun cdv A outer s H vs Q E hr h=>?_)
 · obtain⟨x,C,dx,nm,lo,hi,u,rfl,hx,cl,n1,n2,kk⟩:=h;rfl
 · obtain⟨x,C,dx,nm,lo,hi,u,rfl,hx,cl,n1,n2,kk⟩:=h;have h_c:Room (4) _:=hr.mono (by decide);refine⟨_,(qg (qv (qj G_c h_c rfl T.d_c.m T.d_c.k T.d_c.b .nil qr (qa (qG (qa (q9 (qa (zc (pv 0) rfl) (qa (zc (pv 0) rfl) qc))) qc)) qc)))),?_⟩;(try dsimp only [qZ,Cx.nox]);refine⟨_,rfl,x,_,dx,_,_,rfl,hx,cl,n1,rfl,_,rfl,x,_,dx,_,_,rfl,hx,cl,n2,rfl,qp (Nat.le_of_ble_eq_true rfl),fun t ft=>⟨qp (Nat.le_of_ble_eq_true rfl),fun d fd=>?_⟩⟩;have S1:=Same.new (.tup [.int lo,.int hi]) ft;have S2:=Same.new (.lst [.ref t]) fd;refine⟨d,[(lo,hi)],rfl,qjL (w:=(lo,hi)) (S2 _ _ qb) qb,.one _,fun e r H3 fe S3 R can lr mem=>?_⟩;exact kk e r H3 ((S1.trans S2).none fe) ((S1.trans S2).trans S3) R can lr mem
theorem jx {a:Ad} (T:Txt K mg a):qx P w K mg base CX0 1 a.f_Z a.fd_Z ["self"] (zC K):=by
 refine T.d_Z.F.ok ju (fun vs H Q E h=>?_) (fun cdv A outer s H vs Q E hr h=>?_)
 · obtain⟨x,C,dx,nm,pl,lo,hi,rfl,hx,cl,n1,kk⟩:=h;rfl
 · obtain⟨x,C,dx,nm,pl,lo,hi,rfl,hx,cl,n1,kk⟩:=h;refine⟨_,(qg (qv (qG (qa (zc (pv 0) rfl) qc)))),?_⟩;(try dsimp only [qZ,Cx.nox]);exact⟨_,rfl,x,_,dx,_,_,rfl,hx,cl,n1,rfl,qp (Nat.le_of_ble_eq_true rfl),fun l fl=>kk l fl⟩
end
theorem Good.ne {rows:List (Int×Int)} (h:Good rows):0 < rows.length:=jm h
inductive Jl (vs:List V) (H:Hp) (Q:VK):Prop
 | mk (t:Addr) (r:Int×Int) (w:Int) (h1:vs=[.ref t,.int w]) (h2:H t=some (.tup (pr r))) (h3:0≤r.1) (h4:r.1≤1000000000) (h5:-w≤r.2) (h6:r.2≤w) (h7:Q (.bl true) H):Jl vs H Q
def qbp:Sp:=fun vs H Q _=>Jl vs H Q
inductive ZE (vs:List V) (H:Hp) (Q:VK):Prop
 | mk (q:Addr) (i:Nat) (rows:List (Int×Int)) (h1:vs=[.ref q,.int i]) (h2:Rs H q rows) (h3:Good rows) (h4:i < rows.length) (h5:Q (.bl true) H):ZE vs H Q
def jE:Sp:=fun vs H Q _=>ZE vs H Q
inductive Q6 (vs:List V) (H:Hp) (Q:VK):Prop
 | mk (q:Addr) (rows:List (Int×Int)) (h1:vs=[.ref q,.int 21,.int 2880]) (h2:Rs H q rows) (h3:Good rows) (h4:∀ H',Same H H'->Q .non H'):Q6 vs H Q
def Z4:Sp:=fun vs H Q _=>Q6 vs H Q
inductive Zb (a:Ad) (vs:List V) (H:Hp) (Q:VK):Prop
 | mk (x dx q:Addr) (rows:List (Int×Int)) (h1:vs=[.ref x,.ref q]) (h2:H x=some (.ins a.c_Table dx [])) (h3:Rs H q rows) (h4:Good rows) (h5:∀ H',But x H H'->Tb a H' x rows->Q .non H'):Zb a vs H Q
def QN (a:Ad):Sp:=fun vs H Q _=>Zb a vs H Q
section
variable {P:Program}{w:World}{K:Frag}{mg:Str->Option Value}{base:Heap}
theorem qeZ {a:Ad} (T:Txt K mg a):qx P w K mg base CX0 4 a.f_I a.fd_I ["thing","widest"] qbp:=by
 have G_j:=jT (P:=P) (w:=w) (base:=base) T;have G_b:=ZV (P:=P) (w:=w) (base:=base) T;refine T.d_I.F.ok qev (fun vs H Q E h=>?_) (fun cdv A outer s H vs Q E hr h=>?_)
 · obtain⟨t,r,w,rfl,ht,h1,h2,h3,h4,kk⟩:=h;rfl
 · obtain⟨t,r,w,rfl,ht,h1,h2,h3,h4,kk⟩:=h;have hU:=hr.units;have h_j:Room (3) _:=hr.mono (by decide);have h_b:Room (2) _:=hr.mono (by decide)
   refine⟨_,(qf (qK (PW.pt (jv (qX (qP (ql zy (by rfl) T.n_isinstance qu (qa (pv 0) (qa (Qe (v:=.ty "tuple") rfl T.n_tuple ZX rfl) qc))))) (Zk (qy (uNe hU) (ql zx (by rfl) T.n_len qT (qa (pv 0) qc)) qd (qz _)))))
       (qg (qv ZT))
       qw)
     (qg (qv (qaH (qj G_j h_j rfl T.d_j.m T.d_j.k T.d_j.b .nil qr (qa (qC (r:=rIx K) qt (pv 0) qd (fun _ _=>rfl)) qc)) (qaG (qj G_b h_b rfl T.d_b.m T.d_b.k T.d_b.b .nil qr (qa (qC (r:=rIx K) qt (pv 0) qd (fun _ _=>rfl)) (qa (jd Qi (pv 1)) (qa (pv 1) qc))))))))),?_⟩
   try dsimp only [qZ,Cx.nox]
   have ty:tyN H (.ref t)=some "tuple":=by simp only[tyN];rw[ht]
   refine⟨_,rfl,_,_,_,rfl,(by decide),ty,true,rfl,zf rfl ?_⟩;refine⟨_,rfl,_,_,rfl,.inr ⟨_,SqT.of ht,rfl⟩,.inl ⟨rfl,_,rfl,qj2 (fun g=>absurd rfl g) (fun _=>?_)⟩⟩;refine⟨_,rfl,.inr (.inl ⟨t,_,_,_,rfl,rfl,SqT.of ht,rfl,r.1,rfl,h1,h2,true,rfl,qf8 ?_⟩)⟩;exact⟨_,rfl,.inr (.inl ⟨t,_,_,_,rfl,rfl,SqT.of ht,rfl,_,rfl,_,rfl,_,rfl,r.2,-w,w,rfl,h3,h4,kk⟩)⟩
theorem qbR {a:Ad} (T:Txt K mg a):qx P w K mg base CX0 1 a.f_J a.fd_J ["rows","place"] jE:=by
 refine T.d_J.F.ok qbz (fun vs H Q E h=>?_) (fun cdv A outer s H vs Q E hr h=>?_)
 · obtain⟨q,i,rows,rfl,⟨zs,hq,tp⟩,good,hi,kk⟩:=h;rfl
 · obtain⟨q,i,rows,rfl,⟨zs,hq,tp⟩,good,hi,kk⟩:=h;have hU:=hr.units
   refine⟨_,(qf (qK (qy (uEq hU) (pv 1) qd (qz _))
       (qg (qv (zv (uEq hU) (qC (r:=rIx K) qt (qC (r:=rIx K) qt (pv 0) qd (fun _ _=>rfl)) qd (fun _ _=>rfl)) qd (qz _))))
       qw)
     (qg (qv (zv qeX (qC (r:=rIx K) qt (qC (r:=rIx K) qt (pv 0) (pv 1) (fun _ _=>rfl)) qd (fun _ _=>rfl)) (qC (r:=rIx K) qt (qC (r:=rIx K) qt (pv 0) (qo zI (pv 1) qd) (fun _ _=>rfl)) qd (fun _ _=>rfl)) (qz _))))),?_⟩
   try dsimp only [qZ,Cx.nox]
   refine⟨_,rfl,.inl ⟨rfl,_,rfl,?_⟩⟩;obtain⟨r,hr'⟩:∃ r,rows[i]?=some r:=⟨_,List.getElem?_eq_getElem hi⟩
   obtain⟨t,hz,ht⟩:=tp.at_ hr';refine ZW (fun g=>?_) (fun g=>?_)
   · have g0:i=0:=by injection g with g;omega
     subst g0;obtain⟨n,hn⟩:=good.fst
     have e:r=(0,n):=by
       rw[List.head?_eq_getElem?,hr']at hn;exact Option.some.inj hn
     subst e;refine⟨_,rfl,.inl ⟨q,_,_,_,rfl,rfl,SqL.of hq,Zu hz,.inr (.inl ⟨t,_,_,_,rfl,rfl,SqT.of ht,rfl,.inl ⟨rfl,?_⟩⟩)⟩⟩;exact kk
   · have g1:0 < i:=by
       refine Nat.pos_of_ne_zero fun z=>g ?_;rw[z];rfl
     obtain⟨r0,hr0⟩:∃ r,rows[i - 1]?=some r:=⟨_,List.getElem?_eq_getElem (by omega)⟩
     obtain⟨t0,hz0,ht0⟩:=tp.at_ hr0
     have lt:r0.1 < r.1:=by
       obtain⟨l1,e1⟩:=List.getElem?_eq_some_iff.mp hr0;obtain⟨l2,e2⟩:=List.getElem?_eq_some_iff.mp hr'
       have:=List.pairwise_iff_getElem.mp good.asc (i - 1) i l1 l2 (by omega)
       rw[e1,e2]at this;exact this
     refine⟨_,rfl,_,rfl,.inl ⟨q,_,_,_,rfl,rfl,SqL.of hq,Zu hz,.inr (.inl ⟨t,_,_,_,rfl,rfl,SqT.of ht,rfl,_,rfl,_,rfl,_,_,rfl,rfl,.inl ⟨q,_,_,_,rfl,rfl,SqL.of hq,(by show atI zs ((i:Int) - 1)=_;rw[show (i:Int) - 1=((i - 1:Nat):Int) by omega];exact Zu hz0),.inr (.inl ⟨t0,_,_,_,rfl,rfl,SqT.of ht0,rfl,_,_,rfl,rfl,?_⟩)⟩⟩)⟩⟩;show Q (.bl (decide (r0.1 < r.1))) H;rw[decide_eq_true lt];exact kk
theorem qbb {a:Ad} (T:Txt K mg a):qx P w K mg base CX0 5 a.f_K a.fd_K ["rows","most","widest"] Z4:=by
 have G_I:=qeZ (P:=P) (w:=w) (base:=base) T;have G_J:=qbR (P:=P) (w:=w) (base:=base) T;refine T.d_K.F.ok sc_check_rows (fun vs H Q E h=>?_) (fun cdv A outer s H vs Q E hr h=>?_)
 · obtain⟨q,rows,rfl,⟨zs,hq,tp⟩,good,kk⟩:=h;rfl
 · obtain⟨q,rows,rfl,⟨zs,hq,tp⟩,good,kk⟩:=h;have hU:=hr.units;have h_I:Room (4) _:=hr.mono (by decide);have h_J:Room (1) _:=hr.mono (by decide)
   refine⟨_,(qf (qK (PW.pt (jv (qX (qP (ql zy (by rfl) T.n_isinstance qu (qa (pv 0) (qa (Qe (v:=.ty "list") rfl T.n_list zZ rfl) qc))))) (Zk (qy (uEq hU) (ql zx (by rfl) T.n_len qT (qa (pv 0) qc)) qd (qz _)))))
       (qg zi)
       qw)
     (qf (qK (qy qeX (ql zx (by rfl) T.n_len qT (qa (pv 0) qc)) (pv 1) (qz _))
       (qg zi)
       qw)
     (qg (QZ PassesOwn.never rfl (qeS rfl T.n_enumerate (qa (pv 0) qc)) (zu rfl (qq (qm (i:=3) (sc_check_rows.nd) rfl (Or.inl rfl)) (qq (qm (i:=4) (sc_check_rows.nd) rfl (Or.inl rfl)) qR)))
       (qg (qK (PW.pt (jv (qX (qP (qj G_I h_I rfl T.d_I.m T.d_I.k T.d_I.b .nil qr (qa (pv 4) (qa (pv 2) qc))))) (Zk (qX (qP (qj G_J h_J rfl T.d_J.m T.d_J.k T.d_J.b .nil qr (qa (pv 0) (qa (pv 3) qc))))))))
         (qg zi)
         qw)))))),?_⟩
   try dsimp only [qZ,Cx.nox]
   have hl:zs.length=rows.length:=tp.1;have few:=good.few;have pos:=good.ne;have ty:tyN H (.ref q)=some "list":=by simp only[tyN];rw[hq]
   refine⟨_,rfl,_,_,_,rfl,(by decide),ty,true,rfl,zf rfl ?_⟩;refine⟨_,rfl,_,_,rfl,.inl ⟨_,SqL.of hq,rfl⟩,.inl ⟨rfl,_,rfl,ZW (fun g=>?_) (fun _=>?_)⟩⟩
   · injection g with g;omega
   refine⟨_,rfl,_,_,rfl,.inl ⟨_,SqL.of hq,rfl⟩,_,rfl,_,_,rfl,rfl,_,rfl,ZW (fun g=>?_) (fun _=>?_)⟩
   · omega
   refine⟨_,rfl,q,rfl,⟨zs,SqL.of hq⟩,qdA (K:=K) (a:=q) (xs:=zs) (fun i σ H2=>∃ s3 s4:Option V,σ=[some (.ref q),some (.int 21),some (.int 2880),s3,s4]∧Same H H2) ⟨none,none,rfl,Same.refl H⟩ (fun i σ H2 _ ⟨_,_,_,S⟩=>SqL.of (S _ _ hq)) ?_ ?_⟩
   · rintro i x σ H2 p hx ⟨s3,s4,rfl,S⟩ hn;have S2:Same H (upd H2 p (.tup [.int i,x])):=S.then _ hn
     have hi:i < rows.length:=by rw[← hl];exact(List.getElem?_eq_some_iff.mp hx).1
     obtain⟨r,hr'⟩:∃ r,rows[i]?=some r:=⟨_,List.getElem?_eq_getElem hi⟩
     obtain⟨t,rfl,ht⟩:=tp.2 i x r hx hr';have ok:=good.ok r (List.mem_of_getElem? hr');refine⟨p,_,rfl,SqT.of qb,rfl,_,_,rfl,_,_,rfl,rfl,?_⟩;refine⟨_,rfl,_,rfl,t,r,2880,rfl,S2 _ _ ht,ok.1,ok.2.1,ok.2.2.1,ok.2.2.2,true,rfl,zf rfl ?_⟩;exact⟨_,rfl,_,rfl,q,i,rows,rfl,⟨zs,S2 _ _ hq,tp.same S2⟩,good,hi,true,rfl,zf rfl ⟨_,_,rfl,S2⟩⟩
   · rintro σ H2 ⟨s3,s4,rfl,S⟩;exact kk H2 S
theorem jj {a:Ad} (T:Txt K mg a):qx P w K mg base CX0 6 a.f_o a.fd_o ["self","rows"] (QN a):=by
 have G_K:=qbb (P:=P) (w:=w) (base:=base) T;refine T.d_o.F.ok qa3 (fun vs H Q E h=>?_) (fun cdv A outer s H vs Q E hr h=>?_)
 · obtain⟨x,dx,q,rows,rfl,hx,hrs,good,kk⟩:=h;rfl
 · obtain⟨x,dx,q,rows,rfl,hx,hrs,good,kk⟩:=h;have h_K:Room (5) _:=hr.mono (by decide);obtain⟨t_MOST_ROWS,c_MOST_ROWS⟩:=T.g_MOST_ROWS;obtain⟨t_WIDEST_SHIFT,c_WIDEST_SHIFT⟩:=T.g_WIDEST_SHIFT
   refine⟨_,(qf (qJ (qj G_K h_K rfl T.d_K.m T.d_K.k T.d_K.b .nil qr (qa (pv 1) (qa (qY (v:=.int 21) rfl c_MOST_ROWS ⟨_,rfl⟩) (qa (qY (v:=.int 2880) rfl c_WIDEST_SHIFT ⟨_,rfl⟩) qc)))))
     (qg (jb (pv 0) (je (r:=qll K) jW (by rfl) T.n_list zZ (qa (pv 1) qc)) rfl))),?_⟩
   try dsimp only [qZ,Cx.nox]
   refine⟨_,rfl,q,rows,rfl,hrs,good,fun G1 S1=>?_⟩;obtain⟨zs,hq,tp⟩:=hrs.same S1;have hx1:=S1 _ _ hx;refine⟨_,rfl,q,zs,rfl,.inl (SqL.of hq),fun k fk=>?_⟩;have nkx:x≠k:=qh hx1 fk;refine⟨_,rfl,x,_,dx,[],rfl,(qi nkx).trans hx1,T.cl_Table,T.n_Table_kept,(by show 0 < 1000;decide),?_⟩;have fkH:H k=none:=S1.none fk;refine kk _ (fun c o e n=>?_) ⟨k,dx,zs,qb,(qi nkx.symm).trans qb,⟨tp.1,fun i z p e1 e2=>?_⟩⟩
   · rw[qi n,qi (qh e fkH)];exact S1 _ _ e
   · obtain⟨t,et,ht⟩:=tp.2 i z p e1 e2;refine⟨t,et,?_⟩;rw[qi (zd ht hx1 (by intro z;cases z)),qi (qh ht fk)];exact ht
end
abbrev abc:Str:="abcdefghijklmnopqrstuvwxyz"
abbrev ch (c:Nat):Str:=⟨#[c]⟩
abbrev chs (cs:List Nat):List Str:=cs.map ch
def Ltr (c:Nat):Prop:=97≤c∧c < 123
theorem qhX {i:Int} (h0:0≤i) (h1:i < 26):atI abc.cps.toList i=some (97+i.toNat):=by
 have:∀ n:Fin 26,atI abc.cps.toList ((n.1:Nat):Int)=some (97+n.1):=by decide +kernel
 have:=this ⟨i.toNat,by omega⟩
 rwa [Int.toNat_of_nonneg h0]at this
theorem qie {c:Nat} (h:Ltr c):sgn c=true:=by
 have:∀ n:Fin 26,sgn (97+n.1)=true:=by decide +kernel
 have:=this ⟨c - 97,by have:=h.1;have:=h.2;omega⟩
 rwa [show 97+(c - 97)=c by have:=h.1;omega]at this
theorem qfv:∀ cs:List Nat,(Txt.join "" (chs cs)).cps.toList=cs
 | []=>rfl
 | [c]=>rfl
 | c::d::r=>by
   have ih:=qfv (d::r);have g:∀ ys:List Str,Txt.join "" ys=Str.join "" ys:=fun ys=>StrLaws.glued_eq_join _ _;rw[g]at ih ⊢;show (ch c++("":Str)++Str.join "" (chs (d::r))).cps.toList=_;have e:∀ x y:Str,(x++y).cps.toList=x.cps.toList++y.cps.toList:=fun x y=>Array.toList_append;rw[e,e,ih];rfl
theorem qcM (x y:Str):(x++y).cps.toList=x.cps.toList++y.cps.toList:=Array.toList_append
theorem qcD (x:Str):x.length=x.cps.toList.length:=Array.length_toList.symm
theorem qb0 (cs:List Nat):(Txt.join "" (chs cs)).length=cs.length:=by rw[qcD,qfv]
theorem qfM (cs:List Nat):((chs cs).map (·.length)).sum+(chs cs).length * ("":Str).length=cs.length:=by
 have e:((chs cs).map (·.length)).sum=cs.length:=by
   induction cs with
   | nil=>rfl
   | cons c r ih =>
     show (ch c).length+((chs r).map (·.length)).sum=_;rw[ih];show 1+_=_;rw[List.length_cons];omega
 rw[e];rfl
theorem qgK {x:Str}{cs:List Nat} (e:x.cps.toList=cs) (h1:1≤cs.length) (h8:cs.length≤8) (hl:∀ c∈cs,Ltr c):ze (.str x)=true:=by
 have:x.length=cs.length:=by rw[qcD,e]
 simp only[ze,Bool.and_eq_true,decide_eq_true_eq];rw[this,e];exact⟨⟨h1,h8⟩,List.all_eq_true.mpr fun c m=>qie (hl c m)⟩
abbrev odds:List Int:=[1,3,5,7,9,11,15,17,19,21,23,25]
theorem qgF {s f:Int}{j k:Nat} (h:s∈odds) (hj:j < 26) (hk:k < 26) (e:(f+s * (j:Int)) % 26=(f+s * (k:Int)) % 26):j=k:=by
 simp only[List.mem_cons,List.not_mem_nil,or_false]at h;rcases h with rfl|rfl|rfl|rfl|rfl|rfl|rfl|rfl|rfl|rfl|rfl|rfl<;>omega
structure Nms (ns:List Str):Prop where
 nm:∀ x∈ns,ze (.str x)=true
 nd:ns.Nodup
def NmsI (pre:List Nat) (f s:Int) (xs:List Str):Prop:=∀ (j:Nat) (x:Str),xs[j]?=some x->ze (.str x)=true∧∃ suf,x.cps.toList=pre++(97+((f+s * (j:Int)) % 26).toNat)::suf
theorem NmsI.nil {pre:List Nat}{f s:Int}:NmsI pre f s []:=fun j x e=>by cases e
theorem NmsI.snoc {pre:List Nat}{f s:Int}{xs:List Str}{x:Str} (h:NmsI pre f s xs) (h1:ze (.str x)=true) {suf:List Nat} (h2:x.cps.toList=pre++(97+((f+s * (xs.length:Int)) % 26).toNat)::suf):NmsI pre f s (xs++[x]):=fun j y e=>by
 by_cases hj:j < xs.length
 · rw[List.getElem?_append_left hj]at e;exact h j y e
 · rw[List.getElem?_append_right (by omega)]at e
   have hj2:j=xs.length:=by
     have:=(List.getElem?_eq_some_iff.mp e).1
     simp at this;omega
   subst hj2;rw[Nat.sub_self]at e;cases e;exact⟨h1,suf,h2⟩
theorem NmsI.end_ {pre:List Nat}{f s:Int}{xs:List Str} (h:NmsI pre f s xs) (hs:s∈odds) (hl:xs.length≤26):Nms xs:=by
 refine⟨fun x m=>?_,?_⟩
 · obtain⟨j,hj⟩:=List.getElem?_of_mem m;exact(h j x hj).1
 · rw[List.Nodup,List.pairwise_iff_getElem];intro i j hi hj hij e;obtain⟨_,s1,e1⟩:=h i _ (List.getElem?_eq_getElem hi);obtain⟨_,s2,e2⟩:=h j _ (List.getElem?_eq_getElem hj);rw[e,e2]at e1;have e3:=List.append_cancel_left e1;injection e3 with e4 _
   have:=qgF (f:=f) (j:=i) (k:=j) hs (by omega) (by omega) (by omega)
   omega
theorem qiX (cs:List Nat) (lo hi:Option Int):∃ ds:List Nat,qga ((chs cs).map V.str) lo hi=(chs ds).map V.str∧ds=(cs.drop (HT.sIx cs.length 0 lo)).take (HT.sIx cs.length cs.length hi - HT.sIx cs.length 0 lo):=by
 refine⟨_,?_,rfl⟩;unfold qga;simp only[chs,List.length_map,List.map_take,List.map_drop]
inductive Jr (vs:List V) (H:Hp) (Q:VK):Prop
 | mk (p:Addr) (many:Int) (h1:vs=[.ref p,.int many]) (h2:PenAt H p) (h3:0≤many) (h4:many≤26) (h5:∀ (q:Addr) (ns:List Str) (H':Hp),H q=none->But p H H'->PenAt H' p->H' q=some (.lst (ns.map V.str))->(ns.length:Int)=many->Nms ns->Q (.ref q) H'):Jr vs H Q
def qbu:Sp:=fun vs H Q _=>Jr vs H Q
section
variable {P:Program}{w:World}{K:Frag}{mg:Str->Option Value}{base:Heap}
theorem qe4 {a:Ad} (T:Txt K mg a):qx P w K mg base CX0 3 a.f_N a.fd_N ["_law_state","_law_many"] qbu:=by
 have G_a:=Zy (P:=P) (w:=w) (base:=base) T;refine T.d_N.F.ok sc_Lnames (fun vs H Q E h=>?_) (fun cdv A outer s H vs Q E hr h=>?_)
 · obtain⟨p,many,rfl,hp,many0,many1,kk⟩:=h;rfl
 · obtain⟨p,many,rfl,hp,many0,many1,kk⟩:=h;have h_a:Room (2) _:=hr.mono (by decide)
   refine⟨_,(@qf _ _ _ _ _ (by exact(qA (i:=2) sc_Lnames.nd rfl (Or.inr rfl) qH))
     (by exact(@qf _ _ _ _ _ (by exact(qA (i:=3) sc_Lnames.nd rfl (Or.inl rfl) (qo zV qd (qj G_a h_a rfl T.d_a.m T.d_a.k T.d_a.b .nil qr (qa (pv 0) (qa qd qc))))))
     (by exact(@qf _ _ _ _ _ (by exact(qA (i:=4) sc_Lnames.nd rfl (Or.inl rfl) (qj G_a h_a rfl T.d_a.m T.d_a.k T.d_a.b .nil qr (qa (pv 0) (qa (pv 3) qc)))))
     (by exact(@qf _ _ _ _ _ (by exact(qcr (i:=5) sc_Lnames.nd rfl (Or.inl rfl) rfl (CompOk.def ["_law_k","_law_letters","_law_state"] [none,some 2,some 0]) (jc rfl T.n_range (qa (pv 3) qc)) (fun _ _ _ _ _=>(qm (i:=0) (show List.Nodup (["_law_k","_law_letters","_law_state"]:List Str) by decide +kernel) rfl (Or.inl rfl))) (fun _ _ _ _ _=>Qd) (fun _ _ _ _ _=>(qC (r:=rIx K) qt (pv 1) (qj G_a h_a rfl T.d_a.m T.d_a.k T.d_a.b .nil qr (qa (pv 2) (qa qd qc))) (fun _ _=>rfl)))))
     (by exact(@qf _ _ _ _ _ (by exact(qA (i:=6) sc_Lnames.nd rfl (Or.inl rfl) (qj G_a h_a rfl T.d_a.m T.d_a.k T.d_a.b .nil qr (qa (pv 0) (qa qd qc)))))
     (by exact(@qf _ _ _ _ _ (by exact(@qA _ _ 7 _ _ _ _ (by exact sc_Lnames.nd) (by rfl) (by exact(Or.inl rfl)) (by exact(@qC _ _ _ _ _ _ (rIx K) (by exact qt) (by exact(@qG _ _ _ _ (by exact(@qa _ _ _ _ _ (by exact qd) (by exact(@qa _ _ _ _ _ (by exact qd) (by exact(@qa _ _ _ _ _ (by exact qd) (by exact(@qa _ _ _ _ _ (by exact qd) (by exact(@qa _ _ _ _ _ (by exact qd) (by exact(@qa _ _ _ _ _ (by exact qd) (by exact(@qa _ _ _ _ _ (by exact qd) (by exact(@qa _ _ _ _ _ (by exact qd) (by exact(@qa _ _ _ _ _ (by exact qd) (by exact(@qa _ _ _ _ _ (by exact qd) (by exact(@qa _ _ _ _ _ (by exact qd) (by exact(@qa _ _ _ _ _ (by exact qd) (by exact(@qc _)) (by rfl))) (by rfl))) (by rfl))) (by rfl))) (by rfl))) (by rfl))) (by rfl))) (by rfl))) (by rfl))) (by rfl))) (by rfl))) (by rfl))))) (by exact(qj G_a h_a rfl T.d_a.m T.d_a.k T.d_a.b .nil qr (qa (pv 0) (qa qd qc)))) (by exact fun _ _=>rfl))) (by rfl) (by exact .inl rfl)))
     (by exact(qf (qA (i:=8) sc_Lnames.nd rfl (Or.inl rfl) (qG qc))
     (qf (QZ PassesOwn.never rfl (jc rfl T.n_range (qa (pv 1) qc)) (qm (i:=9) (sc_Lnames.nd) rfl (Or.inl rfl))
       (qf (qA (i:=10) sc_Lnames.nd rfl (Or.inl rfl) (Je uSl (pv 5) (JH (qo zV (pv 4) qd)) (JH (qo zV (qo zV (pv 4) qd) (qj G_a h_a rfl T.d_a.m T.d_a.k T.d_a.b .nil qr (qa (pv 0) (qa (qo zI (pv 3) (pv 4)) qc)))))))
       (qf (qA (i:=11) sc_Lnames.nd rfl (Or.inl rfl) (qC (r:=rIx K) qt (pv 2) (qo za (qo zV (pv 6) (qo zJ (pv 7) (pv 9))) qd) (fun _ _=>rfl)))
       (qg (qJ (qbP PySem.F.plainAttrs_list PySem.F.slot_list_append PySem.F.type_list_append Qf (pv 8) (qa (qo zV (qo zV (qbP PySem.F.plainAttrs_str PySem.F.slot_str_join PySem.F.type_str_join qfc qH (qa (Je uSl (pv 5) qcs (JH (pv 4))) qc)) (pv 11)) (qbP PySem.F.plainAttrs_str PySem.F.slot_str_join PySem.F.type_str_join qfc qH (qa (pv 10) qc))) qc)))))))
     (qg (qv (pv 8))))))))))))))))),?_⟩
   try dsimp only [qZ,Cx.nox]
   have p0:PenAt H p:=hp;have t0:But p H H:=But.refl p H;refine⟨_,rfl,p,_,rfl,p0,by decide,by decide,fun dz G1 dz0 dz1 u1 p1=>?_⟩;have t1:=t0.trans u1;refine .inl ⟨_,_,rfl,rfl,?_⟩;(try unfold qE);(try dsimp only);obtain⟨z,hz⟩:∃ z:Int,z=1+dz:=⟨_,rfl⟩
   rw[← hz];refine⟨_,rfl,_,rfl,p,_,rfl,p1,by omega,by omega,fun at_ G2 at_0 at_1 u2 p2=>?_⟩;have t2:=t1.trans u2;refine⟨_,rfl,_,rfl,by omega,by omega,fun D fD=>?_⟩;have nD:D≠p:=p2.ne fD;refine qaO (lo:=0) (n:=z.toNat) (D:=D) (fun i σ H2=>∃ (s0:Option V) (cs:List Nat),σ=[s0,some (.str abc),some (.ref p)]∧But p G2 H2∧PenAt H2 p∧H2 D=some (.lst ((chs cs).map V.str))∧cs.length=i∧∀ c∈cs,Ltr c)
     ⟨none,[],rfl,fun b o z n=>by rw[qi (qh z fD)];exact z,p2.upd nD _,qb,rfl,fun y hy=>nomatch hy⟩ ?_ ?_
   · rintro i σ H2 hi ⟨s0,cs,rfl,t2,p2,hD,hl,hc⟩;refine⟨_,rfl,_,rfl,p,_,rfl,p2,by decide,by decide,fun d H3 d0 d1 B3 p3=>?_⟩;refine .inr (.inr ⟨_,_,_,rfl,rfl,qp (by decide +kernel),qhX d0 d1,?_⟩);refine⟨_,B3 _ _ hD nD,qB (by rw[List.length_map,List.length_map];omega),?_⟩;refine⟨_,cs++[97+d.toNat],rfl,?_,p3.upd nD _,?_,?_,?_⟩
     · intro b o z n;rw[qi (qh z fD)];exact B3 b o (t2 b o z n) n
     · rw[qb];simp only[chs,List.map_append];rfl
     · rw[List.length_append,hl];rfl
     · intro c hm;rcases List.mem_append.mp hm with z|z
       · exact hc c z
       · rw[show c=97+d.toNat by simpa using z];exact⟨by omega,by omega⟩
   rintro σ H2 ⟨s0,cs,rfl,tC,pC,hD,hl,hc⟩;have fD0:H D=none:=t2.none fD nD;have T2:But p H H2:=t2.trans tC;clear tC;have p0:PenAt H2 p:=pC;have t0:But p H2 H2:=But.refl p H2;refine⟨_,rfl,p,_,rfl,p0,by decide,by decide,fun fi G1 fi0 fi1 u1 p1=>?_⟩;have t1:=t0.trans u1;refine⟨(qp (Nat.le_of_ble_eq_true rfl)),fun ol f_ol=>?_⟩;have n_ol:ol≠p:=p1.ne f_ol;have e_ol:(upd G1 ol (.lst [.int 1,.int 3,.int 5,.int 7,.int 9,.int 11,.int 15,.int 17,.int 19,.int 21,.int 23,.int 25])) ol=some (.lst [.int 1,.int 3,.int 5,.int 7,.int 9,.int 11,.int 15,.int 17,.int 19,.int 21,.int 23,.int 25]):=qb;have p2:PenAt (upd G1 ol (.lst [.int 1,.int 3,.int 5,.int 7,.int 9,.int 11,.int 15,.int 17,.int 19,.int 21,.int 23,.int 25])) p:=p1.upd n_ol _;have u2:Same G1 (upd G1 ol (.lst [.int 1,.int 3,.int 5,.int 7,.int 9,.int 11,.int 15,.int 17,.int 19,.int 21,.int 23,.int 25])):=Same.new _ f_ol;have t2:=t1.same u2;(try dsimp only);generalize upd G1 ol (.lst [.int 1,.int 3,.int 5,.int 7,.int 9,.int 11,.int 15,.int 17,.int 19,.int 21,.int 23,.int 25])=G2 at e_ol p2 u2 t2 ⊢;refine⟨_,rfl,p,_,rfl,p2,by decide,by decide,fun ds G3 ds0 ds1 u3 p3=>?_⟩;have t3:=t2.trans u3;obtain⟨v,hv,mv⟩:=qaT (xs:=odds.map V.int) ds0 ds1;obtain⟨st,ho,rfl⟩:=List.mem_map.mp mv;refine .inl ⟨ol,_,_,_,rfl,rfl,SqL.of (u3 _ _ e_ol n_ol),hv,?_⟩
   have st0:1≤st∧st≤25:=by
     simp only[List.mem_cons,List.not_mem_nil,or_false]at ho;rcases ho with rfl|rfl|rfl|rfl|rfl|rfl|rfl|rfl|rfl|rfl|rfl|rfl<;>decide
   refine⟨(qp (Nat.le_of_ble_eq_true rfl)),fun q f_q=>?_⟩;have n_q:q≠p:=p3.ne f_q;have e_q:(upd G3 q (.lst [])) q=some (.lst []):=qb;have p4:PenAt (upd G3 q (.lst [])) p:=p3.upd n_q _;have u4:Same G3 (upd G3 q (.lst [])):=Same.new _ f_q;have t4:=t3.same u4;(try dsimp only);generalize upd G3 q (.lst [])=G4 at e_q p4 u4 t4 ⊢;have fq0:H q=none:=T2.none ((t3).none f_q n_q) n_q;have hD0:=(u4 _ _ (u3 _ _ (u2 _ _ (u1 _ _ hD nD)) nD))
   have B0:But p H G4:=T2.trans t4
   have nDq:D≠q:=zd hD0 e_q (by
     intro z;injection z with z;have z:=congrArg List.length z;rw[List.length_map,List.length_map,hl]at z
     simp at z;omega)
   obtain⟨pre,hpre⟩:∃ pre,pre=cs.take at_.toNat:=⟨_,rfl⟩
   have lpre:pre.length=at_.toNat:=by rw[hpre,List.length_take];omega
   have cpre:∀ c∈pre,Ltr c:=fun c m=>hc c (List.mem_of_mem_take (hpre▸m));(try unfold qE);(try dsimp only);refine⟨_,rfl,_,rfl,by omega,by omega,JZ (lo:=0) (D:={ nx:=qh6 (qjl 8) { nx:=fun _ H'=>Q .non H',rt:=Q },rt:=Q }) (fun i σ H3=>∃ (s9 s10 s11:Option V) (xs:List Str),σ=[some (.ref p),some (.int many),some (.str abc),some (.int z),some (.int at_),some (.ref D),some (.int fi),some (.int st),some (.ref q),s9,s10,s11]∧But p H H3∧PenAt H3 p∧H3 D=some (.lst ((chs cs).map V.str))∧H3 q=some (.lst (xs.map V.str))∧xs.length=i∧NmsI pre fi st xs) ⟨_,_,_,[],rfl,B0,p4,hD0,e_q,rfl,.nil⟩ ?_ ?_⟩
   · rintro i σ H3 hi ⟨s9,s10,s11,xs,rfl,B,pB,hD3,hq3,lx,nm⟩;refine⟨_,rfl,_,rfl,.inl ⟨_,_,rfl,rfl,_,rfl,_,rfl,.inl ⟨_,_,rfl,rfl,_,rfl,_,rfl,_,rfl,_,_,rfl,rfl,p,_,rfl,pB,by omega,by omega,fun d H4 d0 d1 B4 p4=>?_⟩⟩⟩;refine .inl ⟨_,_,rfl,rfl,_,rfl,.inl ⟨D,_,rfl,SqL.of (B4 _ _ hD3 nD),fun b fb=>?_⟩⟩;have nb:b≠p:=p4.ne fb;obtain⟨ds,ed,hds⟩:=qiX cs (some (at_+1)) (some (at_+1+d));rw[ed]
     have lds:ds.length≤7 - at_.toNat:=by
       rw[hds,List.length_take,List.length_drop];rw[show at_+1=((at_.toNat+1:Nat):Int) by omega,HT.sIx_nat];omega
     have cds:∀ c∈ds,Ltr c:=fun c m=>hc c (List.mem_of_mem_drop (List.mem_of_mem_take (hds▸m)));have Sb:=Same.new (.lst ((chs ds).map V.str)) fb;have hb5:(upd H4 b (.lst ((chs ds).map V.str))) b=some (.lst ((chs ds).map V.str)):=qb;have p5:=p4.upd nb (.lst ((chs ds).map V.str));have B5:But p H3 (upd H4 b (.lst ((chs ds).map V.str))):=B4.same Sb;(try unfold qE);(try dsimp only);generalize upd H4 b (.lst ((chs ds).map V.str))=G5 at Sb hb5 p5 B5 ⊢;have m0:0≤(fi+st * (0+(i:Int))) % 26:=Int.emod_nonneg _ (by decide);have m1:(fi+st * (0+(i:Int))) % 26 < 26:=Int.emod_lt_of_pos _ (by decide);refine⟨_,rfl,_,rfl,_,rfl,_,rfl,_,_,rfl,rfl,.inl ⟨by omega,by omega⟩,.inl ⟨_,_,rfl,rfl,_,_,rfl,rfl,(by show (0:Int) < _;decide),.inr (.inr ⟨_,_,_,rfl,rfl,qp (by decide +kernel),qhX m0 m1,?_⟩)⟩⟩;have hD5:=B5 _ _ hD3 nD;have hq5:=B5 _ _ hq3 n_q;refine⟨_,rfl,.inl ⟨rfl,_,SqL.of hq5⟩,rfl,_,rfl,_,rfl,_,rfl,.inl ⟨D,_,rfl,SqL.of hD5,fun c fc=>?_⟩⟩;have nc:c≠p:=p5.ne fc;rw[qhe _ at_.toNat _ (by omega),show ((chs cs).map V.str).take at_.toNat=(chs pre).map V.str by rw[hpre];simp only[chs,List.map_take]];have Sc:=Same.new (.lst ((chs pre).map V.str)) fc;have hc6:(upd G5 c (.lst ((chs pre).map V.str))) c=some (.lst ((chs pre).map V.str)):=qb;have p6:=p5.upd nc (.lst ((chs pre).map V.str));have hb6:=Sc _ _ hb5;have hq6:=Sc _ _ hq5;have hD6:=Sc _ _ hD5;have B6:But p H3 (upd G5 c (.lst ((chs pre).map V.str))):=B5.same Sc;(try unfold qE);(try dsimp only);generalize upd G5 c (.lst ((chs pre).map V.str))=G6 at hc6 p6 hb6 hq6 hD6 B6 ⊢;refine⟨_,c,_,rfl,rfl,SqL.of hc6,(by rw[qfM,lpre];omega),_,rfl,.inr (.inr ⟨_,_,rfl,rfl,?_,?_⟩)⟩
     · rw[qb0,lpre];exact qp (by show at_.toNat+1≤1000;omega)
     refine⟨rfl,_,rfl,_,b,_,rfl,rfl,SqL.of hb6,(by rw[qfM];omega),.inr (.inr ⟨_,_,rfl,rfl,?_,?_⟩)⟩
     · rw[qcD,qcM,qfv,qb0];exact qp (by rw[List.length_append,lpre];show _+1+_≤1000;omega)
     refine⟨q,_,_,rfl,rfl,hq6,qB (by rw[List.length_map];omega),?_⟩
     have ex:(Txt.join "" (chs pre)++ch (97+((fi+st * (0+(i:Int))) % 26).toNat)++Txt.join "" (chs ds)).cps.toList=pre++(97+((fi+st * (xs.length:Int)) % 26).toNat)::ds:=by
       rw[qcM,qcM,qfv,qfv,lx,Int.zero_add,List.append_assoc];rfl
     refine⟨_,_,_,xs++[_],rfl,?_,p6.upd n_q _,(by rw[qi nDq];exact hD6),(by rw[qb,List.map_append];rfl),(by rw[List.length_append,lx];rfl),nm.snoc (qgK ex ?_ ?_ ?_) ex⟩
     · intro b o z nb;rw[qi (qh z fq0)];exact B6 b o (B b o z nb) nb
     · rw[List.length_append,List.length_cons];omega
     · rw[List.length_append,List.length_cons,lpre];omega
     · intro c hm;rcases List.mem_append.mp hm with z|z
       · exact cpre c z
       · rcases List.mem_cons.mp z with z|z
         · rw[z,lx];rw[Int.zero_add]at m0 m1;exact⟨by omega,by omega⟩
         · exact cds c z
   · rintro σ H3 ⟨s9,s10,s11,xs,rfl,B,pB,hD3,hq3,lx,nm⟩;exact⟨_,rfl,kk q xs H3 fq0 B pB hq3 (by rw[lx];omega) (nm.end_ ho (by omega))⟩
end
inductive qar (vs:List V) (H:Hp) (Q:VK):Prop
 | mk (q r:Addr) (ws:List (Int×Int)) (h1:vs=[.ref q,.ref r]) (h2:Rs H q ws) (h3:Rs H r ws) (h4:ws.length≤20000) (h5:∀ H',Same H H'->Q (.bl true) H'):qar vs H Q
def qcX:Sp:=fun vs H Q _=>qar vs H Q
section
variable {P:Program}{w:World}{K:Frag}{mg:Str->Option Value}{base:Heap}
theorem qgz {a:Ad} (T:Txt K mg a):qx P w K mg base CX0 1 a.f_v a.fd_v ["_law_found","_law_due"] qcX:=by
 refine T.d_v.F.ok sc_Lsame (fun vs H Q E h=>?_) (fun cdv A outer s H vs Q E hr h=>?_)
 · obtain⟨q,r,ws,rfl,hrs,hrr,few,kk⟩:=h;rfl
 · obtain⟨q,r,ws,rfl,hrs,hrr,few,kk⟩:=h;have hU:=hr.units
   refine⟨_,(qf (qK (PW.pt (jv (qX (qP (ql zy (by rfl) T.n_isinstance qu (qa (pv 0) (qa (Qe (v:=.ty "list") rfl T.n_list zZ rfl) qc))))) (Zk (qy (uNe hU) (pv 0) (pv 1) (qz _)))))
       (qg (qv ZT))
       qw)
     (qf (QZ PassesOwn.never rfl (zl (pv 0)) (qm (i:=2) (sc_Lsame.nd) rfl (Or.inl rfl))
       (qg (qK (PW.pt (jv (qX (qP (ql zy (by rfl) T.n_isinstance qu (qa (pv 2) (qa (Qe (v:=.ty "tuple") rfl T.n_tuple ZX rfl) qc))))) (Zk (qy (uNe hU) (zP rfl (CompOk.def ["_law_one"] [none]) (qjD (pv 2)) (fun _ _ _ _ _=>(qm (i:=0) (show List.Nodup (["_law_one"]:List Str) by decide +kernel) rfl (Or.inl rfl))) (fun _ _ _ _ _=>(qa6 (qP (ql zy (by rfl) T.n_isinstance qu (qa (pv 0) (qa (Qe (v:=.ty "bool") rfl T.n_bool jB rfl) qc)))))) (fun _ _ _ _ _=>(pv 0))) (qG qc) (qz _)))))
         (qg (qv ZT))
         qw)))
     (qg (qv ZT)))),?_⟩
   try dsimp only [qZ,Cx.nox]
   obtain⟨zs,hq,tp⟩:=id hrs;obtain⟨ys,hr',tr⟩:=id hrr;have ty:tyN H (.ref q)=some "list":=by simp only[tyN];rw[hq]
   refine⟨_,rfl,_,_,_,rfl,(by decide),ty,true,rfl,zf rfl ?_⟩;refine⟨_,rfl,_,rfl,qiz hq hr' tp tr ⟨_,rfl,qdu ?_⟩⟩;refine⟨_,rfl,q,rfl,⟨_,SqL.of hq⟩,ZB (D:={ nx:=qh6 (tC (.bl true)) { nx:=fun _ H'=>Q .non H',rt:=Q },rt:=Q }) (K:=K) (a:=q) (xs:=zs) (fun i σ H2=>∃ (s2:Option V),σ=[some (.ref q),some (.ref r),s2]∧Same H H2) ⟨_,rfl,Same.refl H⟩ (fun i σ H2 _ ⟨_,_,S⟩=>SqL.of (S _ _ hq)) ?_ ?_⟩
   · rintro i z σ H2 hz ⟨s2,rfl,S⟩;obtain⟨w,t,hw,rfl,ht⟩:=tp.of hz;have ht2:=S _ _ ht;have tyt:tyN H2 (.ref t)=some "tuple":=by simp only[tyN];rw[ht2]
     refine⟨_,rfl,_,_,_,rfl,(by decide),tyt,true,rfl,zf rfl ?_⟩;refine⟨_,rfl,t,rfl,⟨_,SqT.of ht2⟩,fun C fC=>?_⟩;refine qhg (K:=K) (a:=t) (xs:=pr w) (D:=C) (fun i σ H3=>∃ c0:Option V,σ=[c0]∧Same H2 H3∧H3 C=some (.lst [])) ⟨none,rfl,Same.new _ fC,qb⟩ (fun i σ H3 _ ⟨_,_,S3,_⟩=>SqT.of (S3 _ _ ht2)) ?_ ?_
     · rintro i' y σ H3 hy ⟨c0,rfl,S3,hC⟩;obtain⟨n,_,rfl⟩:=Qu hy;exact⟨_,rfl,_,_,_,rfl,(by decide),rfl,false,rfl,qdu ⟨_,rfl,S3,hC⟩⟩
     rintro σ H3 ⟨c0,rfl,S3,hC⟩;refine⟨qp (Nat.le_of_ble_eq_true rfl),fun nl fnl=>?_⟩;have S4:Same H (upd H3 nl (.lst [])):=S.trans (S3.then (.lst []) fnl);refine .inr ⟨_,_,.lst (.inl (Same.new (.lst []) fnl _ _ hC)) .nil,.lst (.inl qb) .nil,rfl,rfl,?_⟩;refine⟨_,rfl,qdu ?_⟩;exact⟨_,rfl,S4⟩
   · rintro σ H2 ⟨s2,rfl,S⟩;exact kk H2 S
end
theorem PenAt.sm {H H':Hp}{p:Addr} (h:PenAt H p) (s:Same H H'):PenAt H' p:=by
 obtain⟨c,x,y,c0,e⟩:=h;exact⟨c,x,y,c0,s _ _ e⟩
theorem qeU:∀ {rows:List (Int×Int)},(∀ r∈rows,0≤r.1∧r.1≤1000000000∧-2880≤r.2∧r.2≤2880)->∀ p∈pcs rows,(0≤p.1∧p.1≤1000000000)∧(-1≤p.2.1∧p.2.1≤1000000000)∧-2880≤p.2.2∧p.2.2≤2880
 | [],_,p,m=>nomatch m
 | r::rs,h,p,m=>by
   rcases List.mem_cons.mp m with rfl|m
   · have h0:=h r List.mem_cons_self;refine⟨⟨h0.1,h0.2.1⟩,?_,h0.2.2⟩
     cases rs with
     | nil=>exact(show (-1:Int)≤1000000000∧(1000000000:Int)≤1000000000 by decide)
     | cons r2 rs =>
       have h1:=h r2 (List.mem_cons_of_mem _ List.mem_cons_self);show -1≤r2.1 - 1∧r2.1 - 1≤_;omega
   · exact qeU (fun r m=>h r (List.mem_cons_of_mem _ m)) p m
theorem Rs.neP {H:Hp}{p q:Addr}{rows:List (Int×Int)} (hp:PenAt H p) (h:Rs H q rows):q≠p:=by
 obtain⟨zs,hq,tz⟩:=h;obtain⟨c,x,y,_,e⟩:=hp;refine zd hq e (fun z=>?_);injection z with z;subst z;have l:=tz.1
 cases rows with
 | nil=>cases l
 | cons r rs =>
   obtain⟨t,e1,_⟩:=tz.2 0 _ r rfl rfl;cases e1
theorem Rs.bp {H H':Hp}{p q:Addr}{rows:List (Int×Int)} (h:Rs H q rows) (hp:PenAt H p) (b:But p H H'):Rs H' q rows:=by
 have n:=h.neP hp;obtain⟨zs,hq,tz⟩:=h;exact⟨zs,b _ _ hq n,TupL.pen tz hp b⟩
abbrev Pls:=List (Str×Addr×List (Int×Int))
def dkv (ps:Pls):List (Key×V):=ps.map fun x=>((.inr x.1:Key),V.ref x.2.1)
theorem qhs:∀ {ps:Pls},(ps.map (·.1)).Nodup->∀ x∈ps,qdH (dkv ps) (.inr x.1)=some (V.ref x.2.1)
 | [],_,x,m=>nomatch m
 | y::ps,nd,x,m=>by
   rw[List.map_cons,List.nodup_cons]at nd;unfold dkv qdH;rw[List.map_cons,List.find?_cons];rcases List.mem_cons.mp m with rfl|m
   · simp
   · have n:¬ ((.inr y.1:Key)=.inr x.1):=fun e=>by
       injection e with e;exact nd.1 (e▸List.mem_map_of_mem m)
     rw[show decide (((.inr y.1:Key),V.ref y.2.1).1=.inr x.1)=false by simpa using n];exact qhs nd.2 x m
theorem qjg:∀ {ps:Pls}{pl:Str},pl∉ps.map (·.1)->qdH (dkv ps) (.inr pl)=none
 | [],_,_=>rfl
 | y::ps,pl,h=>by
   rw[List.map_cons,List.mem_cons,not_or]at h;unfold dkv qdH;rw[List.map_cons,List.find?_cons];have n:¬ ((.inr y.1:Key)=.inr pl):=fun e=>by injection e with e;exact h.1 e.symm
   rw[show decide (((.inr y.1:Key),V.ref y.2.1).1=.inr pl)=false by simpa using n];exact qjg h.2
theorem Jc:bootBuiltins "ValueError"=some (.type "ValueError"):=by decide +kernel
inductive Due (ps:Pls) (wd pl:Str) (lo hi:Int):List (Int×Int)->Prop
 | pl {x:Str×Addr×List (Int×Int)}:(wd="between"∨wd="read")->x∈ps->x.1=pl->Due ps wd pl lo hi (shw x.2.2 lo hi)
 | no:(wd="any"∨wd="within"∨wd="at")->Due ps wd pl lo hi [(lo,hi)]
inductive Qm (K:Frag) (vs:List V) (H:Hp) (Q:VK):Prop
 | mk (ea:Addr) (x:Str) (C:Addr) (dx:Option Addr) (tb:Value) (h1:vs=[.ref ea,.str x]) (h2:H ea=some (.ext (ExO ea C dx tb))) (h3:xIn K C=true) (h4:Q .non H):Qm K vs H Q
def QX (K:Frag):Sp:=fun vs H Q _=>Qm K vs H Q
inductive QA (a:Ad) (vs:List V) (H:Hp) (Q:VK):Prop
 | mk (ea:Addr) (v:V) (h1:vs=[.ref ea,v]) (h2:H ea=some (.ext (ExO ea a.c_NoPlace none .none))) (h3:∀ dx,H dx=none->dx≠ea->Q .non (upd (upd H ea (.ext (ExO ea a.c_NoPlace (some dx) .none))) dx (.xd [("found",v)]))):QA a vs H Q
def Zd (a:Ad):Sp:=fun vs H Q _=>QA a vs H Q
inductive Qn (a:Ad) (vs:List V) (H:Hp) (Q:VK) (E:XK):Prop
 | mk (x C dx tb:Addr) (nm pl:Str) (lo hi:Int) (h1:vs=[.ref x,.ref tb]) (h2:(C=a.c_Between∨C=a.c_Read)) (h3:H x=some (.ins C dx (fsB nm pl lo hi))) (h4:((∃ (ta:Addr) (rows:List (Int×Int)),qi3 H tb (.str pl) (some (.ref ta))∧Tb a H ta rows∧Good rows∧(-10000000000≤lo∧lo≤10000000000)∧(-10000000000≤hi∧hi≤10000000000) ∧
   ∀ (d:Addr) (r:List (Int×Int)) (H':Hp),H d=none->Same H H'->Rs H' d r->zB r->r.length≤21->(∀ n,Mem r n↔Mem (shw rows lo hi) n)->Q (.ref d) H') ∨
  (qi3 H tb (.str pl) none∧Rz a.c_NoPlace "found" (.str pl) H E))):Qn a vs H Q E
def zO (a:Ad):Sp:=fun vs H Q E=>Qn a vs H Q E
section
variable {P:Program}{w:World}{K:Frag}{mg:Str->Option Value}{base:Heap}
theorem j8 {a:Ad} (T:Txt K mg a):qx P w K mg base CX0 1 a.f_9 a.fd_9 ["self","text"] (QX K):=by
 refine T.d_9.F.ok j4 (fun vs H Q E h=>?_) (fun cdv A outer s H vs Q E hr h=>?_)
 · obtain⟨ea,x,C,dx,tb,rfl,he,xi,kk⟩:=h;rfl
 · obtain⟨ea,x,C,dx,tb,rfl,he,xi,kk⟩:=h;refine⟨_,(qg (qJ (qgv rfl T.n_ValueError Jc (qa (pv 0) (qa (pv 1) qc))))),?_⟩;(try dsimp only [qZ,Cx.nox]);exact⟨_,rfl,_,rfl,ea,C,dx,tb,_,rfl,Nat.le_of_ble_eq_true rfl,he,xi,kk⟩
theorem JL {a:Ad} (T:Txt K mg a):qx P w K mg base CX0 3 a.f_8 a.fd_8 ["self","found"] (Zd a):=by
 have G_9:=j8 (P:=P) (w:=w) (base:=base) T;refine T.d_8.F.ok Jy (fun vs H Q E h=>?_) (fun cdv A outer s H vs Q E hr h=>?_)
 · obtain⟨ea,v,rfl,he,kk⟩:=h;rfl
 · obtain⟨ea,v,rfl,he,kk⟩:=h;have h_9:Room (1+1) _:=hr.mono (by decide)
   refine⟨_,(qf (qJ (Zw T.ci_LogError G_9 (h_9.mono (by decide)) T.d_9.b rfl T.g_LogError (qa (pv 0) (qa qH qc))))
     (qg (qio (pv 0) (pv 1) rfl))),?_⟩
   try dsimp only [qZ,Cx.nox]
   refine⟨_,rfl,ea,_,_,_,_,rfl,he,T.X_NoPlace.c.xi,?_⟩;exact⟨_,rfl,_,rfl,ea,_,_,rfl,he,T.X_NoPlace.c,T.n_NoPlace_found,kk⟩
theorem j9 {a:Ad} (T:Txt K mg a):qx P w K mg base (CX1 P w) 6 a.f_0 a.fd_0 ["self","tables"] (zO a):=by
 have G_7:=QF (P:=P) (w:=w) (base:=base) T;have G_8:=JL (P:=P) (w:=w) (base:=base) T;refine T.d_0.F.okX j5 (fun vs H Q E h=>?_) (fun cdv A outer s H vs Q E hr h=>?_)
 · obtain⟨x,C,dx,tb,nm,pl,lo,hi,rfl,hC,hx,kk⟩:=h;rfl
 · obtain⟨x,C,dx,tb,nm,pl,lo,hi,rfl,hC,hx,kk⟩:=h;have hu:=qD hr;have h_7:Room (5) _:=hr.mono (by decide);have h_8:Room (3+1) _:=hr.mono (by decide)
   refine⟨_,(qf (qK (qy (qeW hu) (zc (pv 0) rfl) (pv 1) (by with_unfolding_all rfl))
       (qg (qgr throws_cx rfl (qgu T.X_NoPlace G_8 h_8 rfl T.g_NoPlace T.d_8.b (qa (zc (pv 0) rfl) qc))))
       qw)
     (qg (qv (Zo (qiu hu (pv 1) (zc (pv 0) rfl) (fun _ _=>rfl)) T.cl_Table T.d_7.mt G_7 h_7 T.d_7.b .nil qr (qa (zc (pv 0) rfl) (qa (zc (pv 0) rfl) qc)))))),?_⟩
   try dsimp only [qZ,Cx.nox]
   obtain⟨cl,n_place,n_low,n_high⟩:Cls K C∧NoAttr K C "place"∧NoAttr K C "low"∧NoAttr K C "high":=by
     rcases hC with rfl|rfl
     · exact⟨T.cl_Between,T.n_Between_place,T.n_Between_low,T.n_Between_high⟩
     · exact⟨T.cl_Read,T.n_Read_place,T.n_Read_low,T.n_Read_high⟩
   rcases kk with ⟨ta,rows,dg,tbr,good,hlo,hhi,kk⟩|⟨dg,kz⟩
   · refine⟨_,rfl,x,_,dx,_,_,rfl,hx,cl,n_place,rfl,_,rfl,tb,_,rfl,dg,_,rfl,zf rfl ?_⟩;obtain⟨k0,dt,zs0,ht,hk0,tp0⟩:=id tbr;refine⟨_,rfl,_,rfl,x,_,dx,_,_,rfl,hx,cl,n_place,rfl,tb,_,rfl,dg,ta,dt,_,rfl,ht,qfE _ (by decide),?_⟩;exact⟨_,rfl,x,_,dx,_,_,rfl,hx,cl,n_low,rfl,_,rfl,x,_,dx,_,_,rfl,hx,cl,n_high,rfl,ta,rows,lo,hi,rfl,tbr,good,hlo,hhi,kk⟩
   · refine⟨_,rfl,x,_,dx,_,_,rfl,hx,cl,n_place,rfl,_,rfl,tb,_,rfl,dg,_,rfl,qg6 rfl ?_⟩;refine⟨_,rfl,x,_,dx,_,_,rfl,hx,cl,n_place,rfl,Nat.le_of_ble_eq_true rfl,fun ea fea=>⟨ea,_,rfl,qb,fun dx' fdx ne=>?_⟩⟩;rw[qi ne]at fdx;exact⟨rfl,ea,_,_,rfl,T.X_NoPlace.c.xi,(qi (Ne.symm ne)).trans qb,Rz.sure kz fea fdx ne⟩
end
theorem qgJ {l:List Addr} (n:l.Nodup) {i j:Nat}{x y:Addr} (hi:l[i]?=some x) (hj:l[j]?=some y) (h:i≠j):x≠y:=by
 intro e;subst e;obtain⟨h1,e1⟩:=List.getElem?_eq_some_iff.mp hi;obtain⟨h2,e2⟩:=List.getElem?_eq_some_iff.mp hj;exact h ((List.getElem_inj n).mp (e1.trans e2.symm))
theorem zD {H G:Hp}{l:Addr}{o:HO} (h:upd H l o=G) (f:H l=none):Same H G∧G l=some o:=by
 subst h;exact⟨Same.new o f,qb⟩
theorem Ja {K:Frag}{mg:Str->Option Value}{a:Ad} (T:Txt K mg a):kitOne K (.ref a.c_Within) (.ref a.c_Within)=some true:=by
 rw[Zs T.mr_Within rfl T.t_Within];simp
theorem qam {K:Frag}{mg:Str->Option Value}{a:Ad} (T:Txt K mg a):kitOne K (.ref a.c_Within) (.ref a.c_Read)=some false:=by
 rw[Zs T.mr_Within rfl T.t_Read];simp[qgJ T.ndc (i:=4) (j:=1) rfl rfl (by decide),qgJ T.ndc (i:=4) (j:=0) rfl rfl (by decide)]
theorem qbZ {K:Frag}{mg:Str->Option Value}{a:Ad} (T:Txt K mg a):kitOne K (.ref a.c_At) (.ref a.c_Within)=some true:=by
 rw[Zs T.mr_At rfl T.t_Within];simp
theorem qd2 {K:Frag}{mg:Str->Option Value}{a:Ad} (T:Txt K mg a):kitOne K (.ref a.c_At) (.ref a.c_Read)=some false:=by
 rw[Zs T.mr_At rfl T.t_Read];simp[qgJ T.ndc (i:=4) (j:=2) rfl rfl (by decide),qgJ T.ndc (i:=4) (j:=1) rfl rfl (by decide),qgJ T.ndc (i:=4) (j:=0) rfl rfl (by decide)]
theorem qbY {K:Frag}{mg:Str->Option Value}{a:Ad} (T:Txt K mg a):kitOne K (.ref a.c_Read) (.ref a.c_Read)=some true:=by
 rw[Zs T.mr_Read rfl T.t_Read];simp
theorem JU {K:Frag}{mg:Str->Option Value}{a:Ad} (T:Txt K mg a):kitOne K (.ref a.c_Sifted) (.ref a.c_Entry)=some true:=by
 rw[Zs T.mr_Sifted rfl T.t_Entry];simp
theorem Jb {K:Frag}{mg:Str->Option Value}{a:Ad} (T:Txt K mg a):kitOne K (.ref a.c_Sifted) (.ref a.c_Within)=some false:=by
 rw[Zs T.mr_Sifted rfl T.t_Within];simp[qgJ T.ndc (i:=1) (j:=5) rfl rfl (by decide),qgJ T.ndc (i:=1) (j:=0) rfl rfl (by decide)]
theorem jz {K:Frag}{mg:Str->Option Value}{a:Ad} (T:Txt K mg a):kitOne K (.ref a.c_Sifted) (.ref a.c_Between)=some false:=by
 rw[Zs T.mr_Sifted rfl T.t_Between];simp[qgJ T.ndc (i:=3) (j:=5) rfl rfl (by decide),qgJ T.ndc (i:=3) (j:=0) rfl rfl (by decide)]
abbrev fsS (nm:Str) (p f:Addr):List (Str×V):=[("name",.str nm),("part",.ref p),("keeps",.ref f)]
theorem En.mp {a:Ad}{H H':Hp}{x:Addr}{wd nm pl:Str}{lo hi:Int} (h:En a H x wd nm pl lo hi) (k:∀ C d fs,H x=some (.ins C d fs)->fs≠[]->H' x=some (.ins C d fs)):En a H' x wd nm pl lo hi:=by
 cases h with
 | any e=>exact .any (k _ _ _ e (by simp))
 | within e=>exact .within (k _ _ _ e (by simp))
 | at_ e=>exact .at_ (k _ _ _ e (by simp))
 | between e=>exact .between (k _ _ _ e (by simp))
 | read e=>exact .read (k _ _ _ e (by simp))
theorem qkK {H H':Hp}{x y C dx:Addr} (hy:H y=some (.ins C dx [])) (b:But y H H'):∀ C d fs,H x=some (.ins C d fs)->fs≠[]->H' x=some (.ins C d fs):=fun C d fs e ne=>b _ _ e fun z=>by
 rw[z,hy]at e;cases e;exact ne rfl
theorem qfU:bootBuiltins "sum"=some (.builtin "sum"):=by decide +kernel
def qlf (ws:List (Int×Int)):Int:=(ws.map fun w=>w.2 - w.1+1).sum
inductive Z3 (vs:List V) (H:Hp) (Q:VK):Prop
 | mk (q:Addr) (ws:List (Int×Int)) (h1:vs=[.ref q]) (h2:Rs H q ws) (h3:ws.length≤64) (h4:∀ H',Same H H'->Q (.int (qlf ws)) H'):Z3 vs H Q
def Jm:Sp:=fun vs H Q _=>Z3 vs H Q
theorem qcU {r:List (Int×Int)}{lo hi:Int} (c:zB r) (l:r.length≤1) (m:∀ n,Mem r n↔Mem [(lo,hi)] n) (h:hi - lo < 1000):qlf r≤1000:=by
 cases r with
 | nil=>decide
 | cons w t =>
   cases t with
   | cons _ _=>simp at l
   | nil =>
     have hw:=c.1 w (List.mem_singleton.mpr rfl);obtain⟨u,mu,a1,a2⟩:=(m w.1).mp ⟨w,List.mem_singleton.mpr rfl,Int.le_refl _,hw⟩;obtain⟨v,mv,b1,b2⟩:=(m w.2).mp ⟨w,List.mem_singleton.mpr rfl,hw,Int.le_refl _⟩;rw[List.mem_singleton.mp mu]at a1;rw[List.mem_singleton.mp mv]at b2;show (w.2 - w.1+1)+0≤1000;have a1':lo≤w.1:=a1;have b2':w.2≤hi:=b2;omega
inductive Q7 (a:Ad) (vs:List V) (H:Hp) (Q:VK):Prop
 | mk (x:Addr) (wd nm pl:Str) (lo hi:Int) (h1:vs=[.ref x]) (h2:En a H x wd nm pl lo hi) (h3:(wd="read"∨((wd="within"∨wd="at")∧hi - lo < 1000))) (h4:∀ H',Same H H'->Q .non H'):Q7 a vs H Q
def Z5 (a:Ad):Sp:=fun vs H Q _=>Q7 a vs H Q
inductive QW (a:Ad) (vs:List V) (H:Hp) (Q:VK):Prop
 | mk (x dx p f:Addr) (nm wd pn pl:Str) (lo hi:Int) (h1:vs=[.ref x,.str nm,.ref p,.ref f]) (h2:H x=some (.ins a.c_Sifted dx [])) (h3:ze (.str nm)=true) (h4:En a H p wd pn pl lo hi) (h5:(wd="read"∨((wd="within"∨wd="at")∧hi - lo < 1000))) (h6:∀ H':Hp,But x H H'->H' x=some (.ins a.c_Sifted dx (fsS nm p f))->Q .non H'):QW a vs H Q
def ZI (a:Ad):Sp:=fun vs H Q _=>QW a vs H Q
theorem zj {sc sc':Scope}{n:Nat} (h:∀ y∈sc'.names,y.2=NameKind.free->sc.names.lookup y.1=some .cell):∀ y∈sc'.names,y.2=NameKind.free->∃ c,(cellsFrom n sc.names []).lookup y.1=some c:=fun y m e=>qbl (h y m e)
section
variable {P:Program}{w:World}{K:Frag}{mg:Str->Option Value}{base:Heap}
theorem qcu {a:Ad} (T:Txt K mg a):qx P w K mg base CX0 1 a.f_G a.fd_G ["spans"] Jm:=by
 refine T.d_G.F.ok qcp (fun vs H Q E h=>?_) (fun cdv A outer s H vs Q E hr h=>?_)
 · obtain⟨q,ws,rfl,hrs,few,kk⟩:=h;rfl
 · obtain⟨q,ws,rfl,hrs,few,kk⟩:=h;refine⟨_,(qg (qv (ql (r:=qjA K) (qfP rfl) (by rfl) T.n_sum qfU (qa (zP rfl (CompOk.def ["low","high"] [none,none]) (zl (pv 0)) (fun _ _ _ _ _=>(show PG _ _ (qiN K 2 _) from (zu rfl (qq (qm (i:=0) (show List.Nodup (["low","high"]:List Str) by decide +kernel) rfl (Or.inl rfl)) (qq (qm (i:=1) (show List.Nodup (["low","high"]:List Str) by decide +kernel) rfl (Or.inl rfl)) qR))))) (fun _ _ _ _ _=>Qd) (fun _ _ _ _ _=>(qo zV (qo zI (pv 1) (pv 0)) qd))) qc)))),?_⟩;(try dsimp only [qZ,Cx.nox]);obtain⟨zs,hq,tp⟩:=id hrs;refine⟨_,rfl,q,rfl,⟨_,SqL.of hq⟩,fun D fD=>?_⟩;refine zw (K:=K) (a:=q) (xs:=zs) (D:=D) (fun i σ H2=>∃ (s0 s1:Option V),σ=[s0,s1]∧Same H H2∧H2 D=some (.lst (((ws.take i).map fun w=>w.2 - w.1+1).map V.int))) ⟨none,none,rfl,Same.new _ fD,qb⟩ (fun i σ H2 _ ⟨_,_,_,S,_⟩=>SqL.of (S _ _ hq)) ?_ ?_
   · rintro i z σ H2 hz ⟨s0,s1,rfl,S,hD⟩;obtain⟨p,t,hp,rfl,ht⟩:=tp.of hz;have li:i < ws.length:=(List.getElem?_eq_some_iff.mp hp).1;refine⟨t,_,rfl,SqT.of (S _ _ ht),rfl,_,_,rfl,_,_,rfl,rfl,?_⟩;refine⟨_,rfl,_,rfl,_,_,rfl,rfl,.inl ⟨_,_,rfl,rfl,_,hD,qB (by rw[List.length_map,List.length_map,List.length_take];omega),_,_,rfl,S.put fD _,?_⟩⟩;rw[qb,List.take_add_one,hp];simp
   · rintro σ H2 ⟨s0,s1,rfl,S,hD⟩;rw[tp.1,List.take_length]at hD;exact⟨D,_,rfl,SqL.of hD,kk H2 S⟩
theorem qbc {a:Ad} (T:Txt K mg a):qx P w K mg base CX0 6 a.f_H a.fd_H ["part"] (Z5 a):=by
 have G_G:=qcu (P:=P) (w:=w) (base:=base) T;have G_h:=Zq (P:=P) (w:=w) (base:=base) T;refine T.d_H.F.ok sc_check_part (fun vs H Q E h=>?_) (fun cdv A outer s H vs Q E hr h=>?_)
 · obtain⟨x,wd,nm,pl,lo,hi,rfl,en,hw,kk⟩:=h;rfl
 · obtain⟨x,wd,nm,pl,lo,hi,rfl,en,hw,kk⟩:=h;have h_G:Room (1) _:=hr.mono (by decide);have h_h:Room (5) _:=hr.mono (by decide);obtain⟨t_MOST_SIFTED,c_MOST_SIFTED⟩:=T.g_MOST_SIFTED
   refine⟨_,(qf (qK (qP (ql (r:=qki K) qbm (by rfl) T.n_isinstance qu (qa (pv 0) (qa (qY (v:=.ref a.c_Read) rfl T.g_Read rfl) qc))))
       (qg qiq)
       qw)
     (qf (qK (qX (qP (ql (r:=qki K) qbm (by rfl) T.n_isinstance qu (qa (pv 0) (qa (qY (v:=.ref a.c_Within) rfl T.g_Within rfl) qc)))))
       (qg zi)
       qw)
     (qf (qA (i:=1) sc_check_part.nd rfl (Or.inl rfl) (qj G_G h_G rfl T.d_G.m T.d_G.k T.d_G.b .nil qr (qa (PE.or (Zo (pv 0) T.cl_Within T.d_h.mt G_h h_h T.d_h.b .nil qr (qa qdk qc)) (Zo (pv 0) T.cl_At T.i_At_spans G_h h_h T.d_h.b .nil qr (qa qdk qc))) qc)))
     (qg (qK (qy qeX (pv 1) (qY (v:=.int 1000) rfl c_MOST_SIFTED ⟨_,rfl⟩) (qz _))
       (qg zi)
       qw))))),?_⟩
   try dsimp only [qZ,Cx.nox]
   cases en with
   | @any dx _ hx=>exact absurd hw (by decide)
   | @within dx _ _ _ hx =>
     have hlt:=(hw.resolve_left (by decide)).2;refine⟨_,rfl,_,_,_,_,rfl,T.io_Within.ty hx,qam T,false,rfl,zf rfl ?_⟩;refine⟨_,rfl,_,_,_,_,rfl,T.io_Within.ty hx,Ja T,true,rfl,zf rfl ?_⟩;(try unfold qE);(try dsimp only);refine .inl ⟨_,rfl,x,dx,_,rfl,hx,rfl,fun d0 fd0=>⟨x,_,dx,_,_,_,_,rfl,(Same.new (.dK []) fd0) _ _ hx,T.cl_Within,T.n_Within_low,T.n_Within_high,fun d r H1 fd S1 R c l m=>⟨d,r,rfl,R,Nat.le_trans l (Nat.le_of_ble_eq_true rfl),fun H2 S2=>?_⟩⟩⟩;have S3:=((Same.new (.dK []) fd0).trans S1).trans S2;refine⟨_,rfl,_,_,rfl,rfl,_,rfl,ZW (fun g=>absurd g ?_) (fun _=>kk H2 S3)⟩
     have:=qcU c l m hlt
     omega
   | @at_ dx _ _ hx =>
     have hlt:=(hw.resolve_left (by decide)).2;refine⟨_,rfl,_,_,_,_,rfl,T.io_At.ty hx,qd2 T,false,rfl,zf rfl ?_⟩;refine⟨_,rfl,_,_,_,_,rfl,T.io_At.ty hx,qbZ T,true,rfl,zf rfl ?_⟩;(try unfold qE);(try dsimp only);refine .inr ⟨_,rfl,x,dx,_,rfl,hx,rfl,fun d0 fd0=>⟨x,_,dx,_,_,_,_,rfl,(Same.new (.dK []) fd0) _ _ hx,T.cl_At,T.n_At_low,T.n_At_high,fun d r H1 fd S1 R c l m=>⟨d,r,rfl,R,Nat.le_trans l (Nat.le_of_ble_eq_true rfl),fun H2 S2=>?_⟩⟩⟩;have S3:=((Same.new (.dK []) fd0).trans S1).trans S2;refine⟨_,rfl,_,_,rfl,rfl,_,rfl,ZW (fun g=>absurd g ?_) (fun _=>kk H2 S3)⟩
     have:=qcU c l m hlt
     omega
   | @between dx _ _ _ _ hx=>exact absurd hw (by intro z;rcases z with z|⟨z|z,_⟩<;>exact absurd z (by decide))
   | @read dx _ _ _ hx=>exact⟨_,rfl,_,_,_,_,rfl,T.io_Read.ty hx,qbY T,true,rfl,qg6 rfl (kk H (Same.refl H))⟩
theorem qal {a:Ad} (T:Txt K mg a):qx P w K mg base CX0 7 a.f_3 a.fd_3 ["self","name","part","keeps"] (ZI a):=by
 have G_g:=QQ (P:=P) (w:=w) (base:=base) T;have G_H:=qbc (P:=P) (w:=w) (base:=base) T;refine T.d_3.F.ok qag (fun vs H Q E h=>?_) (fun cdv A outer s H vs Q E hr h=>?_)
 · obtain⟨x,dx,p,f,nm,wd,pn,pl,lo,hi,rfl,hx,ok,en,hw,kk⟩:=h;rfl
 · obtain⟨x,dx,p,f,nm,wd,pn,pl,lo,hi,rfl,hx,ok,en,hw,kk⟩:=h;have h_g:Room (3+1) _:=hr.mono (by decide);have h_H:Room (6) _:=hr.mono (by decide)
   refine⟨_,(qf (qJ (Zw T.ci_Entry G_g (h_g.mono (by decide)) T.d_g.b rfl T.g_Entry (qa (pv 0) (qa (pv 1) qc))))
     (qf (qJ (qj G_H h_H rfl T.d_H.m T.d_H.k T.d_H.b .nil qr (qa (pv 2) qc)))
     (qf (jb (pv 0) (pv 2) rfl)
     (qg (jb (pv 0) (pv 3) rfl))))),?_⟩
   try dsimp only [qZ,Cx.nox]
   refine⟨_,rfl,_,rfl,x,a.c_Sifted,dx,nm,rfl,hx,ok,T.cl_Sifted,T.n_Sifted_name,fun H1 B1 h1=>?_⟩;refine⟨_,rfl,p,wd,pn,pl,lo,hi,rfl,en.mp (qkK hx B1),hw,fun H2 S2=>?_⟩;refine⟨_,rfl,_,rfl,x,_,dx,_,rfl,S2 _ _ h1,T.cl_Sifted,T.n_Sifted_part,(Nat.le_of_ble_eq_true rfl),?_⟩;refine⟨_,rfl,_,rfl,x,_,dx,_,rfl,qb,T.cl_Sifted,T.n_Sifted_keeps,(Nat.le_of_ble_eq_true rfl),?_⟩;exact kk _ (fun b o e nb=>by rw[qi nb,qi nb];exact S2 b o (B1 b o e nb)) (by rw[qb];rfl)
end
abbrev ZH:Sp:=qc3 "sifted"
section
variable {P:Program}{w:World}{K:Frag}{mg:Str->Option Value}{base:Heap}
theorem qak {a:Ad} (T:Txt K mg a):qx P w K mg base CX0 1 a.f_4 a.fd_4 ["self"] ZH:=by
 refine T.d_4.F.ok qaf (fun vs H Q E h=>?_) (fun cdv A outer s H vs Q E hr h=>?_)
 · obtain⟨v,rfl,k⟩:=h;rfl
 · obtain⟨v,rfl,k⟩:=h;refine⟨_,(qg (qv qH)),?_⟩;(try dsimp only [qZ,Cx.nox]);exact k
end
theorem qbg {cells:List (Str×Addr)}{y:Str}:∀ (names:List (Str×NameKind)) (acc:List (Str×Addr)),(qQ cells names acc).lookup y≠none->(y,NameKind.free)∈names∨acc.lookup y≠none
 | [],acc,h=>.inr h
 | (n,k)::r,acc,h=>by
   unfold qQ at h;rcases qbg r _ h with z|z
   · exact .inl (List.mem_cons_of_mem _ z)
   · by_cases e:(k == NameKind.free)=true
     · rw[if_pos e,List.lookup_cons]at z;by_cases e2:(y == n)=true
       · left;rw[eq_of_beq e2]
         have:k=NameKind.free:=by cases k<;>first|rfl|cases e
         rw[this];exact List.mem_cons_self
       · rw[show (y == n)=false from Bool.eq_false_iff.mpr e2]at z;exact .inr z
     · rw[if_neg e]at z;exact .inr z
theorem qcB {α:Type}{y:Str}:∀ {l:List (Str×α)},y∈l.map (·.1)->(l.lookup y).isSome=true
 | [],h=>nomatch h
 | x::r,h=>by
   rw[List.lookup_cons];split
   · rfl
   · rename_i e
     rcases List.mem_cons.mp h with z|z
     · rw[z,beq_self_eq_true]at e;cases e
     · exact qcB z
theorem J8 {X:Cx}{params:Arguments}{body:Expr}{scope sc0:Scope}{N ps:List Str}{σ:L2.St}{H' H'':Hp}{f c:Addr}{o:Obj}{fv:List (Str×V)} (L:qi2 params body scope ps (fv.map (·.1))) (lo:qcg X params body scope c o) (ci:zR N sc0 X.env.cells σ H' H'')
   (hf:H' f=some (.ext (ZY f o))) (hc:H' c=some (.ext (zQ c (X.env.qual++"<lambda>")))) (hfree:∀ y∈scope.names,y.2=.free->∃ c,X.env.cells.lookup y.1=some c)
   (hv:∀ y v,(y,v)∈fv->sc0.names.lookup y=some .cell∧∃ i:Nat,N[i]?=some y∧σ[i]?=some (some v)):Clo H'' f (X.env.qual++"<lambda>") params body scope fv :=
 qj9 (X:=X) (fv:=fv) lo ci hf hc hfree (fun y v h=>by
   have m:=PySem.mem_of_lookup h
   exact⟨PySem.mem_of_lookup (L.fre y (List.mem_map.mpr ⟨_,m,rfl⟩)),hv y v m⟩) fun y h=>qcB ((qbg _ _ h).elim (fun z=>L.free _ z rfl) fun z=>absurd rfl z)
theorem qhk {X:Cx}{name:Str}{params:Arguments}{body:List Stmt}{scope sc0:Scope}{N ps:List Str}{σ:L2.St}{H' H'':Hp}{f c:Addr}{o:Obj}{fv:List (Str×V)} (L:qla name params body scope ps (fv.map (·.1))) (lo:qhq X name params body scope c o) (ci:zR N sc0 X.env.cells σ H' H'')
   (hf:H' f=some (.ext (ZY f o))) (hc:H' c=some (.ext (zQ c (qualnameIn X.env name name)))) (hfree:∀ y∈scope.names,y.2=.free->∃ c,X.env.cells.lookup y.1=some c)
   (hv:∀ y v,(y,v)∈fv->sc0.names.lookup y=some .cell∧∃ i:Nat,N[i]?=some y∧σ[i]?=some (some v)):CloS H'' f name (qualnameIn X.env name name) params body scope fv :=
 qiW (X:=X) (fv:=fv) lo ci hf hc hfree (fun y v h=>by
   have m:=PySem.mem_of_lookup h
   exact⟨PySem.mem_of_lookup (L.fre y (List.mem_map.mpr ⟨_,m,rfl⟩)),hv y v m⟩) fun y h=>qcB ((qbg _ _ h).elim (fun z=>L.free _ z rfl) fun z=>absurd rfl z)
abbrev qgO:Expr:=match qM zb with
 | .Return (some l) _::_=>l
 | _=>.Name "" ⟨0,0,0,0⟩
abbrev qgT:Arguments:=match qgO with
 | .Lambda p _ _ _=>p
 | _=>⟨[],[],none,[],[],none,[]⟩
abbrev qgZ:Expr:=match qgO with
 | .Lambda _ b _ _=>b
 | x=>x
abbrev qfn:Scope:=match qgO with
 | .Lambda _ _ s _=>s
 | _=>qe zb
abbrev qkT:Pos:=match qgO with
 | .Lambda _ _ _ p=>p
 | _=>⟨0,0,0,0⟩
abbrev qiD:Str:="on_days"++".<locals>."++"<lambda>"
theorem qjQ:qi2 qgT qgZ qfn ["moment"] ["low","high"]:=⟨rfl,rfl,rfl,by decide +kernel,by decide +kernel,by decide +kernel,by decide +kernel,fun qual cl pm cdv ct us hl=>by
 obtain _|⟨u,_|⟨v,t⟩⟩:=us
 · cases hl
 · rfl
 · simp at hl,by decide +kernel⟩
theorem qkN {X:Cx}{σ:L2.St}{H' H'':Hp}{f c:Addr}{o:Obj}{n:Nat}{v0 v1:V} (lob:qcg X qgT qgZ qfn c o) (ci:zR ["low","high"] (qe zb) (cellsFrom n (qe zb).names []) σ H' H'') (h0:σ[0]?=some (some v0)) (h1:σ[1]?=some (some v1))
   (he:X.env={ X.env with qual:="on_days"++".<locals>.",cells:=cellsFrom n (qe zb).names [] }) (hf:H' f=some (.ext (ZY f o))) (hc:H' c=some (.ext (zQ c (X.env.qual++"<lambda>")))):Clo H'' f qiD qgT qgZ qfn [("low",v0),("high",v1)]:=by
 have hq:X.env.qual="on_days"++".<locals>.":=by rw[he]
 have hcl:X.env.cells=cellsFrom n (qe zb).names []:=by rw[he]
 have fr:∀ y∈(qfn).names,y.2=NameKind.free->∃ c,X.env.cells.lookup y.1=some c:=by rw[hcl];exact zj (sc:=qe zb) (by decide +kernel)
 have c0:=J8 (X:=X) (fv:=[("low",v0),("high",v1)]) qjQ lob (by rw[hcl];exact ci) hf hc fr (fun y v m=>by
   simp only[List.mem_cons,Prod.mk.injEq,List.not_mem_nil,or_false]at m;rcases m with ⟨rfl,rfl⟩|⟨rfl,rfl⟩
   · exact⟨by decide +kernel,0,rfl,h0⟩
   · exact⟨by decide +kernel,1,rfl,h1⟩)
 rw[hq]at c0;exact c0
abbrev qgR:Expr:=match qM qV with
 | .If _ [.Return (some l) _] _ _::_=>l
 | _=>.Name "" ⟨0,0,0,0⟩
abbrev qgW:Arguments:=match qgR with
 | .Lambda p _ _ _=>p
 | _=>⟨[],[],none,[],[],none,[]⟩
abbrev qg2:Expr:=match qgR with
 | .Lambda _ b _ _=>b
 | x=>x
abbrev qfq:Scope:=match qgR with
 | .Lambda _ _ s _=>s
 | _=>qe qV
abbrev qkW:Pos:=match qgR with
 | .Lambda _ _ _ p=>p
 | _=>⟨0,0,0,0⟩
abbrev qiG:Str:="daily"++".<locals>."++"<lambda>"
theorem qjU:qi2 qgW qg2 qfq ["moment"] ["low","high"]:=⟨rfl,rfl,rfl,by decide +kernel,by decide +kernel,by decide +kernel,by decide +kernel,fun qual cl pm cdv ct us hl=>by
 obtain _|⟨u,_|⟨v,t⟩⟩:=us
 · cases hl
 · rfl
 · simp at hl,by decide +kernel⟩
theorem qkR {X:Cx}{σ:L2.St}{H' H'':Hp}{f c:Addr}{o:Obj}{n:Nat}{v0 v1:V} (lob:qcg X qgW qg2 qfq c o) (ci:zR ["low","high"] (qe qV) (cellsFrom n (qe qV).names []) σ H' H'') (h0:σ[0]?=some (some v0)) (h1:σ[1]?=some (some v1))
   (he:X.env={ X.env with qual:="daily"++".<locals>.",cells:=cellsFrom n (qe qV).names [] }) (hf:H' f=some (.ext (ZY f o))) (hc:H' c=some (.ext (zQ c (X.env.qual++"<lambda>")))):Clo H'' f qiG qgW qg2 qfq [("low",v0),("high",v1)]:=by
 have hq:X.env.qual="daily"++".<locals>.":=by rw[he]
 have hcl:X.env.cells=cellsFrom n (qe qV).names []:=by rw[he]
 have fr:∀ y∈(qfq).names,y.2=NameKind.free->∃ c,X.env.cells.lookup y.1=some c:=by rw[hcl];exact zj (sc:=qe qV) (by decide +kernel)
 have c0:=J8 (X:=X) (fv:=[("low",v0),("high",v1)]) qjU lob (by rw[hcl];exact ci) hf hc fr (fun y v m=>by
   simp only[List.mem_cons,Prod.mk.injEq,List.not_mem_nil,or_false]at m;rcases m with ⟨rfl,rfl⟩|⟨rfl,rfl⟩
   · exact⟨by decide +kernel,0,rfl,h0⟩
   · exact⟨by decide +kernel,1,rfl,h1⟩)
 rw[hq]at c0;exact c0
abbrev qgQ:Expr:=match qM qV with
 | _::.Return (some l) _::_=>l
 | _=>.Name "" ⟨0,0,0,0⟩
abbrev qgV:Arguments:=match qgQ with
 | .Lambda p _ _ _=>p
 | _=>⟨[],[],none,[],[],none,[]⟩
abbrev qg1:Expr:=match qgQ with
 | .Lambda _ b _ _=>b
 | x=>x
abbrev qfp:Scope:=match qgQ with
 | .Lambda _ _ s _=>s
 | _=>qe qV
abbrev qkV:Pos:=match qgQ with
 | .Lambda _ _ _ p=>p
 | _=>⟨0,0,0,0⟩
abbrev qiF:Str:="daily"++".<locals>."++"<lambda>"
theorem qjT:qi2 qgV qg1 qfp ["moment"] ["low","high"]:=⟨rfl,rfl,rfl,by decide +kernel,by decide +kernel,by decide +kernel,by decide +kernel,fun qual cl pm cdv ct us hl=>by
 obtain _|⟨u,_|⟨v,t⟩⟩:=us
 · cases hl
 · rfl
 · simp at hl,by decide +kernel⟩
theorem qkQ {X:Cx}{σ:L2.St}{H' H'':Hp}{f c:Addr}{o:Obj}{n:Nat}{v0 v1:V} (lob:qcg X qgV qg1 qfp c o) (ci:zR ["low","high"] (qe qV) (cellsFrom n (qe qV).names []) σ H' H'') (h0:σ[0]?=some (some v0)) (h1:σ[1]?=some (some v1))
   (he:X.env={ X.env with qual:="daily"++".<locals>.",cells:=cellsFrom n (qe qV).names [] }) (hf:H' f=some (.ext (ZY f o))) (hc:H' c=some (.ext (zQ c (X.env.qual++"<lambda>")))):Clo H'' f qiF qgV qg1 qfp [("low",v0),("high",v1)]:=by
 have hq:X.env.qual="daily"++".<locals>.":=by rw[he]
 have hcl:X.env.cells=cellsFrom n (qe qV).names []:=by rw[he]
 have fr:∀ y∈(qfp).names,y.2=NameKind.free->∃ c,X.env.cells.lookup y.1=some c:=by rw[hcl];exact zj (sc:=qe qV) (by decide +kernel)
 have c0:=J8 (X:=X) (fv:=[("low",v0),("high",v1)]) qjT lob (by rw[hcl];exact ci) hf hc fr (fun y v m=>by
   simp only[List.mem_cons,Prod.mk.injEq,List.not_mem_nil,or_false]at m;rcases m with ⟨rfl,rfl⟩|⟨rfl,rfl⟩
   · exact⟨by decide +kernel,0,rfl,h0⟩
   · exact⟨by decide +kernel,1,rfl,h1⟩)
 rw[hq]at c0;exact c0
abbrev qgN:Expr:=match qM qU with
 | .Return (some l) _::_=>l
 | _=>.Name "" ⟨0,0,0,0⟩
abbrev qgS:Arguments:=match qgN with
 | .Lambda p _ _ _=>p
 | _=>⟨[],[],none,[],[],none,[]⟩
abbrev qgY:Expr:=match qgN with
 | .Lambda _ b _ _=>b
 | x=>x
abbrev qfm:Scope:=match qgN with
 | .Lambda _ _ s _=>s
 | _=>qe qU
abbrev qkS:Pos:=match qgN with
 | .Lambda _ _ _ p=>p
 | _=>⟨0,0,0,0⟩
abbrev qiC:Str:="opposite"++".<locals>."++"<lambda>"
theorem qjP:qi2 qgS qgY qfm ["moment"] ["keeps"]:=⟨rfl,rfl,rfl,by decide +kernel,by decide +kernel,by decide +kernel,by decide +kernel,fun qual cl pm cdv ct us hl=>by
 obtain _|⟨u,_|⟨v,t⟩⟩:=us
 · cases hl
 · rfl
 · simp at hl,by decide +kernel⟩
theorem qkM {X:Cx}{σ:L2.St}{H' H'':Hp}{f c:Addr}{o:Obj}{n:Nat}{v0:V} (lob:qcg X qgS qgY qfm c o) (ci:zR ["keeps"] (qe qU) (cellsFrom n (qe qU).names []) σ H' H'') (h0:σ[0]?=some (some v0))
   (he:X.env={ X.env with qual:="opposite"++".<locals>.",cells:=cellsFrom n (qe qU).names [] }) (hf:H' f=some (.ext (ZY f o))) (hc:H' c=some (.ext (zQ c (X.env.qual++"<lambda>")))):Clo H'' f qiC qgS qgY qfm [("keeps",v0)]:=by
 have hq:X.env.qual="opposite"++".<locals>.":=by rw[he]
 have hcl:X.env.cells=cellsFrom n (qe qU).names []:=by rw[he]
 have fr:∀ y∈(qfm).names,y.2=NameKind.free->∃ c,X.env.cells.lookup y.1=some c:=by rw[hcl];exact zj (sc:=qe qU) (by decide +kernel)
 have c0:=J8 (X:=X) (fv:=[("keeps",v0)]) qjP lob (by rw[hcl];exact ci) hf hc fr (fun y v m=>by
   simp only[List.mem_cons,Prod.mk.injEq,List.not_mem_nil,or_false]at m;obtain⟨rfl,rfl⟩:=m
   · exact⟨by decide +kernel,0,rfl,h0⟩)
 rw[hq]at c0;exact c0
abbrev qgP:Expr:=match qM zG with
 | _::_::_::.Return (some l) _::_=>l
 | _=>.Name "" ⟨0,0,0,0⟩
abbrev qgU:Arguments:=match qgP with
 | .Lambda p _ _ _=>p
 | _=>⟨[],[],none,[],[],none,[]⟩
abbrev qg0:Expr:=match qgP with
 | .Lambda _ b _ _=>b
 | x=>x
abbrev qfo:Scope:=match qgP with
 | .Lambda _ _ s _=>s
 | _=>qe zG
abbrev qkU:Pos:=match qgP with
 | .Lambda _ _ _ p=>p
 | _=>⟨0,0,0,0⟩
abbrev qiE:Str:="_law_sieve"++".<locals>."++"<lambda>"
theorem qjS:qi2 qgU qg0 qfo ["_law_moment"] ["_law_one","_law_other"]:=⟨rfl,rfl,rfl,by decide +kernel,by decide +kernel,by decide +kernel,by decide +kernel,fun qual cl pm cdv ct us hl=>by
 obtain _|⟨u,_|⟨v,t⟩⟩:=us
 · cases hl
 · rfl
 · simp at hl,by decide +kernel⟩
theorem qkP {X:Cx}{σ:L2.St}{H' H'':Hp}{f c:Addr}{o:Obj}{n:Nat}{v0 v1:V} (lob:qcg X qgU qg0 qfo c o) (ci:zR ["_law_rule_here","_law_word","_law_one","_law_other"] (qe zG) (cellsFrom n (qe zG).names []) σ H' H'') (h0:σ[2]?=some (some v0)) (h1:σ[3]?=some (some v1))
   (he:X.env={ X.env with qual:="_law_sieve"++".<locals>.",cells:=cellsFrom n (qe zG).names [] }) (hf:H' f=some (.ext (ZY f o))) (hc:H' c=some (.ext (zQ c (X.env.qual++"<lambda>")))):Clo H'' f qiE qgU qg0 qfo [("_law_one",v0),("_law_other",v1)]:=by
 have hq:X.env.qual="_law_sieve"++".<locals>.":=by rw[he]
 have hcl:X.env.cells=cellsFrom n (qe zG).names []:=by rw[he]
 have fr:∀ y∈(qfo).names,y.2=NameKind.free->∃ c,X.env.cells.lookup y.1=some c:=by rw[hcl];exact zj (sc:=qe zG) (by decide +kernel)
 have c0:=J8 (X:=X) (fv:=[("_law_one",v0),("_law_other",v1)]) qjS lob (by rw[hcl];exact ci) hf hc fr (fun y v m=>by
   simp only[List.mem_cons,Prod.mk.injEq,List.not_mem_nil,or_false]at m;rcases m with ⟨rfl,rfl⟩|⟨rfl,rfl⟩
   · exact⟨by decide +kernel,2,rfl,h0⟩
   · exact⟨by decide +kernel,3,rfl,h1⟩)
 rw[hq]at c0;exact c0
def zX:List (Pos×Str):=[(qkT,qiD)]
theorem qd0:∀ x∈zX,x.2="on_days"++".<locals>."++"<lambda>":=fun x hx=>by
 unfold zX at hx;simp only[List.mem_cons,List.not_mem_nil,or_false]at hx;subst hx;rfl
def QR:List (Pos×Str):=[(qkW,qiG),(qkV,qiF)]
theorem qdq:∀ x∈QR,x.2="daily"++".<locals>."++"<lambda>":=fun x hx=>by
 unfold QR at hx;simp only[List.mem_cons,List.not_mem_nil,or_false]at hx;rcases hx with rfl|rfl<;>rfl
def zF:List (Pos×Str):=[(qkS,qiC)]
theorem qcz:∀ x∈zF,x.2="opposite"++".<locals>."++"<lambda>":=fun x hx=>by
 unfold zF at hx;simp only[List.mem_cons,List.not_mem_nil,or_false]at hx;subst hx;rfl
def QG:List (Pos×Str):=[(qkU,qiE)]
theorem qfh:∀ x∈QG,x.2="_law_sieve"++".<locals>."++"<lambda>":=fun x hx=>by
 unfold QG at hx;simp only[List.mem_cons,List.not_mem_nil,or_false]at hx;subst hx;rfl
abbrev nx_:Stmt:=match qM zr with
 | s::_=>s
 | []=>zr
abbrev np_:Arguments:=Qh nx_
abbrev nb_:List Stmt:=qM nx_
abbrev nc_:Scope:=qe nx_
abbrev no_:Pos:=match nx_ with
 | .FunctionDef _ _ _ _ _ _ _ _ _ p=>p
 | _=>⟨0,0,0,0⟩
abbrev nq_:Str:="_law_noting"++".<locals>."++"_law_keeps_it"
def zY:List (Pos×Str):=[(no_,nq_)]
theorem qd1:∀ x∈zY,x.2="_law_noting"++".<locals>."++"_law_keeps_it":=fun x hx=>by
 unfold zY at hx;simp only[List.mem_cons,List.not_mem_nil,or_false]at hx;subst hx;rfl
theorem qjR:qla "_law_keeps_it" np_ nb_ nc_ ["_law_moment"] ["_law_asked","_law_sieve_here"]:=⟨rfl,rfl,rfl,by decide +kernel,by decide +kernel,by decide +kernel,by decide +kernel,fun qual cl doc pm cdv ct us hl=>by
 obtain _|⟨u,_|⟨v,t⟩⟩:=us
 · cases hl
 · rfl
 · simp at hl,by decide +kernel⟩
structure Tbs (a:Ad) (H:Hp):Prop where
 t0:TbA H a.t_on_days zX
 t1:TbA H a.t_daily QR
 t2:TbA H a.t_opposite zF
 t3:TbA H a.t_Lsieve QG
 t4:TbA H a.t_Lnoting zY
theorem Tbs.same {a:Ad}{H H':Hp} (h:Tbs a H) (s:Same H H'):Tbs a H':=⟨h.t0.same s,h.t1.same s,h.t2.same s,h.t3.same s,h.t4.same s⟩
def NT (H H':Hp):Prop:=∀ c o,H c=some o->(∀ ps,o≠.tbl ps)->H' c=some o
theorem NT.refl (H:Hp):NT H H:=fun _ _ e _=>e
theorem NT.trans {H H1 H2:Hp} (a:NT H H1) (b:NT H1 H2):NT H H2:=fun c o e n=>b c o (a c o e n) n
theorem Same.nt {H H':Hp} (s:Same H H'):NT H H':=fun c o e _=>s c o e
theorem qcw {H H':Hp}{T:Addr}{ps:Array Value} (h:H T=some (.tbl ps)) (b:But T H H'):NT H H':=fun c o e n=>b c o e fun z=>by rw[z,h]at e;exact n ps (Option.some.inj e).symm
theorem Tbs.at0 {K:Frag}{mg:Str->Option Value}{a:Ad} (T:Txt K mg a) {H H':Hp} (h:Tbs a H) (b:But a.t_on_days H H') (n:TbA H' a.t_on_days zX):Tbs a H':=by
 obtain⟨ps,hp⟩:=h.t0.at_;have nd:=T.nt;simp only[List.nodup_cons,List.mem_cons,List.not_mem_nil,or_false,not_or,List.nodup_nil,and_true,not_false_eq_true]at nd;exact⟨n,h.t1.but hp b (by simp[nd,Ne.symm]),h.t2.but hp b (by simp[nd,Ne.symm]),h.t3.but hp b (by simp[nd,Ne.symm]),h.t4.but hp b (by simp[nd,Ne.symm])⟩
theorem Tbs.at1 {K:Frag}{mg:Str->Option Value}{a:Ad} (T:Txt K mg a) {H H':Hp} (h:Tbs a H) (b:But a.t_daily H H') (n:TbA H' a.t_daily QR):Tbs a H':=by
 obtain⟨ps,hp⟩:=h.t1.at_;have nd:=T.nt;simp only[List.nodup_cons,List.mem_cons,List.not_mem_nil,or_false,not_or,List.nodup_nil,and_true,not_false_eq_true]at nd;exact⟨h.t0.but hp b (by simp[nd,Ne.symm]),n,h.t2.but hp b (by simp[nd,Ne.symm]),h.t3.but hp b (by simp[nd,Ne.symm]),h.t4.but hp b (by simp[nd,Ne.symm])⟩
theorem Tbs.at2 {K:Frag}{mg:Str->Option Value}{a:Ad} (T:Txt K mg a) {H H':Hp} (h:Tbs a H) (b:But a.t_opposite H H') (n:TbA H' a.t_opposite zF):Tbs a H':=by
 obtain⟨ps,hp⟩:=h.t2.at_;have nd:=T.nt;simp only[List.nodup_cons,List.mem_cons,List.not_mem_nil,or_false,not_or,List.nodup_nil,and_true,not_false_eq_true]at nd;exact⟨h.t0.but hp b (by simp[nd,Ne.symm]),h.t1.but hp b (by simp[nd,Ne.symm]),n,h.t3.but hp b (by simp[nd,Ne.symm]),h.t4.but hp b (by simp[nd,Ne.symm])⟩
theorem Tbs.at3 {K:Frag}{mg:Str->Option Value}{a:Ad} (T:Txt K mg a) {H H':Hp} (h:Tbs a H) (b:But a.t_Lsieve H H') (n:TbA H' a.t_Lsieve QG):Tbs a H':=by
 obtain⟨ps,hp⟩:=h.t3.at_;have nd:=T.nt;simp only[List.nodup_cons,List.mem_cons,List.not_mem_nil,or_false,not_or,List.nodup_nil,and_true,not_false_eq_true]at nd;exact⟨h.t0.but hp b (by simp[nd,Ne.symm]),h.t1.but hp b (by simp[nd,Ne.symm]),h.t2.but hp b (by simp[nd,Ne.symm]),n,h.t4.but hp b (by simp[nd,Ne.symm])⟩
theorem Tbs.at4 {K:Frag}{mg:Str->Option Value}{a:Ad} (T:Txt K mg a) {H H':Hp} (h:Tbs a H) (b:But a.t_Lnoting H H') (n:TbA H' a.t_Lnoting zY):Tbs a H':=by
 obtain⟨ps,hp⟩:=h.t4.at_;have nd:=T.nt;simp only[List.nodup_cons,List.mem_cons,List.not_mem_nil,or_false,not_or,List.nodup_nil,and_true,not_false_eq_true]at nd;exact⟨h.t0.but hp b (by simp[nd,Ne.symm]),h.t1.but hp b (by simp[nd,Ne.symm]),h.t2.but hp b (by simp[nd,Ne.symm]),h.t3.but hp b (by simp[nd,Ne.symm]),n⟩
def prD (lo hi:Int):Int->Bool:=fun n=>decide (lo≤n / 1440) && decide (n / 1440≤hi)
def prM (lo hi:Int):Int->Bool:=fun n=>decide (lo≤n % 1440) && decide (n % 1440≤hi)
def prO (lo hi:Int):Int->Bool:=fun n=>decide (lo≤n % 1440) || decide (n % 1440≤hi)
def prE (e r:Int):Int->Bool:=fun n=>decide (n % e=r % e)
inductive Sf0 (H:Hp) (f:Addr):(Int->Bool)->Prop
 | od {lo hi:Int}:Clo H f qiD qgT qgZ qfn [("low",.int lo),("high",.int hi)]->Sf0 H f (prD lo hi)
 | d1 {lo hi:Int}:Clo H f qiG qgW qg2 qfq [("low",.int lo),("high",.int hi)]->Sf0 H f (prM lo hi)
 | d2 {lo hi:Int}:Clo H f qiF qgV qg1 qfp [("low",.int lo),("high",.int hi)]->Sf0 H f (prO lo hi)
 | ev {e r:Int}:0 < e->Clo H f qiE qgU qg0 qfo [("_law_one",.int e),("_law_other",.int r)]->Sf0 H f (prE e r)
inductive Sf1 (H:Hp) (f:Addr):(Int->Bool)->Prop
 | b {pr:Int->Bool}:Sf0 H f pr->Sf1 H f pr
 | op {g:Addr}{pr:Int->Bool}:Clo H f qiC qgS qgY qfm [("keeps",.ref g)]->Sf0 H g pr->Sf1 H f (fun n=>!pr n)
theorem Sf0.mp {H H':Hp}{f:Addr}{pr:Int->Bool} (h:Sf0 H f pr) (k:∀ b φ,H b=some (.ext φ)->H' b=some (.ext φ)):Sf0 H' f pr:=by
 cases h with
 | od c=>exact .od (c.mp k)
 | d1 c=>exact .d1 (c.mp k)
 | d2 c=>exact .d2 (c.mp k)
 | ev e c=>exact .ev e (c.mp k)
theorem Sf1.mp {H H':Hp}{f:Addr}{pr:Int->Bool} (h:Sf1 H f pr) (k:∀ b φ,H b=some (.ext φ)->H' b=some (.ext φ)):Sf1 H' f pr:=by
 cases h with
 | b c=>exact .b (c.mp k)
 | op c d=>exact .op (c.mp k) (d.mp k)
theorem NT.ext {H H':Hp} (n:NT H H'):∀ b φ,H b=some (.ext φ)->H' b=some (.ext φ):=fun b φ e=>n b _ e (by intro ps z;cases z)
theorem Sf0.obj {H:Hp}{f:Addr}{pr:Int->Bool} (h:Sf0 H f pr):∃ o fd,H f=some (.ext (ZY f o))∧o.data=.func fd:=by
 cases h with
 | od c=>exact c.obj
 | d1 c=>exact c.obj
 | d2 c=>exact c.obj
 | ev e c=>exact c.obj
theorem Sf1.obj {H:Hp}{f:Addr}{pr:Int->Bool} (h:Sf1 H f pr):∃ o fd,H f=some (.ext (ZY f o))∧o.data=.func fd:=by
 cases h with
 | b c=>exact c.obj
 | op c d=>exact c.obj
theorem qjV {a b:Str}{x y:Int}{k:Str}{v:V} (h:[(a,V.int x),(b,V.int y)].lookup k=some v):∃ i,v=.int i:=by
 have m:=PySem.mem_of_lookup h;simp only[List.mem_cons,Prod.mk.injEq,List.not_mem_nil,or_false]at m;rcases m with ⟨_,rfl⟩|⟨_,rfl⟩<;>exact⟨_,rfl⟩
theorem qjy {g:Addr}{i:Int}{u:Value} (h:RelV (.ref g) u) (h':RelV (.int i) u):False:=by
 cases (show u=Value.ref g from h);obtain⟨t,e⟩:=(show ∃ t,_=Value.int i t from h')
 cases e
theorem Sf0.cut {P:Program}{w:World}{H:Hp}{h:Heap}{cs:List Addr}{f:Addr}{pr:Int->Bool} (ok:HOk P w H h) (hcs:∀ d∈cs,∃ g:Addr,H d=some (.ext (zN d (.ref g)))) (s:Sf0 H f pr):Sf0 (cut H cs) f pr:=by
 have go:∀ {a b:Str}{x y:Int},∀ d∈cs,∃ v,H d=some (.ext (zN d v))∧∀ k z,[(a,V.int x),(b,V.int y)].lookup k=some z->∀ u,RelV v u->¬ RelV z u:=fun {a b x y} d m=>by
   obtain⟨g,e⟩:=hcs d m;refine⟨_,e,fun k z q u r1 r2=>?_⟩;obtain⟨i,rfl⟩:=qjV q;exact qjy r1 r2
 cases s with
 | od c=>exact .od (c.cut ok go)
 | d1 c=>exact .d1 (c.cut ok go)
 | d2 c=>exact .d2 (c.cut ok go)
 | ev e c=>exact .ev e (c.cut ok go)
def sp0 (f:Addr):Sp:=fun vs H Q _=>∃ (n:Int) (pr:Int->Bool),vs=[.int n]∧Sf0 H f pr∧Q (.bl (pr n)) H
def spS (a:Ad) (f:Addr):Sp:=fun vs H Q _=>∃ (n:Int) (pr:Int->Bool),vs=[.int n]∧Sf1 H f pr∧Q (.bl (pr n)) H
theorem qfx (i j:Int):decide (V.int i=V.int j)=decide (i=j):=decide_eq_decide.mpr ⟨fun z=>by injection z,fun z=>by rw[z]⟩
theorem qdm {a:Ad}{P:Program}{w:World}{K:Frag}{mg:Str->Option Value}{base:Heap} (T:Txt K mg a) {f:Addr}:qkk P w K mg base 2 f (sp0 f):=by
 intro A outer s H us vs Q hr e0 r h;obtain⟨n,pr,rfl,sf,kk⟩:=h;obtain⟨t_DAY,c_DAY⟩:=T.g_DAY
 cases sf with
 | @od lo hi clo =>
   refine J7 (k:=1) (fv:=[("low",.int lo),("high",.int hi)]) qjQ hr e0 clo r rfl fun cl c _ hr' out=>?_;refine⟨_,(Zx Qt Qt (pv 1) (qo qa9 (pv 0) (qY (v:=.int 1440) rfl c_DAY ⟨_,rfl⟩)) (pv 2)),?_⟩;refine⟨_,rfl,_,rfl,_,_,rfl,rfl,⟨by decide,by decide⟩,_,_,rfl,rfl,_,rfl,qcE (fun g=>?_) (fun g=>?_)⟩
   · refine⟨_,rfl,_,_,rfl,rfl,?_⟩;(try dsimp only);rw[zA];have e:prD lo hi n=decide (n / 1440≤hi):=by unfold prD;rw[g,Bool.true_and]
     rw[e]at kk;exact kk
   · try dsimp only
     rw[zA];have e:prD lo hi n=false:=by unfold prD;rw[g,Bool.false_and]
     rw[e]at kk;exact kk
 | @d1 lo hi clo =>
   refine J7 (k:=1) (fv:=[("low",.int lo),("high",.int hi)]) qjU hr e0 clo r rfl fun cl c _ hr' out=>?_;refine⟨_,(Zx Qt Qt (pv 1) (qo za (pv 0) (qY (v:=.int 1440) rfl c_DAY ⟨_,rfl⟩)) (pv 2)),?_⟩;refine⟨_,rfl,_,rfl,_,_,rfl,rfl,(by decide),_,_,rfl,rfl,_,rfl,qcE (fun g=>?_) (fun g=>?_)⟩
   · refine⟨_,rfl,_,_,rfl,rfl,?_⟩;(try dsimp only);rw[zA];have e:prM lo hi n=decide (n % 1440≤hi):=by unfold prM;rw[g,Bool.true_and]
     rw[e]at kk;exact kk
   · try dsimp only
     rw[zA];have e:prM lo hi n=false:=by unfold prM;rw[g,Bool.false_and]
     rw[e]at kk;exact kk
 | @d2 lo hi clo =>
   refine J7 (k:=1) (fv:=[("low",.int lo),("high",.int hi)]) qjT hr e0 clo r rfl fun cl c _ hr' out=>?_;refine⟨_,(qjG (zv qjJ (qo za (pv 0) (qY (v:=.int 1440) rfl c_DAY ⟨_,rfl⟩)) (pv 1) (qz _)) (qaG (zv Qt (qo za (pv 0) (qY (v:=.int 1440) rfl c_DAY ⟨_,rfl⟩)) (pv 2) (qz _)))),?_⟩;refine⟨_,rfl,_,_,rfl,rfl,(by decide),_,rfl,_,_,rfl,rfl,_,rfl,qcE (fun g=>?_) (fun g=>?_)⟩
   · try dsimp only
     rw[zA];have e:prO lo hi n=true:=by unfold prO;rw[show decide (lo≤n % 1440)=true from g,Bool.true_or]
     rw[e]at kk;exact kk
   · refine⟨_,rfl,_,_,rfl,rfl,(by decide),_,rfl,_,_,rfl,rfl,?_⟩;(try dsimp only);rw[zA];have e:prO lo hi n=decide (n % 1440≤hi):=by unfold prO;rw[show decide (lo≤n % 1440)=false from g,Bool.false_or]
     rw[e]at kk;exact kk
 | @ev e r0 he clo =>
   refine J7 (k:=1) (fv:=[("_law_one",.int e),("_law_other",.int r0)]) qjS hr e0 clo r rfl fun cl c _ hr' out=>?_;have hU:=hr'.units;refine⟨_,(zv (uEq hU) (qo za (pv 0) (pv 1)) (qo za (pv 2) (pv 1)) (qz _)),?_⟩;refine⟨_,rfl,_,rfl,_,_,rfl,rfl,he,_,rfl,_,rfl,_,_,rfl,rfl,he,.inl ⟨rfl,?_⟩⟩;(try dsimp only);rw[zA,qfx];exact kk
theorem qdl {a:Ad}{P:Program}{w:World}{K:Frag}{mg:Str->Option Value}{base:Heap} (T:Txt K mg a) {f:Addr}:qkk P w K mg base 3 f (spS a f):=by
 intro A outer s H us vs Q hr e0 r h;obtain⟨n,pr,rfl,sf,kk⟩:=h
 cases sf with
 | b sf=>exact qdm T A outer s H us _ Q (hr.mono (by decide)) e0 r ⟨n,pr,rfl,sf,kk⟩
 | @op g pr clo sf =>
   refine J7 (k:=2) (fv:=[("keeps",.ref g)]) qjP hr e0 clo r rfl fun cl c cells hr' out=>?_;refine⟨_,(qhJ (Jf (k:=2) (Ok:=fun f sp=>sp=sp0 f) (pv 1) hr' (fun f sp h=>by rw[h];exact qdm T) (qa (pv 0) qc))),?_⟩
   have sf':Sf0 (cut H (fcs cl [("keeps",.ref g)])) g pr:=sf.cut e0.hok fun d m=>by
     obtain⟨y,v,e1,e2⟩:=cells d m;have mm:=PySem.mem_of_lookup e1;simp only[List.mem_cons,Prod.mk.injEq,List.not_mem_nil,or_false]at mm;obtain⟨_,rfl⟩:=mm;exact⟨g,e2⟩
   obtain⟨o,fd,ho,hd⟩:=sf'.obj;refine⟨_,rfl,g,sp0 g,o,fd,rfl,ho,hd,rfl,_,rfl,ho,n,pr,rfl,sf',_,rfl,?_⟩;(try dsimp only);rw[zA];exact kk
def prY (lo hi:Int):Int->Bool:=if lo≤hi then prM lo hi else prO lo hi
def prR (wd:Str) (x y:Int):Int->Bool:=if wd="days" then prD x y else if wd="daily" then prY x y else prE x y
inductive jD (a:Ad) (vs:List V) (H:Hp) (Q:VK):Prop
 | mk (lo hi:Int) (h1:vs=[.int lo,.int hi]) (h2:Tbs a H) (h3:∀ (f:Addr) (H':Hp),H f=none->NT H H'->Tbs a H'->Sf0 H' f (prD lo hi)->Q (.ref f) H'):jD a vs H Q
def qan (a:Ad):Sp:=fun vs H Q _=>jD a vs H Q
inductive qap (a:Ad) (vs:List V) (H:Hp) (Q:VK):Prop
 | mk (lo hi:Int) (h1:vs=[.int lo,.int hi]) (h2:Tbs a H) (h3:∀ (f:Addr) (H':Hp),H f=none->NT H H'->Tbs a H'->Sf0 H' f (prY lo hi)->Q (.ref f) H'):qap a vs H Q
def qcV (a:Ad):Sp:=fun vs H Q _=>qap a vs H Q
inductive Z0 (a:Ad) (vs:List V) (H:Hp) (Q:VK):Prop
 | mk (g:Addr) (pr:Int->Bool) (h1:vs=[.ref g]) (h2:Sf0 H g pr) (h3:Tbs a H) (h4:∀ (f:Addr) (H':Hp),H f=none->NT H H'->Tbs a H'->Sf1 H' f (fun n=>!pr n)->Q (.ref f) H'):Z0 a vs H Q
def Jk (a:Ad):Sp:=fun vs H Q _=>Z0 a vs H Q
inductive Jn (a:Ad) (vs:List V) (H:Hp) (Q:VK):Prop
 | mk (t:Addr) (wd:Str) (x y:Int) (h1:vs=[.ref t]) (h2:H t=some (.tup [.str wd,.int x,.int y])) (h3:(wd="days"∨wd="daily"∨0 < x)) (h4:Tbs a H) (h5:∀ (f:Addr) (H':Hp),H f=none->NT H H'->Tbs a H'->Sf0 H' f (prR wd x y)->Q (.ref f) H'):Jn a vs H Q
def qbq (a:Ad):Sp:=fun vs H Q _=>Jn a vs H Q
def Nt (H:Hp) (f l g:Addr):Prop:=CloS H f "_law_keeps_it" nq_ np_ nb_ nc_ [("_law_asked",.ref l),("_law_sieve_here",.ref g)]
inductive jI (a:Ad) (vs:List V) (H:Hp) (Q:VK):Prop
 | mk (g l:Addr) (h1:vs=[.ref g,.ref l]) (h2:Tbs a H) (h3:∀ (f:Addr) (H':Hp),H f=none->NT H H'->Tbs a H'->Nt H' f l g->Q (.ref f) H'):jI a vs H Q
def qaw (a:Ad):Sp:=fun vs H Q _=>jI a vs H Q
theorem Qa (x y:Str):decide (V.str x=V.str y)=decide (x=y):=decide_eq_decide.mpr ⟨fun z=>by injection z,fun z=>by rw[z]⟩
theorem qkO {X:Cx}{σ:L2.St}{H' H'':Hp}{f c:Addr}{o:Obj}{n:Nat}{v0 v1:V} (lob:qhq X "_law_keeps_it" np_ nb_ nc_ c o) (ci:zR ["_law_sieve_here","_law_asked","_law_keeps_it"] (qe zr) (cellsFrom n (qe zr).names []) σ H' H'') (h0:σ[1]?=some (some v0)) (h1:σ[0]?=some (some v1))
   (hq:qualnameIn X.env "_law_keeps_it" "_law_keeps_it"=nq_) (hcl:X.env.cells=cellsFrom n (qe zr).names []) (hf:H' f=some (.ext (ZY f o))) (hc:H' c=some (.ext (zQ c (qualnameIn X.env "_law_keeps_it" "_law_keeps_it")))):CloS H'' f "_law_keeps_it" nq_ np_ nb_ nc_ [("_law_asked",v0),("_law_sieve_here",v1)]:=by
 have fr:∀ y∈(nc_).names,y.2=NameKind.free->∃ c,X.env.cells.lookup y.1=some c:=by rw[hcl];exact zj (sc:=qe zr) (by decide +kernel)
 have c0:=qhk (X:=X) (fv:=[("_law_asked",v0),("_law_sieve_here",v1)]) qjR lob (by rw[hcl];exact ci) hf hc fr (fun y v m=>by
   simp only[List.mem_cons,Prod.mk.injEq,List.not_mem_nil,or_false]at m;rcases m with ⟨rfl,rfl⟩|⟨rfl,rfl⟩
   · exact⟨by decide +kernel,1,rfl,h0⟩
   · exact⟨by decide +kernel,0,rfl,h1⟩)
 rw[hq]at c0;exact c0
section
variable {P:Program}{w:World}{K:Frag}{mg:Str->Option Value}{base:Heap}
theorem qdS {a:Ad} (T:Txt K mg a) (hB:qch mg base):qx P w K mg base CX0 1 a.f_y a.fd_y ["low","high"] (qan a):=by
 refine T.d_y.F.okK T.cd_on_days qdL (fun vs H Q E h=>?_) (fun cdv A outer s H vs Q E hcd hr h=>?_)
 · obtain⟨lo,hi,rfl,tb,kk⟩:=h;rfl
 · obtain⟨lo,hi,rfl,tb,kk⟩:=h;obtain⟨t_DAY,c_DAY⟩:=T.g_DAY;refine⟨_,(Qo (Zm (JI (T:=a.t_on_days) (l:=zX) rfl (zj (sc:=qe zb) (by decide)) hcd T.hd_on_days hB (by exact List.mem_cons_self) (fun x hx _ _=>qd0 x hx)))),?_⟩;obtain⟨ps,hps⟩:=tb.t0.at_;exact⟨tb.t0,fun f c o H' f0 nf B tb' hf hc lob H'' ci=>kk f H'' f0 ((qcw hps B).trans (Same.nt ci.s)) ((tb.at0 T B tb').same ci.s) (.od (qkN lob ci rfl rfl rfl hf hc))⟩
theorem qgx {a:Ad} (T:Txt K mg a) (hB:qch mg base):qx P w K mg base CX0 1 a.f_z a.fd_z ["low","high"] (qcV a):=by
 refine T.d_z.F.okK T.cd_daily qgn (fun vs H Q E h=>?_) (fun cdv A outer s H vs Q E hcd hr h=>?_)
 · obtain⟨lo,hi,rfl,tb,kk⟩:=h;rfl
 · obtain⟨lo,hi,rfl,tb,kk⟩:=h;obtain⟨t_DAY,c_DAY⟩:=T.g_DAY
   refine⟨_,(Zl (qeN (qy Qt (pv 0) (pv 1) (qz _))
       (Qo (Zm (JI (T:=a.t_daily) (l:=QR) rfl (zj (sc:=qe qV) (by decide)) hcd T.hd_daily hB (by exact List.mem_cons_self) (fun x hx _ _=>qdq x hx))))
       qa7)
     (Qo (Zm (JI (T:=a.t_daily) (l:=QR) rfl (zj (sc:=qe qV) (by decide)) hcd T.hd_daily hB (by exact(List.mem_cons_of_mem _ List.mem_cons_self)) (fun x hx _ _=>qdq x hx))))),?_⟩
   obtain⟨ps,hps⟩:=tb.t1.at_;refine⟨_,rfl,_,rfl,_,_,rfl,rfl,_,rfl,ZW (fun g=>?_) (fun g=>?_)⟩
   · have e:prY lo hi=prM lo hi:=if_pos g;rw[e]at kk;exact⟨tb.t1,fun f c o H' f0 nf B tb' hf hc lob H'' ci=>kk f H'' f0 ((qcw hps B).trans (Same.nt ci.s)) ((tb.at1 T B tb').same ci.s) (.d1 (qkR lob ci rfl rfl rfl hf hc))⟩
   · have e:prY lo hi=prO lo hi:=if_neg g;rw[e]at kk;exact⟨tb.t1,fun f c o H' f0 nf B tb' hf hc lob H'' ci=>kk f H'' f0 ((qcw hps B).trans (Same.nt ci.s)) ((tb.at1 T B tb').same ci.s) (.d2 (qkQ lob ci rfl rfl rfl hf hc))⟩
theorem qct {a:Ad} (T:Txt K mg a) (hB:qch mg base):qx P w K mg base CX0 1 a.f_A a.fd_A ["keeps"] (Jk a):=by
 refine T.d_A.F.okK T.cd_opposite qcn (fun vs H Q E h=>?_) (fun cdv A outer s H vs Q E hcd hr h=>?_)
 · obtain⟨g,pr,rfl,sf,tb,kk⟩:=h;rfl
 · obtain⟨g,pr,rfl,sf,tb,kk⟩:=h;refine⟨_,(Qo (Zm (JI (T:=a.t_opposite) (l:=zF) rfl (zj (sc:=qe qU) (by decide)) hcd T.hd_opposite hB (by exact List.mem_cons_self) (fun x hx _ _=>qcz x hx)))),?_⟩;obtain⟨ps,hps⟩:=tb.t2.at_;exact⟨tb.t2,fun f c o H' f0 nf B tb' hf hc lob H'' ci=>kk f H'' f0 ((qcw hps B).trans (Same.nt ci.s)) ((tb.at2 T B tb').same ci.s) (.op (qkM lob ci rfl rfl hf hc) (sf.mp ((qcw hps B).trans (Same.nt ci.s)).ext))⟩
theorem qe0 {a:Ad} (T:Txt K mg a) (hB:qch mg base):qx P w K mg base CX0 2 a.f_B a.fd_B ["_law_rule_here"] (qbq a):=by
 have G_y:qx P w K mg base CX0 1 a.f_y a.fd_y ["low","high"] (qan a):=qdS T hB;have G_z:qx P w K mg base CX0 1 a.f_z a.fd_z ["low","high"] (qcV a):=qgx T hB;refine T.d_B.F.okK T.cd_Lsieve sc_Lsieve (fun vs H Q E h=>?_) (fun cdv A outer s H vs Q E hcd hr h=>?_)
 · obtain⟨t,wd,x,y,rfl,ht,hw,tb,kk⟩:=h;rfl
 · obtain⟨t,wd,x,y,rfl,ht,hw,tb,kk⟩:=h;have hU:=hr.units;have h_y:Room (1) _:=hr.mono (by decide);have h_z:Room (1) _:=hr.mono (by decide)
   refine⟨_,(Zl (qeM (Zn (pv 0) (zu rfl (qq (qm (i:=1) (sc_Lsieve.nd) rfl (Or.inl rfl)) (qq (qm (i:=2) (sc_Lsieve.nd) rfl (Or.inr rfl)) (qq (qm (i:=3) (sc_Lsieve.nd) rfl (Or.inr rfl)) qR))))))
     (Zl (qeN (qy (uEq hU) (pv 1) qH (qz _))
       (Qo (Zm (qj G_y h_y rfl T.d_y.m T.d_y.k T.d_y.b .nil qr (qa (pv 2) (qa (pv 3) qc)))))
       qa7)
     (Zl (qeN (qy (uEq hU) (pv 1) qH (qz _))
       (Qo (Zm (qj G_z h_z rfl T.d_z.m T.d_z.k T.d_z.b .nil qr (qa (pv 2) (qa (pv 3) qc)))))
       qa7)
     (Qo (Zm (JI (T:=a.t_Lsieve) (l:=QG) rfl (zj (sc:=qe zG) (by decide)) hcd T.hd_Lsieve hB (by exact List.mem_cons_self) (fun x hx _ _=>qfh x hx))))))),?_⟩
   obtain⟨ps,hps⟩:=tb.t3.at_;refine⟨_,rfl,t,_,rfl,SqT.of ht,rfl,_,_,rfl,_,_,rfl,_,_,rfl,rfl,?_⟩;refine⟨_,rfl,.inl ⟨rfl,_,rfl,qcE (fun g=>?_) (fun g=>?_)⟩⟩
   · rw[Qa]at g;have g:=of_decide_eq_true g;have e:prR wd x y=prD x y:=if_pos g;rw[e]at kk;exact⟨_,rfl,_,rfl,x,y,rfl,tb,fun f H' f0 n tb' sf H'' ci=>kk f H'' f0 (n.trans (Same.nt ci.s)) (tb'.same ci.s) (sf.mp (Same.nt ci.s).ext)⟩
   rw[Qa]at g;have g:=of_decide_eq_false g;refine⟨_,rfl,.inl ⟨rfl,_,rfl,qcE (fun g2=>?_) (fun g2=>?_)⟩⟩
   · rw[Qa]at g2;have g2:=of_decide_eq_true g2;have e:prR wd x y=prY x y:=(if_neg g).trans (if_pos g2);rw[e]at kk;exact⟨_,rfl,_,rfl,x,y,rfl,tb,fun f H' f0 n tb' sf H'' ci=>kk f H'' f0 (n.trans (Same.nt ci.s)) (tb'.same ci.s) (sf.mp (Same.nt ci.s).ext)⟩
   rw[Qa]at g2;have g2:=of_decide_eq_false g2;have e:prR wd x y=prE x y:=(if_neg g).trans (if_neg g2);rw[e]at kk;exact⟨tb.t3,fun f c o H' f0 nf B tb' hf hc lob H'' ci=>kk f H'' f0 ((qcw hps B).trans (Same.nt ci.s)) ((tb.at3 T B tb').same ci.s) (.ev ((hw.resolve_left g).resolve_left g2) (qkP lob ci rfl rfl rfl hf hc))⟩
theorem qdU {a:Ad} (T:Txt K mg a) (hB:qch mg base):qx P w K mg base CX0 1 a.f_C a.fd_C ["_law_sieve_here","_law_asked"] (qaw a):=by
 refine T.d_C.F.okK T.cd_Lnoting sc_Lnoting (fun vs H Q E h=>?_) (fun cdv A outer s H vs Q E hcd hr h=>?_)
 · obtain⟨g,l,rfl,tb,kk⟩:=h;rfl
 · obtain⟨g,l,rfl,tb,kk⟩:=h;have hU:=hr.units
   refine⟨_,(Zl (qeM (qir (T:=a.t_Lnoting) (l:=zY) (i:=2) rfl rfl rfl (zj (sc:=qe zr) (by decide)) hcd T.hd_Lnoting hB (by exact List.mem_cons_self) (fun x hx _ _=>qd1 x hx) sc_Lnoting.nd rfl (Or.inl rfl)))
     (Qo (Zm (pv 2)))),?_⟩
   obtain⟨ps,hps⟩:=tb.t4.at_;exact⟨tb.t4,fun f c o H' f0 nf B tb' hf hc lob=>⟨_,rfl,fun H'' ci=>kk f H'' f0 ((qcw hps B).trans (Same.nt ci.s)) ((tb.at4 T B tb').same ci.s) (qkO lob ci rfl rfl rfl rfl hf hc)⟩⟩
end
theorem qic {n:Nat} (h:n≤9000):n < sizeLine:=Nat.lt_of_le_of_lt h (by decide)
theorem qjx {g g':Addr}{u:Value} (h:RelV (.ref g) u) (h':RelV (.ref g') u):g=g':=by
 cases (show u=Value.ref g from h);cases (show Value.ref g=Value.ref g' from h');rfl
theorem Sf1.cut {P:Program}{w:World}{H:Hp}{h:Heap}{cs:List Addr}{f l:Addr}{xs:List V}{pr:Int->Bool} (ok:HOk P w H h) (hl:H l=some (.lst xs)) (hcs:∀ d∈cs,∃ g:Addr,H d=some (.ext (zN d (.ref g)))∧(g=l∨g=f)) (s:Sf1 H f pr):Sf1 (cut H cs) f pr:=by
 have h0:∀ d∈cs,∃ g:Addr,H d=some (.ext (zN d (.ref g))):=fun d m=>let ⟨g,e,_⟩:=hcs d m;⟨g,e⟩
 cases s with
 | b s=>exact .b (s.cut ok h0)
 | @op g0 pr c s =>
   have n1:g0≠l:=fun e=>by
     obtain⟨o,fd,ho,_⟩:=s.obj;rw[e,hl]at ho;cases ho
   have n2:g0≠f:=fun e=>by
     cases s with
     | od c'=>exact Clo.ne ok c c' (by decide) e.symm
     | d1 c'=>exact Clo.ne ok c c' (by decide) e.symm
     | d2 c'=>exact Clo.ne ok c c' (by decide) e.symm
     | ev _ c'=>exact Clo.ne ok c c' (by decide) e.symm
   refine .op (c.cut ok fun d m=>?_) (s.cut ok h0);obtain⟨g,e,hg⟩:=hcs d m;refine⟨_,e,fun y x q u r1 r2=>?_⟩;have mm:=PySem.mem_of_lookup q;simp only[List.mem_cons,Prod.mk.injEq,List.not_mem_nil,or_false]at mm;obtain⟨_,rfl⟩:=mm
   have:=qjx r1 r2
   rcases hg with rfl|rfl
   · exact n1 this.symm
   · exact n2 this.symm
def spN (a:Ad) (f:Addr):Sp:=fun vs H Q _=>∃ (n:Int) (pr:Int->Bool) (l g:Addr) (ms:List Int),vs=[.int n]∧Nt H f l g∧Sf1 H g pr∧H l=some (.lst (ms.map V.int))∧ms.length≤9000∧Q (.bl (pr n)) (upd H l (.lst ((ms++[n]).map V.int)))
theorem qeY {a:Ad}{P:Program}{w:World}{K:Frag}{mg:Str->Option Value}{base:Heap} (T:Txt K mg a) {f:Addr}:qkk P w K mg base 5 f (spN a f):=by
 intro A outer s H us vs Q hr e0 r h;obtain⟨n,pr,l,g,ms,rfl,nt,sf,hl,few,kk⟩:=h;refine qhj (k:=4) (fv:=[("_law_asked",.ref l),("_law_sieve_here",.ref g)]) qjR hr e0 nt r rfl fun cl c cells hr' out=>?_
 refine⟨_,(qf (qJ (qbP PySem.F.plainAttrs_list PySem.F.slot_list_append PySem.F.type_list_append Qf (pv 1) (qa (pv 0) qc)))
   (qg (qv (Jf (k:=3) (Ok:=fun f sp=>sp=spS a f) (pv 2) (hr'.mono (by decide)) (fun f sp h=>by rw[h];exact qdl T) (qa (pv 0) qc))))),?_⟩
 have hcs:∀ d∈fcs cl [("_law_asked",.ref l),("_law_sieve_here",.ref g)],∃ g':Addr,H d=some (.ext (zN d (.ref g')))∧(g'=l∨g'=g):=fun d m=>by
   obtain⟨y,v,e1,e2⟩:=cells d m;have mm:=PySem.mem_of_lookup e1;simp only[List.mem_cons,Prod.mk.injEq,List.not_mem_nil,or_false]at mm;rcases mm with ⟨_,rfl⟩|⟨_,rfl⟩
   · exact⟨l,e2,.inl rfl⟩
   · exact⟨g,e2,.inr rfl⟩
 have sf':=sf.cut e0.hok hl hcs;have hl':=out l _ hl (by intro φ z;cases z)
 have nl:l∉fcs cl [("_law_asked",.ref l),("_law_sieve_here",.ref g)]:=fun z=>by
   obtain⟨g',e,_⟩:=hcs l z;rw[hl]at e;cases e
 refine⟨_,rfl,.inl ⟨rfl,_,SqL.of hl'⟩,_,rfl,l,_,_,rfl,rfl,hl',qic (by rw[List.length_map];exact few),?_⟩
 have sf2:Sf1 (upd (cut H (fcs cl [("_law_asked",.ref l),("_law_sieve_here",.ref g)])) l (.lst (ms.map V.int++[.int n]))) g pr:=sf'.mp fun b φ e=>by
   rw[qi (fun z=>by rw[z,hl']at e;cases e)];exact e
 obtain⟨o,fd,ho,hd⟩:=sf2.obj;refine⟨_,rfl,g,spS a g,o,fd,rfl,ho,hd,rfl,_,rfl,ho,n,pr,rfl,sf2,?_⟩;(try dsimp only);rw[qf0 nl,zA];rw[List.map_append]at kk;exact kk
def pls (pl:Str):List Str:=if pl="" then [] else [pl]
theorem qbf {x:Str} (h:ze (.str x)=true):x≠"":=fun z=>by subst z;cases h
structure Tq (a:Ad) (H:Hp) (td:Addr) (ts:Pls):Prop where
 ht:H td=some (.dK (dkv ts))
 tt:∀ t∈ts,Tb a H t.2.1 t.2.2
 tg:∀ t∈ts,Good t.2.2
 nd:(ts.map (·.1)).Nodup
theorem Tb.sm {a:Ad}{H H':Hp}{x:Addr}{rows:List (Int×Int)} (h:Tb a H x rows) (s:Same H H'):Tb a H' x rows:=by
 obtain⟨k,dx,zs,h1,h2,h3⟩:=h;exact⟨k,dx,zs,s _ _ h1,s _ _ h2,h3.same s⟩
theorem Tq.sm {a:Ad}{H H':Hp}{td:Addr}{ts:Pls} (h:Tq a H td ts) (s:Same H H'):Tq a H' td ts:=⟨s _ _ h.ht,fun t m=>(h.tt t m).sm s,h.tg,h.nd⟩
def ME (ts:Pls) (wd pl:Str) (lo hi n:Int):Prop:=∃ W,Due ts wd pl lo hi W∧Mem W n
theorem qiR {ts:Pls} (nd:(ts.map (·.1)).Nodup) {wd pl:Str}{lo hi:Int}{W W':List (Int×Int)} (h:Due ts wd pl lo hi W) (h':Due ts wd pl lo hi W'):W=W':=by
 cases h with
 | @pl x hw mx ex =>
   cases h' with
   | @pl y _ my ey =>
     have e:x=y:=by
       obtain⟨i,hi,e1⟩:=List.mem_iff_getElem.mp mx;obtain⟨j,hj,e2⟩:=List.mem_iff_getElem.mp my
       have:i=j:=(List.getElem_inj (h₀:=by rw[List.length_map];exact hi) (h₁:=by rw[List.length_map];exact hj) nd).mp (by rw[List.getElem_map,List.getElem_map,e1,e2,ex,ey])
       subst this;rw[← e1,← e2]
     rw[e]
   | no z=>exact absurd hw (by rcases z with z|z|z<;>rw[z]<;>decide)
 | no hw =>
   cases h' with
   | pl z _ _=>exact absurd z (by rcases hw with z|z|z<;>rw[z]<;>decide)
   | no _=>rfl
theorem jU {ts:Pls} (nd:(ts.map (·.1)).Nodup) {wd pl:Str}{lo hi:Int}{W:List (Int×Int)} (d:Due ts wd pl lo hi W) (n:Int):Mem W n↔ME ts wd pl lo hi n:=⟨fun h=>⟨W,d,h⟩,fun⟨W',d',h⟩=>by rw[qiR nd d d'];exact h⟩
theorem qdP {K:Frag}{mg:Str->Option Value}{a:Ad} (T:Txt K mg a) {te:TE}{σ:L2.St}{H:Hp}{Q:VK}{x:Addr}{wd nm pl:Str}{lo hi:Int} (hte:∀ R:V->Hp->Prop,R (.ref x) H->te σ H R) (en:En a H x wd nm pl lo hi) (sp:Spc wd nm pl lo hi) (hw:wd="read"∨((wd="within"∨wd="at")∧hi - lo < 1000)) (k:∀ l,H l=none->Q (.ref l) (upd H l (.lst ((pls pl).map V.str)))):Jj a.c_Within "places" zo [] E0 te qhu σ H Q∨Jj a.c_At "places" zo [] E0 te qhu σ H Q∨Jj a.c_Read "places" (zC K) [] E0 te qhu σ H Q:=by
 cases en with
 | @any dx _ hx=>exact absurd hw (by intro z;rcases z with z|⟨z|z,_⟩<;>exact absurd z (by decide))
 | @within dx _ _ _ hx=>exact .inl (hte _ ⟨x,dx,_,rfl,hx,rfl,_,rfl,fun l fl=>k l fl⟩)
 | @at_ dx _ _ hx=>exact .inr (.inl (hte _ ⟨x,dx,_,rfl,hx,rfl,_,rfl,fun l fl=>k l fl⟩))
 | @between dx _ _ _ _ hx=>exact absurd hw (by intro z;rcases z with z|⟨z|z,_⟩<;>exact absurd z (by decide))
 | @read dx _ _ _ hx =>
   have e:pls pl=[pl]:=if_neg (qbf (by cases sp with|read _ h _=>exact h));rw[e]at k;exact .inr (.inr (hte _ ⟨x,dx,_,rfl,hx,rfl,x,_,dx,_,_,_,_,rfl,hx,T.cl_Read,T.n_Read_place,fun l fl=>k l fl⟩))
theorem qbo {K:Frag}{mg:Str->Option Value}{a:Ad} (T:Txt K mg a) {te:TE}{σ:L2.St}{H:Hp}{Q:VK}{x:Addr}{wd nm pl:Str}{lo hi:Int} (hte:∀ R:V->Hp->Prop,R (.ref x) H->te σ H R) (en:En a H x wd nm pl lo hi) {td:Addr}{ts:Pls}{ta:TA}{E:XK} (hta:∀ R:List V->Hp->Prop,R [.ref td] H->ta σ H R) (sp:Spc wd nm pl lo hi) (hw:wd="read"∨((wd="within"∨wd="at")∧hi - lo < 1000)) (tq:Tq a H td ts) (k:((pl=""∨pl∈ts.map (·.1))∧∀ (f:Addr) (r:List (Int×Int)) (H':Hp),H f=none->Same H H'->Rs H' f r->zB r->r.length≤21->(∀ n,Mem r n↔ME ts wd pl lo hi n)->Q (.ref f) H')∨(pl≠""∧pl∉ts.map (·.1)∧Rz a.c_NoPlace "found" (.str pl) H E)):Jj a.c_Within "spans" (qW K) [] E0 te ta σ H Q∨Jj a.c_At "spans" (qW K) [] E0 te ta σ H Q∨Jj a.c_Read "spans" (zO a) [] E te ta σ H Q:=by
 cases en with
 | @any dx _ hx=>exact absurd hw (by intro z;rcases z with z|⟨z|z,_⟩<;>exact absurd z (by decide))
 | @within dx _ _ _ hx =>
   rcases k with ⟨_,k⟩|⟨z,_⟩
   · exact .inl (hte _ ⟨x,dx,_,rfl,hx,rfl,hta _ ⟨x,_,dx,_,_,_,_,rfl,hx,T.cl_Within,T.n_Within_low,T.n_Within_high,fun f r H' ff S' R c l m=>k f r H' ff S' R c (Nat.le_trans l (Nat.le_of_ble_eq_true rfl)) fun n=>(m n).trans (jU tq.nd (.no (.inr (.inl rfl))) n)⟩⟩)
   · exact absurd rfl z
 | @at_ dx _ _ hx =>
   rcases k with ⟨_,k⟩|⟨z,_⟩
   · exact .inr (.inl (hte _ ⟨x,dx,_,rfl,hx,rfl,hta _ ⟨x,_,dx,_,_,_,_,rfl,hx,T.cl_At,T.n_At_low,T.n_At_high,fun f r H' ff S' R c l m=>k f r H' ff S' R c (Nat.le_trans l (Nat.le_of_ble_eq_true rfl)) fun n=>(m n).trans (jU tq.nd (.no (.inr (.inr rfl))) n)⟩⟩))
   · exact absurd rfl z
 | @between dx _ _ _ _ hx=>exact absurd hw (by intro z;rcases z with z|⟨z|z,_⟩<;>exact absurd z (by decide))
 | @read dx _ _ _ hx =>
   have okp:ze (.str pl)=true∧(-10000000000≤lo∧lo≤10000000000):=by cases sp with|read _ h b=>exact⟨h,b⟩
   refine .inr (.inr (hte _ ⟨x,dx,_,rfl,hx,rfl,hta _ ⟨x,_,dx,td,_,_,_,_,rfl,.inr rfl,hx,?_⟩⟩));rcases k with ⟨hp,k⟩|⟨_,no,kz⟩
   · obtain⟨t,mt,et⟩:=List.mem_map.mp (hp.resolve_left (qbf okp.1));have et':t.1=pl:=et;refine .inl ⟨t.2.1,t.2.2,.inl ⟨_,.inr pl,.inl tq.ht,rfl,?_⟩,tq.tt t mt,tq.tg t mt,okp.2,okp.2,fun f r H' ff S' R c l m=>k f r H' ff S' R c l fun n=>(m n).trans (jU tq.nd (.pl (.inr rfl) mt et') n)⟩;rw[← et'];exact(qhs tq.nd t mt).symm
   · exact .inr ⟨.inl ⟨_,.inr pl,.inl tq.ht,rfl,(qjg no).symm⟩,kz⟩
def mo (w:Int×Int):List Int:=(List.range (w.2+1 - w.1).toNat).map fun k:Nat=>w.1+(k:Int)
def mos (r:List (Int×Int)):List Int:=r.flatMap mo
abbrev dup (n:Int):Int×Int:=(n,n)
theorem mem_mo {w:Int×Int}{n:Int}:n∈mo w↔w.1≤n∧n≤w.2:=by
 unfold mo;rw[List.mem_map];constructor
 · rintro⟨k,mk,e⟩
   have:=List.mem_range.mp mk
   omega
 · rintro⟨h1,h2⟩;exact⟨(n - w.1).toNat,List.mem_range.mpr (by omega),by omega⟩
theorem mem_mos {r:List (Int×Int)}{n:Int}:n∈mos r↔Mem r n:=by
 unfold mos;rw[List.mem_flatMap];exact⟨fun⟨w,m,h⟩=>⟨w,m,mem_mo.mp h⟩,fun⟨w,m,h⟩=>⟨w,m,mem_mo.mpr h⟩⟩
theorem qdn:∀ {r:List (Int×Int)},zB r->(mos r).Nodup
 | [],_=>List.nodup_nil
 | w::r,c=>by
   have c':zB r:=⟨fun u m=>c.1 u (List.mem_cons_of_mem _ m),(List.pairwise_cons.mp c.2).2⟩
   unfold mos;rw[List.flatMap_cons];refine List.nodup_append.mpr ⟨?_,qdn c',fun n h1 m h2 e=>?_⟩
   · unfold mo;refine List.Pairwise.map _ (fun i j h=>?_) (List.nodup_range (n:=(w.2+1 - w.1).toNat));intro z;exact h (by omega)
   · subst e;obtain⟨u,mu,u1,u2⟩:=mem_mos.mp (show n∈mos r from h2)
     have:=(List.pairwise_cons.mp c.2).1 u mu
     have:=(mem_mo.mp h1).2
     omega
theorem qaW:∀ {l m:List Int},l.Nodup->(∀ x∈l,x∈m)->l.length≤m.length
 | [],_,_,_=>Nat.zero_le _
 | x::l,m,nd,h=>by
   rw[List.nodup_cons]at nd;have mx:=h x List.mem_cons_self
   have:=qaW (l:=l) (m:=m.erase x) nd.2 fun y my=>by
     have ne:y≠x:=fun e=>nd.1 (by rw[← e];exact my);exact(List.mem_erase_of_ne ne).mpr (h y (List.mem_cons_of_mem _ my))
   rw[List.length_erase_of_mem mx]at this
   have:=List.length_pos_of_mem mx
   rw[List.length_cons];omega
theorem qaR {r:List (Int×Int)} (c:zB r) (i:Nat):zB (r.take i):=⟨fun w m=>c.1 w (List.mem_of_mem_take m),c.2.sublist (List.take_sublist _ _)⟩
theorem qgi {β:Type}{f:β->List V}{H:Hp}{xs ys:List V}{ps qs:List β} (h:TupL f H xs ps) (g:TupL f H ys qs):TupL f H (xs++ys) (ps++qs):=by
 have hl:=h.1;refine⟨by rw[List.length_append,List.length_append,h.1,g.1],fun j z y e1 e2=>?_⟩;by_cases c:j < xs.length
 · rw[List.getElem?_append_left c]at e1;rw[List.getElem?_append_left (by omega)]at e2;exact h.2 j z y e1 e2
 · rw[List.getElem?_append_right (by omega)]at e1;rw[List.getElem?_append_right (by omega)]at e2;rw[hl]at e1;exact g.2 _ z y e1 e2
theorem qff {l:List Int}{n:Int}:Mem (l.map dup) n↔n∈l:=by
 constructor
 · rintro⟨w,m,h1,h2⟩;obtain⟨k,mk,rfl⟩:=List.mem_map.mp m;have h1':k≤n:=h1;have h2':n≤k:=h2;rw[Int.le_antisymm h2' h1'];exact mk
 · intro m;exact⟨dup n,List.mem_map_of_mem m,Int.le_refl _,Int.le_refl _⟩
theorem Zz {r:List (Int×Int)}{i:Nat}{w:Int×Int} (h:r[i]?=some w):mos (r.take (i+1))=mos (r.take i)++mo w:=by
 unfold mos;rw[List.take_add_one,h,List.flatMap_append];simp
theorem qfe {r:List (Int×Int)}{i:Nat}:∀ n∈mos (r.take i),n∈mos r:=fun n m=>by
 obtain⟨w,mw,h⟩:=List.mem_flatMap.mp m;exact List.mem_flatMap.mpr ⟨w,List.mem_of_mem_take mw,h⟩
theorem qka (w:Int×Int):(mo w).Pairwise (· < ·):=by
 unfold mo;exact List.Pairwise.map _ (fun i j h=>by omega) (List.pairwise_lt_range (n:=(w.2+1 - w.1).toNat))
theorem qcL:∀ {r:List (Int×Int)},zB r->(mos r).Pairwise (· < ·)
 | [],_=>List.Pairwise.nil
 | w::r,c=>by
   have c':zB r:=⟨fun u m=>c.1 u (List.mem_cons_of_mem _ m),(List.pairwise_cons.mp c.2).2⟩
   unfold mos;rw[List.flatMap_cons];refine List.pairwise_append.mpr ⟨qka w,qcL c',fun n h1 m h2=>?_⟩;obtain⟨u,mu,u1,u2⟩:=mem_mos.mp (show m∈mos r from h2)
   have:=(List.pairwise_cons.mp c.2).1 u mu
   have:=(mem_mo.mp h1).2
   omega
theorem qer {us:List Int} (h:us.Pairwise (· < ·)) (l:us.length≤1000):SrtOk (us.map dup):=by
 refine .inr ⟨by rw[List.length_map];exact l,?_⟩;rw[List.map_map];refine List.Pairwise.map _ (fun i j h=>?_) h;show (if j=i then _ else decide (j < i))=false;rw[if_neg (by omega),decide_eq_false (by omega)]
theorem qdD {ts:Pls} (tg:∀ t∈ts,Good t.2.2) {wd nm pl:Str}{lo hi:Int}{W:List (Int×Int)} (sp:Spc wd nm pl lo hi) (hw:wd="read"∨((wd="within"∨wd="at")∧hi - lo < 1000)) (due:Due ts wd pl lo hi W):∃ L:List Int,L.length≤1000∧(∀ n∈L,-20000000000≤n∧n≤20000000000)∧∀ n,Mem W n->n∈L:=by
 cases due with
 | @pl x0 hw' mx ex =>
   have hw2:wd="read":=by
     rcases hw with z|⟨z|z,_⟩
     · exact z
     · exact absurd hw' (by rw[z];decide)
     · exact absurd hw' (by rw[z];decide)
   subst hw2
   cases sp with
   | read _ _ hm =>
     have good:=tg x0 mx;refine⟨(pcs x0.2.2).map fun p=>lo - p.2.2,by rw[List.length_map,QP];exact Nat.le_trans good.few (by decide),fun n m=>?_,fun n h=>?_⟩
     · obtain⟨p,mp',rfl⟩:=List.mem_map.mp m
       have:=(qeU good.ok p mp').2.2
       omega
     · obtain⟨w,mw,h1,h2⟩:=h;obtain⟨p,mp',rfl⟩:=List.mem_map.mp mw;refine List.mem_map.mpr ⟨p,mp',?_⟩;unfold mp at h1 h2;dsimp only at h1 h2;split at h1<;>split at h2<;>omega
 | no hw' =>
   have hlt:hi - lo < 1000∧0≤lo∧lo≤1000000000∧0≤hi∧hi≤1000000000:=by
     rcases hw with z|⟨_,z⟩
     · exact absurd hw' (by rw[z];decide)
     · cases sp with
       | any _=>omega
       | within _ h1 h2=>omega
       | at_ _ h1=>omega
       | between _ _ _ _=>exact absurd hw' (by decide)
       | read _ _ _=>exact absurd hw' (by decide)
   refine⟨mo (lo,hi),?_,fun n m=>?_,fun n h=>?_⟩
   · unfold mo;rw[List.length_map,List.length_range];show (hi+1 - lo).toNat≤1000;omega
   · have:=mem_mo.mp m
     dsimp only at this;omega
   · obtain⟨w,mw,h⟩:=h;rw[List.mem_singleton.mp mw]at h;exact mem_mo.mpr h
inductive Ql (a:Ad) (vs:List V) (H:Hp) (Q:VK):Prop
 | mk (x dx p f:Addr) (nm2 wd nm pl:Str) (lo hi:Int) (h1:vs=[.ref x]) (h2:H x=some (.ins a.c_Sifted dx (fsS nm2 p f))) (h3:En a H p wd nm pl lo hi) (h4:(wd="read"∨((wd="within"∨wd="at")∧hi - lo < 1000))) (h5:Spc wd nm pl lo hi) (h6:∀ l,H l=none->Q (.ref l) (upd H l (.lst ((pls pl).map V.str)))):Ql a vs H Q
def QV (a:Ad):Sp:=fun vs H Q _=>Ql a vs H Q
inductive Qz (a:Ad) (vs:List V) (H:Hp) (Q:VK) (E:XK):Prop
 | mk (x dx p f td l g:Addr) (nm2 wd nm pl:Str) (lo hi:Int) (ts:Pls) (ms:List Int) (pr0:Int->Bool) (h1:vs=[.ref x,.ref td]) (h2:H x=some (.ins a.c_Sifted dx (fsS nm2 p f))) (h3:En a H p wd nm pl lo hi) (h4:(wd="read"∨((wd="within"∨wd="at")∧hi - lo < 1000))) (h5:Spc wd nm pl lo hi) (h6:Nt H f l g) (h7:Sf1 H g pr0) (h8:H l=some (.lst (ms.map V.int))) (h9:ms.length≤5000) (h10:Tq a H td ts) (h11:(((pl=""∨pl∈ts.map (·.1))∧∀ (d:Addr) (rr:List (Int×Int)) (ks:List Int) (H':Hp),H d=none->But l H H'->H' l=some (.lst ((ms++ks).map V.int))->(∀ k∈ks,ME ts wd pl lo hi k)->ks.length≤1000->Rs H' d rr->zB rr->rr.length≤1000->(∀ n,Mem rr n↔ME ts wd pl lo hi n∧pr0 n=true)->Q (.ref d) H')∨(pl≠""∧pl∉ts.map (·.1)∧Rz a.c_NoPlace "found" (.str pl) H E))):Qz a vs H Q E
def Qb (a:Ad):Sp:=fun vs H Q E=>Qz a vs H Q E
section
variable {P:Program}{w:World}{K:Frag}{mg:Str->Option Value}{base:Heap}
theorem j7 {a:Ad} (T:Txt K mg a):qx P w K mg base CX0 2 a.f_5 a.fd_5 ["self"] (QV a):=by
 have G_x:=JN (P:=P) (w:=w) (base:=base) T;have G_Z:=jx (P:=P) (w:=w) (base:=base) T;refine T.d_5.F.ok j3 (fun vs H Q E h=>?_) (fun cdv A outer s H vs Q E hr h=>?_)
 · obtain⟨x,dx,p,f,nm2,wd,nm,pl,lo,hi,rfl,hx,en,hw,sp,kk⟩:=h;rfl
 · obtain⟨x,dx,p,f,nm2,wd,nm,pl,lo,hi,rfl,hx,en,hw,sp,kk⟩:=h;have h_x:Room (1) _:=hr.mono (by decide);have h_Z:Room (1) _:=hr.mono (by decide);refine⟨_,(qg (qv (PE.or (zU (zc (pv 0) rfl) T.cl_Within T.i_Within_places G_x h_x T.d_x.b .nil qr) (PE.or (zU (zc (pv 0) rfl) T.cl_At T.i_At_places G_x h_x T.d_x.b .nil qr) (zU (zc (pv 0) rfl) T.cl_Read T.i_Read_places G_Z h_Z T.d_Z.b .nil qr))))),?_⟩;(try dsimp only [qZ,Cx.nox]);exact qdP T (fun R h=>⟨_,rfl,x,_,dx,_,_,rfl,hx,T.cl_Sifted,T.n_Sifted_part,rfl,h⟩) en sp hw kk
theorem Zr {a:Ad} (T:Txt K mg a):qx P w K mg base (CX1 P w) 7 a.f_i a.fd_i ["self","tables"] (Qb a):=by
 have G_h:=Zq (P:=P) (w:=w) (base:=base) T;have G_0:=j9 (P:=P) (w:=w) (base:=base) T;have G_c:=ZU (P:=P) (w:=w) (base:=base) T;refine T.d_i.F.okX sc_Sifted_spans (fun vs H Q E h=>?_) (fun cdv A outer s H vs Q E hr h=>?_)
 · obtain⟨x,dx,p,f,td,l,g,nm2,wd,nm,pl,lo,hi,ts,ms,pr0,rfl,hx,en,hw,sp,nt,sf,hl,lms,tq,kk⟩:=h;rfl
 · obtain⟨x,dx,p,f,td,l,g,nm2,wd,nm,pl,lo,hi,ts,ms,pr0,rfl,hx,en,hw,sp,nt,sf,hl,lms,tq,kk⟩:=h;have hu:=qD hr;have h_h:Room (5) _:=hr.mono (by decide);have h_0:Room (6) _:=hr.mono (by decide);have h_c:Room (4) _:=hr.mono (by decide)
   refine⟨_,(qf (qA (i:=2) sc_Sifted_spans.nd rfl (Or.inr rfl) (zc (pv 0) rfl))
     (qf (qA (i:=3) sc_Sifted_spans.nd rfl (Or.inl rfl) (qG qc))
     (qf (QZ PassesOwn.leaving rfl (zl (PE.or (Zo (zc (pv 0) rfl) T.cl_Within T.d_h.mt G_h h_h T.d_h.b .nil qr (qa (pv 1) qc)) (PE.or (Zo (zc (pv 0) rfl) T.cl_At T.i_At_spans G_h h_h T.d_h.b .nil qr (qa (pv 1) qc)) (Zo (zc (pv 0) rfl) T.cl_Read T.i_Read_spans G_0 h_0 T.d_0.b .nil throws_cx.passes (qa (pv 1) qc))))) (zu rfl (qq (qm (i:=4) (sc_Sifted_spans.nd) rfl (Or.inl rfl)) (qq (qm (i:=5) (sc_Sifted_spans.nd) rfl (Or.inl rfl)) qR)))
       (qg (qJ (qbP PySem.F.plainAttrs_list PySem.F.slot_list_extend PySem.F.type_list_extend qfd (pv 3) (qa (zP rfl (CompOk.defX ["moment","keeps"] [none,some 2]) (qeR rfl T.n_range (qa (pv 4) (qa (qo zV (pv 5) qd) qc))) (fun _ _ _ _ _=>(qm (i:=0) (show List.Nodup (["moment","keeps"]:List Str) by decide +kernel) rfl (Or.inl rfl))) (fun _ _ _ _ _=>(qa6 (qP (Jf (k:=5) (Ok:=fun f sp=>sp=spN a f) (pv 1) (hr.mono (by decide)) (fun f sp h=>by rw[h];exact qeY T) (qa (pv 0) qc))))) (fun _ _ _ _ _=>(q9 (qa (pv 0) (qa (pv 0) qc))))) qc)))))
     (qg (qv (qj G_c h_c rfl T.d_c.m T.d_c.k T.d_c.b .nil qr (qa (pv 3) qc))))))),?_⟩
   try dsimp only [qZ,Cx.nox]
   refine⟨_,rfl,x,_,dx,_,_,rfl,hx,T.cl_Sifted,T.n_Sifted_keeps,rfl,?_⟩;(try unfold qE);(try dsimp only);refine⟨qp (Nat.le_of_ble_eq_true rfl),fun t ft=>?_⟩;generalize hG:upd H t _=G;obtain⟨S0,e0⟩:=zD hG ft;clear hG;(try unfold qE);(try dsimp only);rcases kk with ⟨hp,kk⟩|⟨z1,z2,kz⟩
   case inr =>
     refine zH (t:=qi4 _ _ _) (fun _ _=>False) (fun N hN=>?_) (fun _ _ h=>h.elim);exact qbo T (fun R h=>⟨_,rfl,x,_,dx,_,_,rfl,(S0 _ _ hx),T.cl_Sifted,T.n_Sifted_part,rfl,h⟩) (en.same S0) (fun R h=>⟨_,rfl,h⟩) sp hw (tq.sm S0) (.inr ⟨z1,z2,kz.same S0⟩)
   obtain⟨W,due⟩:∃ W,Due ts wd pl lo hi W:=by
     rcases hw with rfl|⟨rfl|rfl,_⟩
     · have okp:ze (.str pl)=true:=by cases sp with|read _ h _=>exact h
       obtain⟨t,mt,et⟩:=List.mem_map.mp (hp.resolve_left (qbf okp));exact⟨_,.pl (.inr rfl) mt et⟩
     · exact⟨_,.no (.inr (.inl rfl))⟩
     · exact⟨_,.no (.inr (.inr rfl))⟩
   obtain⟨L,l1k,lb,lm⟩:=qdD tq.tg sp hw due;have nlt:l≠t:=qh hl ft;refine zH (t:=qi4 _ _ _) (fun σ' H'=>∃ (s4 s5:Option V) (us ks:List Int),σ'=[some (.ref x),some (.ref td),some (.ref f),some (.ref t),s4,s5]∧But l H H'∧H' l=some (.lst ((ms++ks).map V.int))∧(∀ k∈ks,ME ts wd pl lo hi k)∧ks.length≤1000∧Rs H' t (us.map dup)∧us.length≤1000∧us.Pairwise (· < ·)∧∀ n,n∈us↔ME ts wd pl lo hi n∧pr0 n=true) (fun N hN=>?_) ?_
   · refine qbo T (fun R h=>⟨_,rfl,x,_,dx,_,_,rfl,(S0 _ _ hx),T.cl_Sifted,T.n_Sifted_part,rfl,h⟩) (en.same S0) (fun R h=>⟨_,rfl,h⟩) sp hw (tq.sm S0) (.inl ⟨hp,fun fq rr H1 ff S1 ⟨zs,hfq,tz⟩ can l21 mem=>?_⟩);have lz:zs.length=rr.length:=tz.1;have lenm:∀ i,(mos (rr.take i)).length≤1000:=fun i=>Nat.le_trans (qaW (qdn (qaR can i)) fun n m=>lm n ((jU tq.nd due n).mpr <| (mem n).mp (mem_mos.mp (qfe n m)))) l1k;have lenu:∀ i,((mos (rr.take i)).filter pr0).length≤1000:=fun i=>Nat.le_trans (List.length_filter_le _ _) (lenm i);have nft:fq≠t:=fun z=>by rw[z,e0]at ff;cases ff
     have nfl:fq≠l:=fun z=>by rw[z,S0 _ _ hl]at ff;cases ff
     have ht1:=S1 _ _ e0;have hl1:=S1 _ _ (S0 _ _ hl);have x1:∀ b φ,H b=some (.ext φ)->H1 b=some (.ext φ):=fun b φ e=>S1 _ _ (S0 _ _ e);have nt1:Nt H1 f l g:=CloS.mp nt x1;have sf1:=sf.mp x1;refine⟨fq,rfl,⟨_,SqL.of hfq⟩,ZB (K:=K) (a:=fq) (xs:=zs) (D:={ nx:=N,rt:=Q }) (fun j σ H'=>∃ (s4 s5:Option V),σ=[some (.ref x),some (.ref td),some (.ref f),some (.ref t),s4,s5]∧(∀ c o,H1 c=some o->c≠t->c≠l->H' c=some o)∧Rs H' t (((mos (rr.take j)).filter pr0).map dup)∧H' l=some (.lst ((ms++mos (rr.take j)).map V.int))) ⟨_,_,rfl,fun _ _ e _ _=>e,⟨[],ht1,.nil⟩,by rw[hl1];simp[mos]⟩ (fun j σ H' _ ⟨_,_,_,b,_⟩=>SqL.of (b _ _ hfq nft nfl)) ?_ ?_⟩
     · rintro j z σ H2 hz ⟨s4,s5,rfl,B2,⟨zt,ht,tt⟩,hl2⟩;obtain⟨w,u,hw',rfl,hu0⟩:=tz.of hz;have hu:=B2 _ _ hu0 (zd hu0 ht1 (by intro z;cases z)) (zd hu0 hl1 (by intro z;cases z));have mw:=List.mem_of_getElem? hw';have w12:=can.1 w mw;have b1:=lb w.1 (lm _ ((jU tq.nd due _).mpr <| (mem _).mp ⟨w,mw,Int.le_refl _,w12⟩));have b2:=lb w.2 (lm _ ((jU tq.nd due _).mpr <| (mem _).mp ⟨w,mw,w12,Int.le_refl _⟩));have lt:=tt.1;rw[List.length_map]at lt;have l0:=lenu j;have l1:=lenu (j+1);rw[Zz hw',List.filter_append,List.length_append]at l1;have lj:=lenm (j+1);rw[Zz hw',List.length_append]at lj;have lmo:(mo w).length=(w.2+1 - w.1).toNat:=by unfold mo;rw[List.length_map,List.length_range]
       have x2:∀ b φ,H1 b=some (.ext φ)->H2 b=some (.ext φ):=fun b φ e=>B2 _ _ e (zd e ht1 (by intro z;cases z)) (zd e hl1 (by intro z;cases z));have nt2:Nt H2 f l g:=CloS.mp nt1 x2;have sf2:=sf1.mp x2;refine⟨u,_,rfl,SqT.of hu,rfl,_,_,rfl,_,_,rfl,rfl,?_⟩;refine⟨_,rfl,.inl ⟨rfl,_,SqL.of ht⟩,_,rfl,_,rfl,.inl ⟨_,_,rfl,rfl,_,_,rfl,⟨by omega,by omega,by omega,by omega⟩,fun D fD=>?_⟩⟩;have nDl:l≠D:=qh hl2 fD;have nDt:t≠D:=qh ht fD;refine qaO (lo:=w.1) (n:=(w.2+1 - w.1).toNat) (D:=D) (fun i σ H3=>∃ (c0:Option V) (ys:List V),σ=[c0,some (.ref f)]∧But l H2 H3∧H3 l=some (.lst ((ms++mos (rr.take j)++((List.range i).map fun k:Nat=>w.1+(k:Int))).map V.int))∧H3 D=some (.lst ys)∧TupL pr H3 ys ((((List.range i).map fun k:Nat=>w.1+(k:Int)).filter pr0).map dup)) ⟨none,[],rfl,fun b o e nb=>by rw[qi (qh e fD)];exact e,by rw[qi nDl,hl2];simp,qb,.nil⟩ ?_ ?_
       · rintro i σ H3 hi ⟨c0,ys,rfl,B3,hl3,hD,ty⟩
         have es:(((List.range (i+1)).map fun k:Nat=>w.1+(k:Int)).filter pr0)=(((List.range i).map fun k:Nat=>w.1+(k:Int)).filter pr0)++(if pr0 (w.1+(i:Int))=true then [w.1+(i:Int)] else []):=by
           rw[List.range_succ,List.map_append,List.filter_append];congr 1;show List.filter pr0 [w.1+(i:Int)]=_;rw[List.filter_cons];split<;>rfl
         have er:ms++mos (rr.take j)++((List.range (i+1)).map fun k:Nat=>w.1+(k:Int))=ms++mos (rr.take j)++((List.range i).map fun k:Nat=>w.1+(k:Int))++[w.1+(i:Int)]:=by
           rw[List.range_succ,List.map_append,List.append_assoc (ms++mos (rr.take j))];rfl
         have x3:∀ b φ,H2 b=some (.ext φ)->H3 b=some (.ext φ):=fun b φ e=>B3 _ _ e (zd e hl2 (by intro z;cases z));have nt3:Nt H3 f l g:=CloS.mp nt2 x3;have sf3:=sf2.mp x3;obtain⟨o,fd,hfo,hfd⟩:=CloS.obj nt3
         have few3:(ms++mos (rr.take j)++((List.range i).map fun k:Nat=>w.1+(k:Int))).length≤9000:=by
           rw[List.length_append,List.length_append,List.length_map,List.length_range];omega
         refine⟨_,rfl,f,spN a f,o,fd,rfl,hfo,hfd,rfl,_,rfl,hfo,w.1+(i:Int),pr0,l,g,_,rfl,nt3,sf3,hl3,few3,_,rfl,?_⟩;rw[← er];have h4l:(upd H3 l (.lst ((ms++mos (rr.take j)++((List.range (i+1)).map fun k:Nat=>w.1+(k:Int))).map V.int))) l=some (.lst ((ms++mos (rr.take j)++((List.range (i+1)).map fun k:Nat=>w.1+(k:Int))).map V.int)):=qb;have B4:But l H2 (upd H3 l (.lst ((ms++mos (rr.take j)++((List.range (i+1)).map fun k:Nat=>w.1+(k:Int))).map V.int))):=fun b o e nb=>by rw[qi nb];exact B3 b o e nb
         have hD4:(upd H3 l (.lst ((ms++mos (rr.take j)++((List.range (i+1)).map fun k:Nat=>w.1+(k:Int))).map V.int))) D=some (.lst ys):=by rw[qi nDl.symm];exact hD
         have ty4:TupL pr (upd H3 l (.lst ((ms++mos (rr.take j)++((List.range (i+1)).map fun k:Nat=>w.1+(k:Int))).map V.int))) ys ((((List.range i).map fun k:Nat=>w.1+(k:Int)).filter pr0).map dup):=ty.put hl3;generalize upd H3 l (.lst ((ms++mos (rr.take j)++((List.range (i+1)).map fun k:Nat=>w.1+(k:Int))).map V.int))=H4 at h4l B4 hD4 ty4 ⊢;refine qcE (fun gg=>?_) (fun gg=>?_)
         · refine⟨_,rfl,_,rfl,qp (Nat.le_of_ble_eq_true rfl),fun v fv=>⟨ys,(Same.new _ fv) _ _ hD4,qB ?_,_,_,rfl,fun b o e nb=>?_,?_,qb,?_⟩⟩
           · have h1:=ty4.1;rw[List.length_map]at h1
             have h2:(((List.range i).map fun k:Nat=>w.1+(k:Int)).filter pr0).length≤((mo w).filter pr0).length:=by
               refine List.Sublist.length_le (List.Sublist.filter _ ?_);unfold mo;exact List.Sublist.map _ (List.range_sublist.mpr (by omega))
             omega
           · rw[qi (qh e fD)];exact(Same.new _ fv) _ _ (B4 b o e nb)
           · rw[qi nDl];exact(Same.new _ fv) _ _ h4l
           · rw[es,if_pos gg,List.map_append];exact((ty4.same (Same.new _ fv)).snoc (p:=dup (w.1+(i:Int))) qb).put ((Same.new _ fv) _ _ hD4)
         · refine⟨_,ys,rfl,B4,h4l,hD4,?_⟩;rw[es,if_neg (by rw[show pr0 (w.1+(i:Int))=false from gg];decide),List.append_nil];exact ty4
       · rintro σ H3 ⟨c0,ys,rfl,B3,hl3,hD,ty⟩;have tyw:TupL pr H3 ys (((mo w).filter pr0).map dup):=ty;have ly:=tyw.1;rw[List.length_map]at ly;have ht3:=B3 _ _ ht nlt.symm
         have tt3:TupL pr H3 zt (((mos (rr.take j)).filter pr0).map dup):=⟨tt.1,fun i z q e1 e2=>by
           obtain⟨y,e,hy⟩:=tt.2 i z q e1 e2
           exact⟨y,e,B3 _ _ hy (zd hy hl2 (by intro z;cases z))⟩⟩
         refine⟨t,D,_,_,rfl,rfl,ht3,hD,Nat.le_of_lt (qB (by omega)),?_⟩;refine⟨_,_,rfl,fun b o e n1 n2=>by rw[qi n1];exact B3 b o (B2 b o e n1 n2) n2,?_,?_⟩
         · rw[Zz hw',List.filter_append,List.map_append];exact⟨_,qb,TupL.put (qgi tt3 tyw) ht3⟩
         · rw[qi nlt,hl3,Zz hw',List.append_assoc];rfl
     · rintro σ H2 ⟨s4,s5,rfl,B2,R2,hl2⟩;rw[lz,List.take_length]at R2 hl2;have l2:=lenu rr.length;have l3:=lenm rr.length;rw[List.take_length]at l2 l3;refine hN _ _ ⟨_,_,_,mos rr,rfl,fun b o e nb=>B2 b o (S1 b o (S0 b o e)) (qh e ft) nb,hl2,fun k hk=>(mem k).mp (mem_mos.mp hk),l3,R2,l2,(qcL can).sublist List.filter_sublist,fun n=>?_⟩;rw[List.mem_filter,mem_mos,mem]
   rintro _ H2 ⟨s4,s5,us,ks,rfl,B2,hl2,mk,lk,R2,l2,as2,m2⟩;refine⟨_,rfl,t,us.map dup,rfl,R2,qer as2 l2,fun d rr H3 fd S3 R3 c3 l3 m3=>?_⟩;have nd:d≠l:=fun z=>by rw[z,hl2]at fd;cases fd
   refine kk d rr ks H3 (B2.none fd nd) (B2.same S3) (S3 _ _ hl2) mk lk R3 c3 (by rw[List.length_map]at l3;omega) fun n=>?_;rw[m3,qff,m2]
end
theorem qb9:bootBuiltins "divmod"=some (.builtin "divmod"):=by decide +kernel
def Rul (wd:Str) (x y:Int):Prop:=(wd="days"∨wd="daily"∨(wd="every"∧0 < x))∧(0≤x∧x≤1000000000)∧(0≤y∧y≤1000000000)
theorem Rul.pos {wd:Str}{x y:Int} (h:Rul wd x y):wd="days"∨wd="daily"∨0 < x:=by
 rcases h.1 with h|h|h
 · exact .inl h
 · exact .inr (.inl h)
 · exact .inr (.inr h.2)
inductive Jt (vs:List V) (H:Hp) (Q:VK):Prop
 | mk (t:Addr) (wd:Str) (x y n:Int) (h1:vs=[.ref t,.int n]) (h2:H t=some (.tup [.str wd,.int x,.int y])) (h3:Rul wd x y) (h4:Q (.bl (prR wd x y n)) H):Jt vs H Q
def Ju:Sp:=fun vs H Q _=>Jt vs H Q
inductive qas (vs:List V) (H:Hp) (Q:VK):Prop
 | mk (p:Addr) (m:Int) (h1:vs=[.ref p,.int m]) (h2:PenAt H p) (h3:(0≤m∧m≤1000000000)) (h4:∀ (t:Addr) (wd:Str) (x y:Int) (H':Hp),H t=none->But p H H'->PenAt H' p->H' t=some (.tup [.str wd,.int x,.int y])->Rul wd x y->Q (.ref t) H'):qas vs H Q
def qcY:Sp:=fun vs H Q _=>qas vs H Q
inductive qav (vs:List V) (H:Hp) (Q:VK):Prop
 | mk (p q:Addr) (nm pl:Str) (rows:List (Int×Int)) (h1:vs=[.ref p,.str nm,.str pl,.ref q]) (h2:PenAt H p) (h3:ze (.str nm)=true) (h4:ze (.str pl)=true) (h5:Rs H q rows) (h6:Good rows) (h7:∀ (s:Addr) (wd pl':Str) (lo hi:Int) (H':Hp),H s=none->But p H H'->PenAt H' p->H' s=some (.tup (qkh wd nm pl' lo hi))->Spc wd nm pl' lo hi->(wd="read"∧pl'=pl∨(wd="within"∨wd="at")∧pl'=""∧hi - lo < 1000)->Q (.ref s) H'):qav vs H Q
def qc0:Sp:=fun vs H Q _=>qav vs H Q
theorem qhK:∀ {rows:List (Int×Int)},Asc rows->(∀ r∈rows,r.1≤1000000000)->∀ p∈pcs rows,p.1≤p.2.1
 | [],_,_,p,m=>nomatch m
 | r::rs,h,k,p,m=>by
   rcases List.mem_cons.mp m with rfl|m
   · cases rs with
     | nil=>exact k r List.mem_cons_self
     | cons r2 rs =>
       have:=(List.pairwise_cons.mp h).1 r2 List.mem_cons_self
       show r.1≤r2.1 - 1;omega
   · exact qhK (List.pairwise_cons.mp h).2 (fun r m=>k r (List.mem_cons_of_mem _ m)) p m
section
variable {P:Program}{w:World}{K:Frag}{mg:Str->Option Value}{base:Heap}
theorem qbU {a:Ad} (T:Txt K mg a):qx P w K mg base CX0 1 a.f_m a.fd_m ["_law_rule_here","_law_moment"] Ju:=by
 refine T.d_m.F.ok sc_Lkeeps (fun vs H Q E h=>?_) (fun cdv A outer s H vs Q E hr h=>?_)
 · obtain⟨t,wd,x,y,n,rfl,ht,rul,kk⟩:=h;rfl
 · obtain⟨t,wd,x,y,n,rfl,ht,rul,kk⟩:=h;have hU:=hr.units
   refine⟨_,(qf (Zn (pv 0) (zu rfl (qq (qm (i:=2) (sc_Lkeeps.nd) rfl (Or.inl rfl)) (qq (qm (i:=3) (sc_Lkeeps.nd) rfl (Or.inl rfl)) (qq (qm (i:=4) (sc_Lkeeps.nd) rfl (Or.inl rfl)) qR)))))
     (qf (qK (qy (uEq hU) (pv 2) qH (qz _))
       (qg (qv (Zx Qt Qt (pv 3) (qo qa9 (pv 1) qd) (pv 4))))
       qw)
     (qf (qK (qy (uEq hU) (pv 2) qH (qz _))
       (qg (qv (zv (uEq hU) (qo za (pv 1) (pv 3)) (qo za (pv 4) (pv 3)) (qz _))))
       qw)
     (qf (qA (i:=5) sc_Lkeeps.nd rfl (Or.inl rfl) (qo za (pv 1) qd))
     (qf (qK (qy Qt (pv 3) (pv 4) (qz _))
       (qg (qv (Zx Qt Qt (pv 3) (pv 5) (pv 4))))
       qw)
     (qg (qv (qjG (zv qjJ (pv 5) (pv 3) (qz _)) (qaG (zv Qt (pv 5) (pv 4) (qz _))))))))))),?_⟩
   try dsimp only [qZ,Cx.nox]
   refine⟨_,rfl,t,_,rfl,SqT.of ht,rfl,_,_,rfl,_,_,rfl,_,_,rfl,rfl,?_⟩;refine⟨_,rfl,.inl ⟨rfl,_,rfl,qcE (fun g=>?_) (fun g=>?_)⟩⟩
   · rw[Qa]at g;have g:=of_decide_eq_true g;have e:prR wd x y=prD x y:=if_pos g;rw[e]at kk;refine⟨_,rfl,_,rfl,_,_,rfl,rfl,⟨by decide,by decide⟩,_,_,rfl,rfl,_,rfl,qcE (fun g=>?_) (fun g=>?_)⟩
     · have e:prD x y n=decide (n / 1440≤y):=by unfold prD;rw[g,Bool.true_and]
       rw[e]at kk;exact⟨_,rfl,_,_,rfl,rfl,kk⟩
     · have e:prD x y n=false:=by unfold prD;rw[g,Bool.false_and]
       rw[e]at kk;exact kk
   rw[Qa]at g;have g:=of_decide_eq_false g;refine⟨_,rfl,.inl ⟨rfl,_,rfl,qcE (fun g2=>?_) (fun g2=>?_)⟩⟩
   · rw[Qa]at g2;have g2:=of_decide_eq_true g2;have e:prR wd x y=prE x y:=by unfold prR;rw[if_neg g,if_neg (by rw[g2];decide)]
     have x0:0 < x:=(rul.pos.resolve_left g).resolve_left (by rw[g2];decide);rw[e]at kk;refine⟨_,rfl,_,rfl,_,_,rfl,rfl,x0,_,rfl,_,rfl,_,_,rfl,rfl,x0,.inl ⟨rfl,?_⟩⟩;rw[qfx];exact kk
   rw[Qa]at g2;have g2:=of_decide_eq_false g2
   have hd:wd="daily":=by
     rcases rul.1 with h|h|h
     · exact absurd h g
     · exact h
     · exact absurd h.1 g2
   have e:prR wd x y=prY x y:=by unfold prR;rw[if_neg g,if_pos hd]
   rw[e]at kk;refine⟨_,rfl,_,_,rfl,rfl,(by decide),?_⟩;(try unfold qE);(try dsimp only);refine⟨_,rfl,_,rfl,_,_,rfl,rfl,_,rfl,ZW (fun g3=>?_) (fun g3=>?_)⟩
   · have e:prY x y=prM x y:=if_pos g3;rw[e]at kk;refine⟨_,rfl,_,rfl,_,_,rfl,rfl,_,rfl,qcE (fun g=>?_) (fun g=>?_)⟩
     · have e:prM x y n=decide (n % 1440≤y):=by unfold prM;rw[g,Bool.true_and]
       rw[e]at kk;exact⟨_,rfl,_,_,rfl,rfl,kk⟩
     · have e:prM x y n=false:=by unfold prM;rw[g,Bool.false_and]
       rw[e]at kk;exact kk
   · have e:prY x y=prO x y:=if_neg g3;rw[e]at kk;refine⟨_,rfl,_,rfl,_,_,rfl,rfl,_,rfl,qcE (fun g=>?_) (fun g=>?_)⟩
     · have e:prO x y n=true:=by unfold prO;rw[show decide (x≤n % 1440)=true from g,Bool.true_or]
       rw[e]at kk;exact kk
     · have e:prO x y n=decide (n % 1440≤y):=by unfold prO;rw[show decide (x≤n % 1440)=false from g,Bool.false_or]
       rw[e]at kk;exact⟨_,rfl,_,rfl,_,_,rfl,rfl,kk⟩
theorem qgA {a:Ad} (T:Txt K mg a):qx P w K mg base CX0 3 a.f_w a.fd_w ["_law_state","_law_near"] qcY:=by
 have G_a:=Zy (P:=P) (w:=w) (base:=base) T;refine T.d_w.F.ok sc_Lrule (fun vs H Q E h=>?_) (fun cdv A outer s H vs Q E hr h=>?_)
 · obtain⟨p,m,rfl,hp,hmb,kk⟩:=h;rfl
 · obtain⟨p,m,rfl,hp,hmb,kk⟩:=h;have hU:=hr.units;have h_a:Room (2) _:=hr.mono (by decide)
   refine⟨_,(qf (qA (i:=2) sc_Lrule.nd rfl (Or.inl rfl) (qj G_a h_a rfl T.d_a.m T.d_a.k T.d_a.b .nil qr (qa (pv 0) (qa qd qc))))
     (qf (Zn (ql qcJ (by rfl) T.n_divmod qb9 (qa (pv 1) (qa qd qc))) (zu rfl (qq (qm (i:=3) (sc_Lrule.nd) rfl (Or.inl rfl)) (qq (qm (i:=4) (sc_Lrule.nd) rfl (Or.inl rfl)) qR))))
     (qf (qK (qy (uEq hU) (pv 2) qd (qz _))
       (qg (qv (q9 (qa qH (qa (ql (zg rfl) (by rfl) T.n_max zh (qa qd (qa (qo zV (qo zI (pv 3) qd) (qj G_a h_a rfl T.d_a.m T.d_a.k T.d_a.b .nil qr (qa (pv 0) (qa qd qc)))) qc))) (qa (qo zV (pv 3) (qj G_a h_a rfl T.d_a.m T.d_a.k T.d_a.b .nil qr (qa (pv 0) (qa qd qc)))) qc))))))
       qw)
     (qf (qK (qy qjI (pv 2) qd (qz _))
       (qg (qv (q9 (qa qH (qa (qj G_a h_a rfl T.d_a.m T.d_a.k T.d_a.b .nil qr (qa (pv 0) (qa qd qc))) (qa (qC (r:=rIx K) qt (qG (qa (pv 4) (qa qd (qa qd (qa (qj G_a h_a rfl T.d_a.m T.d_a.k T.d_a.b .nil qr (qa (pv 0) (qa qd qc))) qc))))) (qj G_a h_a rfl T.d_a.m T.d_a.k T.d_a.b .nil qr (qa (pv 0) (qa qd qc))) (fun _ _=>rfl)) qc))))))
       qw)
     (qg (qv (q9 (qa qH (qa (qo zV qd (qj G_a h_a rfl T.d_a.m T.d_a.k T.d_a.b .nil qr (qa (pv 0) (qa qd qc)))) (qa (qj G_a h_a rfl T.d_a.m T.d_a.k T.d_a.b .nil qr (qa (pv 0) (qa qd qc))) qc)))))))))),?_⟩
   try dsimp only [qZ,Cx.nox]
   have p0:PenAt H p:=hp;have t0:But p H H:=But.refl p H;refine⟨_,rfl,p,_,rfl,p0,by decide,by decide,fun wy G1 wy0 wy1 u1 p1=>?_⟩;have t1:=t0.trans u1;(try unfold qE);(try dsimp only);refine⟨_,rfl,_,_,rfl,⟨by decide,by decide⟩,fun v fv=>?_⟩;have nv:v≠p:=p1.ne fv;have ev:=qb (H:=G1) (a:=v) (o:=.tup [.int (m / 1440),.int (m % 1440)]);have S2:Same G1 (upd G1 v (.tup [.int (m / 1440),.int (m % 1440)])):=Same.new _ fv;generalize upd G1 v (.tup [.int (m / 1440),.int (m % 1440)])=G2 at ev S2 ⊢;have u2:=S2;have p2:=PenAt.sm p1 u2;have t2:=t1.same u2;refine⟨v,_,rfl,SqT.of ev,rfl,_,_,rfl,_,_,rfl,rfl,?_⟩;(try unfold qE);(try dsimp only);have hd:0≤m / 1440∧m / 1440≤1000000:=by omega
   have hm:0≤m % 1440∧m % 1440 < 1440:=by omega
   generalize m / 1440=dd at hd ⊢;generalize m % 1440=mm at hm ⊢;refine⟨_,rfl,.inl ⟨rfl,_,rfl,ZW (fun g=>?_) (fun g=>?_)⟩⟩
   all_goals have t2_:=t2
   · have p0:PenAt G2 p:=p2;have t0:But p G2 G2:=But.refl p G2;refine⟨_,rfl,_,_,rfl,rfl,_,rfl,p,_,rfl,p0,by decide,by decide,fun da G1 da0 da1 u1 p1=>?_⟩;have t1:=t0.trans u1;refine .inl ⟨_,_,rfl,rfl,_,_,rfl,?_⟩;refine⟨_,rfl,_,rfl,p,_,rfl,p1,by decide,by decide,fun db G2 db0 db1 u2 p2=>?_⟩;have t2:=t1.trans u2;refine .inl ⟨_,_,rfl,rfl,qp (Nat.le_of_ble_eq_true rfl),fun s fs=>?_⟩;have ns:s≠p:=p2.ne fs;refine kk s "days" _ _ _ ((t2_.trans t2).none fs ns) ((t2_.trans t2).same (Same.new _ fs)) (p2.upd ns _) qb ⟨.inl rfl,⟨?_,?_⟩,⟨?_,?_⟩⟩
     all_goals first|(split<;>omega)|omega
   refine⟨_,rfl,_,_,rfl,rfl,_,rfl,ZW (fun g=>?_) (fun g=>?_)⟩
   · have p0:PenAt G2 p:=p2;have t0:But p G2 G2:=But.refl p G2;refine⟨_,rfl,p,_,rfl,p0,by decide,by decide,fun da G1 da0 da1 u1 p1=>?_⟩;have t1:=t0.trans u1;refine⟨_,rfl,_,rfl,p,_,rfl,p1,by decide,by decide,fun db G2 db0 db1 u2 p2=>?_⟩;have t2:=t1.trans u2;refine⟨(qp (Nat.le_of_ble_eq_true rfl)),fun l4 f_l4=>?_⟩;have n_l4:l4≠p:=p2.ne f_l4;have e_l4:(upd G2 l4 (.lst [.int mm,.int 0,.int 1439,.int db])) l4=some (.lst [.int mm,.int 0,.int 1439,.int db]):=qb;have p3:PenAt (upd G2 l4 (.lst [.int mm,.int 0,.int 1439,.int db])) p:=p2.upd n_l4 _;have u3:Same G2 (upd G2 l4 (.lst [.int mm,.int 0,.int 1439,.int db])):=Same.new _ f_l4;have t3:=t2.same u3;(try dsimp only);generalize upd G2 l4 (.lst [.int mm,.int 0,.int 1439,.int db])=G3 at e_l4 p3 u3 t3 ⊢;refine⟨_,rfl,p,_,rfl,p3,by decide,by decide,fun i4 G4 i40 i41 u4 p4=>?_⟩;have t4:=t3.trans u4;obtain⟨v,hv,mv⟩:=qaT (xs:=([.int mm,.int 0,.int 1439,.int db]:List V)) i40 i41
     obtain⟨z,rfl,z0,z1⟩:∃ z:Int,v=.int z∧0≤z∧z≤1439:=by
       simp only[List.mem_cons,List.not_mem_nil,or_false]at mv;rcases mv with rfl|rfl|rfl|rfl<;>exact⟨_,rfl,by omega,by omega⟩
     refine .inl ⟨l4,_,_,_,rfl,rfl,SqL.of (u4 _ _ e_l4 n_l4),hv,qp (Nat.le_of_ble_eq_true rfl),fun s fs=>?_⟩;have ns:s≠p:=p4.ne fs;exact kk s "daily" _ _ _ ((t2_.trans t4).none fs ns) ((t2_.trans t4).same (Same.new _ fs)) (p4.upd ns _) qb ⟨.inr (.inl rfl),⟨by omega,by omega⟩,⟨by omega,by omega⟩⟩
   · have p0:PenAt G2 p:=p2;have t0:But p G2 G2:=But.refl p G2;refine⟨_,rfl,p,_,rfl,p0,by decide,by decide,fun da G1 da0 da1 u1 p1=>?_⟩;have t1:=t0.trans u1;refine .inl ⟨_,_,rfl,rfl,?_⟩;refine⟨_,rfl,p,_,rfl,p1,by decide,by decide,fun db G2 db0 db1 u2 p2=>?_⟩;have t2:=t1.trans u2;refine⟨qp (Nat.le_of_ble_eq_true rfl),fun s fs=>?_⟩;have ns:s≠p:=p2.ne fs;exact kk s "every" _ _ _ ((t2_.trans t2).none fs ns) ((t2_.trans t2).same (Same.new _ fs)) (p2.upd ns _) qb ⟨.inr (.inr ⟨rfl,by omega⟩),⟨by omega,by omega⟩,⟨by omega,by omega⟩⟩
theorem qgC {a:Ad} (T:Txt K mg a):qx P w K mg base CX0 3 a.f_R a.fd_R ["_law_state","_law_name","_law_place","_law_rows_here"] qc0:=by
 have G_a:=Zy (P:=P) (w:=w) (base:=base) T;have G_l:=qaJ (P:=P) (w:=w) (base:=base) T;refine T.d_R.F.ok sc_Lpart (fun vs H Q E h=>?_) (fun cdv A outer s H vs Q E hr h=>?_)
 · obtain⟨p,q,nm,pl,rows,rfl,hp,hnm,hpl,hrs,good,kk⟩:=h;rfl
 · obtain⟨p,q,nm,pl,rows,rfl,hp,hnm,hpl,hrs,good,kk⟩:=h;have hU:=hr.units;have h_a:Room (2) _:=hr.mono (by decide);have h_l:Room (1) _:=hr.mono (by decide)
   refine⟨_,(qf (qA (i:=4) sc_Lpart.nd rfl (Or.inl rfl) (qC (r:=rIx K) qt (qG (qa qH (qa qH (qa qH (qa qH (qa qH qc)))))) (qj G_a h_a rfl T.d_a.m T.d_a.k T.d_a.b .nil qr (qa (pv 0) (qa qd qc))) (fun _ _=>rfl)))
     (qf (qA (i:=5) sc_Lpart.nd rfl (Or.inl rfl) (ql (zL rfl) (by rfl) T.n_min zM (qa (qo Zp qd qd) (qa (qo zV (qo zV (qC (r:=rIx K) qt (qC (r:=rIx K) qt (pv 3) (qj G_a h_a rfl T.d_a.m T.d_a.k T.d_a.b .nil qr (qa (pv 0) (qa (ql zx (by rfl) T.n_len qT (qa (pv 3) qc)) qc))) (fun _ _=>rfl)) qd (fun _ _=>rfl)) (qo zJ qd (qj G_a h_a rfl T.d_a.m T.d_a.k T.d_a.b .nil qr (qa (pv 0) (qa qd qc))))) (qj G_a h_a rfl T.d_a.m T.d_a.k T.d_a.b .nil qr (qa (pv 0) (qa qd qc)))) qc))))
     (qf (qK (qy (uEq hU) (pv 4) qH (qz _))
       (qf (Zn (qC (r:=rIx K) qt (qj G_l h_l rfl T.d_l.m T.d_l.k T.d_l.b .nil qr (qa (pv 3) qc)) (qj G_a h_a rfl T.d_a.m T.d_a.k T.d_a.b .nil qr (qa (pv 0) (qa (ql zx (by rfl) T.n_len qT (qa (pv 3) qc)) qc))) (fun _ _=>rfl)) (zu rfl (qq (qm (i:=6) (sc_Lpart.nd) rfl (Or.inl rfl)) (qq (qm (i:=7) (sc_Lpart.nd) rfl (Or.inl rfl)) (qq (qm (i:=8) (sc_Lpart.nd) rfl (Or.inl rfl)) qR)))))
       (qf (qA (i:=9) sc_Lpart.nd rfl (Or.inl rfl) (qo zV (qo zV (pv 6) (pv 8)) (qj G_a h_a rfl T.d_a.m T.d_a.k T.d_a.b .nil qr (qa (pv 0) (qa (ql (zL rfl) (by rfl) T.n_min zM (qa qd (qa (qo zV (qo zI (pv 7) (pv 6)) qd) qc))) qc)))))
       (qg (qv (q9 (qa (pv 4) (qa (pv 1) (qa (pv 2) (qa (pv 9) (qa (pv 9) qc))))))))))
       qw)
     (qf (qA (i:=10) sc_Lpart.nd rfl (Or.inl rfl) (qC (r:=rIx K) qt (qG (qa qd (qa qd (qa qd (qa qd (qa (qj G_a h_a rfl T.d_a.m T.d_a.k T.d_a.b .nil qr (qa (pv 0) (qa qd qc))) (qa (jd Qi qd) qc))))))) (qj G_a h_a rfl T.d_a.m T.d_a.k T.d_a.b .nil qr (qa (pv 0) (qa qd qc))) (fun _ _=>rfl)))
     (qf (qA (i:=11) sc_Lpart.nd rfl (Or.inl rfl) (ql (zL rfl) (by rfl) T.n_min zM (qa (qo Zp qd qd) (qa (ql (zg rfl) (by rfl) T.n_max zh (qa qd (qa (qo zV (pv 5) (pv 10)) qc))) qc))))
     (qg (qv (q9 (qa (pv 4) (qa (pv 1) (qa qH (qa (pv 5) (qa (qC (r:=rIx K) qt (qG (qa (pv 11) (qa (pv 5) qc))) (je qb8 (by rfl) T.n_int qaa (qa (zv (uEq hU) (pv 4) qH (qz _)) qc)) (fun _ _=>rfl)) qc))))))))))))),?_⟩
   try dsimp only [qZ,Cx.nox]
   have p0:PenAt H p:=hp;have t0:But p H H:=But.refl p H;have lr:=good.few;have l0:=jm good;have nq:q≠p:=hrs.neP hp;obtain⟨zs0,hq0,tz0⟩:=id hrs;have e9:(10:Int) ^ (9:Int).toNat=1000000000:=by decide
   refine⟨(qp (Nat.le_of_ble_eq_true rfl)),fun lw f_lw=>?_⟩;have n_lw:lw≠p:=p0.ne f_lw;have e_lw:(upd H lw (.lst [.str "within",.str "read",.str "within",.str "read",.str "at"])) lw=some (.lst [.str "within",.str "read",.str "within",.str "read",.str "at"]):=qb;have p1:PenAt (upd H lw (.lst [.str "within",.str "read",.str "within",.str "read",.str "at"])) p:=p0.upd n_lw _;have u1:Same H (upd H lw (.lst [.str "within",.str "read",.str "within",.str "read",.str "at"])):=Same.new _ f_lw;have t1:=t0.same u1;(try dsimp only);generalize upd H lw (.lst [.str "within",.str "read",.str "within",.str "read",.str "at"])=G1 at e_lw p1 u1 t1 ⊢;refine⟨_,rfl,p,_,rfl,p1,by decide,by decide,fun iw G2 iw0 iw1 u2 p2=>?_⟩;have t2:=t1.trans u2;obtain⟨v,hv,mv⟩:=qaT (xs:=([.str "within",.str "read",.str "within",.str "read",.str "at"]:List V)) iw0 iw1
   obtain⟨wd,rfl,hw⟩:∃ wd:Str,v=.str wd∧(wd="read"∨wd="within"∨wd="at"):=by
     simp only[List.mem_cons,List.not_mem_nil,or_false]at mv;rcases mv with rfl|rfl|rfl|rfl|rfl
     · exact⟨_,rfl,.inr (.inl rfl)⟩
     · exact⟨_,rfl,.inl rfl⟩
     · exact⟨_,rfl,.inr (.inl rfl)⟩
     · exact⟨_,rfl,.inl rfl⟩
     · exact⟨_,rfl,.inr (.inr rfl)⟩
   refine .inl ⟨lw,_,_,_,rfl,rfl,SqL.of (u2 _ _ e_lw n_lw),hv,?_⟩;(try unfold qE);(try dsimp only);refine⟨_,_,rfl,rfl,⟨by decide,by decide,by decide⟩,_,rfl,_,rfl,_,rfl,_,_,rfl,.inl ⟨_,SqL.of (t2 _ _ hq0 nq),rfl⟩,p,_,rfl,p2,by rw[tz0.1];omega,by rw[tz0.1];omega,fun i G3 i0 i1 u3 p3=>?_⟩;have t3:=t2.trans u3;obtain⟨j,rfl⟩:=Int.eq_ofNat_of_zero_le i0;have jl:j < rows.length:=by rw[← tz0.1];omega
   obtain⟨t,hz,ht⟩:=tz0.at_ (List.getElem?_eq_getElem jl);have bd:=good.ok _ (List.getElem_mem jl);generalize rows[j]=rw_ at ht bd
   have nt:t≠p:=by
     obtain⟨c,x,y,_,e⟩:=hp;exact zd ht e (by intro z;cases z)
   refine .inl ⟨q,_,_,_,rfl,rfl,SqL.of (t3 _ _ hq0 nq),Zu hz,.inr (.inl ⟨t,_,_,_,rfl,rfl,SqT.of (t3 _ _ ht nt),rfl,?_⟩)⟩;refine⟨_,rfl,p,_,rfl,p3,by decide,by decide,fun d3 G4 d30 d31 u4 p4=>?_⟩;have t4:=t3.trans u4;refine⟨_,_,rfl,rfl,.inl ⟨by decide,by decide⟩,.inl ⟨_,_,rfl,rfl,?_⟩⟩;refine⟨_,rfl,p,_,rfl,p4,by decide,by decide,fun dm G5 dm0 dm1 u5 p5=>?_⟩;have t5:=t4.trans u5;refine .inl ⟨_,_,rfl,rfl,_,_,rfl,?_⟩;(try unfold qE);(try dsimp only);generalize hlo:(if rw_.1+1440 * d3+dm < 10 ^ (9:Int).toNat then rw_.1+1440 * d3+dm else 10 ^ (9:Int).toNat)=n
   have nb:0≤n∧n≤1000000000:=by
     rw[e9]at hlo;subst hlo;split<;>omega
   clear hlo;have R0:=hrs.bp hp t5;have p0':=p5;clear u1 u2 u3 u4 u5 p0 p1 p2 p3 p4 t0 t1 t2 t3 t4 e_lw hv mv;rcases hw with rfl|hw
   all_goals have t5_:=t5
   · have p0:PenAt G5 p:=p5;have t0:But p G5 G5:=But.refl p G5;have T0:But p H G5:=t5_;refine⟨_,rfl,.inl ⟨rfl,_,rfl,ZW (fun _=>?_) (fun g=>absurd rfl g)⟩⟩;obtain⟨zs1,hq1,tz1⟩:=id R0;refine⟨_,rfl,q,rows,rfl,R0,good,fun d zs G1 fd S1 hd tz=>?_⟩;have u1:=S1;have p1:=PenAt.sm p0 u1;have t1:=t0.same u1;have nd:d≠p:=p0.ne fd;refine⟨_,rfl,_,rfl,_,_,rfl,.inl ⟨_,SqL.of (S1 _ _ hq1),rfl⟩,p,_,rfl,p1,by rw[tz1.1];omega,by rw[tz1.1];omega,fun i G2 i0 i1 u2 p2=>?_⟩;have t2:=t1.trans u2;obtain⟨j,rfl⟩:=Int.eq_ofNat_of_zero_le i0;have jl:j < (pcs rows).length:=by rw[QP,← tz1.1];omega
     obtain⟨t,hz,ht⟩:=tz.at_ (List.getElem?_eq_getElem jl);have bd:=qeU good.ok _ (List.getElem_mem jl);have ble:=qhK good.asc (fun r m=>(good.ok r m).2.1) _ (List.getElem_mem jl);generalize (pcs rows)[j]=pc at ht bd ble
     have nt:t≠p:=by
       obtain⟨c,x,y,_,e⟩:=p1;exact zd ht e (by intro z;cases z)
     refine .inl ⟨d,_,_,_,rfl,rfl,SqL.of (u2 _ _ hd nd),Zu hz,?_⟩;refine⟨t,_,rfl,SqT.of (u2 _ _ ht nt),rfl,_,_,rfl,_,_,rfl,_,_,rfl,rfl,?_⟩;obtain⟨a1,b1,s1⟩:=pc;obtain⟨ha,hb,hs⟩:=bd;(try dsimp only at ha hb hs ble);(try unfold qE);(try dsimp only);generalize hmany:(if b1 - a1+1 < 5000 then b1 - a1+1 else 5000)=many;have mb:0 < many∧many≤5000:=by subst hmany;split<;>omega
     refine⟨_,rfl,_,rfl,.inl ⟨_,_,rfl,rfl,_,rfl,_,rfl,_,rfl,_,_,rfl,rfl,.inl ⟨_,_,rfl,rfl,_,_,rfl,?_⟩⟩⟩;rw[hmany];refine⟨p,_,rfl,p2,mb.1,by omega,fun dr G3 dr0 dr1 u3 p3=>?_⟩;have t3:=t2.trans u3;refine .inl ⟨_,_,rfl,rfl,?_⟩;(try unfold qE);(try dsimp only);refine⟨_,rfl,_,rfl,_,rfl,_,rfl,_,rfl,qp (Nat.le_of_ble_eq_true rfl),fun s fs=>?_⟩;have ns:s≠p:=p3.ne fs;exact kk s "read" pl _ _ _ ((T0.trans t3).none fs ns) ((T0.trans t3).same (Same.new _ fs)) (p3.upd ns _) qb (.read hnm hpl ⟨by omega,by omega⟩) (.inl ⟨rfl,rfl⟩)
   · have p0:PenAt G5 p:=p5;have t0:But p G5 G5:=But.refl p G5;have T0:But p H G5:=t5_;have nr:¬ V.str wd=V.str "read":=by rcases hw with rfl|rfl<;>decide
     refine⟨_,rfl,.inl ⟨rfl,_,rfl,ZW (fun g=>absurd g nr) (fun _=>?_)⟩⟩;refine⟨_,rfl,p,_,rfl,p0,by decide,by decide,fun dz G1 dz0 dz1 u1 p1=>?_⟩;have t1:=t0.trans u1;refine⟨_,rfl,(qp (Nat.le_of_ble_eq_true rfl)),fun l6 f_l6=>?_⟩;have n_l6:l6≠p:=p1.ne f_l6;have e_l6:(upd G1 l6 (.lst [.int 0,.int 1,.int 59,.int 999,.int dz,.int (-1)])) l6=some (.lst [.int 0,.int 1,.int 59,.int 999,.int dz,.int (-1)]):=qb;have p2:PenAt (upd G1 l6 (.lst [.int 0,.int 1,.int 59,.int 999,.int dz,.int (-1)])) p:=p1.upd n_l6 _;have u2:Same G1 (upd G1 l6 (.lst [.int 0,.int 1,.int 59,.int 999,.int dz,.int (-1)])):=Same.new _ f_l6;have t2:=t1.same u2;(try dsimp only);generalize upd G1 l6 (.lst [.int 0,.int 1,.int 59,.int 999,.int dz,.int (-1)])=G2 at e_l6 p2 u2 t2 ⊢;refine⟨_,rfl,p,_,rfl,p2,by decide,by decide,fun i6 G3 i60 i61 u3 p3=>?_⟩;have t3:=t2.trans u3;obtain⟨v,hv,mv⟩:=qaT (xs:=([.int 0,.int 1,.int 59,.int 999,.int dz,.int (-1)]:List V)) i60 i61
     obtain⟨z,rfl,z0,z1⟩:∃ z:Int,v=.int z∧-1≤z∧z≤999:=by
       simp only[List.mem_cons,List.not_mem_nil,or_false]at mv;rcases mv with rfl|rfl|rfl|rfl|rfl|rfl<;>exact⟨_,rfl,by omega,by omega⟩
     refine .inl ⟨l6,_,_,_,rfl,rfl,SqL.of (u3 _ _ e_l6 n_l6),hv,?_⟩;(try unfold qE);(try dsimp only);refine⟨_,_,rfl,rfl,⟨by decide,by decide,by decide⟩,_,rfl,_,rfl,.inl ⟨_,_,rfl,rfl,_,_,rfl,_,_,rfl,?_⟩⟩;(try unfold qE);(try dsimp only);generalize ehh:(if (if n+z > 0 then n+z else 0) < 10 ^ (9:Int).toNat then (if n+z > 0 then n+z else 0) else 10 ^ (9:Int).toNat)=hh
     have hhb:0≤hh∧hh≤1000000000∧hh - n < 1000:=by
       rw[e9]at ehh;subst ehh;split<;>split<;>omega
     clear ehh;refine⟨_,rfl,_,rfl,_,rfl,_,rfl,_,rfl,(qp (Nat.le_of_ble_eq_true rfl)),fun l7 f_l7=>?_⟩;have n_l7:l7≠p:=p3.ne f_l7;have e_l7:(upd G3 l7 (.lst [.int hh,.int n])) l7=some (.lst [.int hh,.int n]):=qb;have p4:PenAt (upd G3 l7 (.lst [.int hh,.int n])) p:=p3.upd n_l7 _;have u4:Same G3 (upd G3 l7 (.lst [.int hh,.int n])):=Same.new _ f_l7;have t4:=t3.same u4;(try dsimp only);generalize upd G3 l7 (.lst [.int hh,.int n])=G4 at e_l7 p4 u4 t4 ⊢;refine⟨_,rfl,.inl ⟨rfl,.inr ⟨_,rfl,?_⟩⟩⟩;have h7:=e_l7;rcases hw with rfl|rfl
     · refine .inl ⟨l7,_,_,_,rfl,rfl,SqL.of h7,rfl,qp (Nat.le_of_ble_eq_true rfl),fun s fs=>?_⟩;have ns:s≠p:=p4.ne fs;exact kk s _ "" _ _ _ ((T0.trans t4).none fs ns) ((T0.trans t4).same (Same.new _ fs)) (p4.upd ns _) qb (.within hnm nb ⟨hhb.1,hhb.2.1⟩) (.inr ⟨.inl rfl,rfl,hhb.2.2⟩)
     · refine .inl ⟨l7,_,_,_,rfl,rfl,SqL.of h7,rfl,qp (Nat.le_of_ble_eq_true rfl),fun s fs=>?_⟩;have ns:s≠p:=p4.ne fs;exact kk s _ "" _ _ _ ((T0.trans t4).none fs ns) ((T0.trans t4).same (Same.new _ fs)) (p4.upd ns _) qb (.at_ hnm nb) (.inr ⟨.inr rfl,rfl,by omega⟩)
end
theorem qg4 {K:Frag}{t:Value}{C D:Addr} (h1:kitOne K t (.ref C)=some false) (h2:kitOne K t (.ref D)=some false):kitAny K t [.ref C,.ref D]=some false:=by
 show (match kitOne K t (.ref C) with|some true=>some true|some false=>kitAny K t [.ref D]|none=>none)=_;rw[h1];show (match kitOne K t (.ref D) with|some true=>some true|some false=>kitAny K t []|none=>none)=_;rw[h2];rfl
def qjB (K:Frag):List V->Hp->VK->Prop:=fun xs H Q=>∃ (x tp E C D dx:Addr) (fs:List (Str×V)),xs=[.ref x,.ref tp]∧H x=some (.ins E dx fs)∧InsF K E∧H tp=some (.tup [.ref C,.ref D])∧kitOne K (.ref E) (.ref C)=some false∧kitOne K (.ref E) (.ref D)=some false∧Q (.bl false) H
theorem qfQ {X:Cx}:CallR X (.builtin "isinstance") (qjB X.K):=by
 intro pins s σ H xs us Q I r h;obtain⟨x,tp,E,C,D,dx,fs,rfl,hx,fi,htp,h1,h2,q⟩:=h;obtain⟨u,w',rfl,ru,rw'⟩:=qcj r;cases (show u=Value.ref x from ru);cases (show w'=Value.ref tp from rw');obtain⟨its,tv,⟨ob,hg,hc,n,hd⟩,_⟩:=I.tuple (SqT.of htp);have hv:its=[Value.ref C,Value.ref D]:=qbK (cs:=[C,D]) tv;subst hv;obtain⟨oc,od0,odt,osl⟩:=ob;dsimp only at hc hd;subst hc;subst hd;obtain⟨mA,O,_⟩:=JX I.hok hx;obtain⟨od,J,_⟩:=O.look;exact PySem.W.kia_tup (PySem.W.kitx_own (fi.cl.get _) fi.cl.hd fi.ha fi.hn fi.htk fi.hm) I.kIn J hg (qg4 h1 h2) (fun z=>nomatch z) fun tk=>⟨.bl _,H,I.tok tk,rfl,q⟩
theorem qiY (x y:Bool):(!decide (V.bl x=V.bl y))=(x != y):=by cases x<;>cases y<;>decide
inductive qaq (vs:List V) (H:Hp) (Q:VK):Prop
 | mk (f t:Addr) (wd:Str) (x y m:Int) (c:Bool) (pr0:Int->Bool) (h1:vs=[.ref f,.ref t,.bl c,.int m]) (h2:Sf1 H f pr0) (h3:H t=some (.tup [.str wd,.int x,.int y])) (h4:Rul wd x y) (h5:(∀ n,pr0 n=(prR wd x y n != c))) (h6:∀ H',Same H H'->Q (.bl true) H'):qaq vs H Q
def qcW (a:Ad):Sp:=fun vs H Q _=>qaq vs H Q
inductive Js (a:Ad) (vs:List V) (H:Hp) (Q:VK):Prop
 | mk (x dx p f l g:Addr) (nm2 wd nm pl ot:Str) (lo hi:Int) (ms:List Int) (pr0:Int->Bool) (h1:vs=[.ref x,.str pl,.str ot]) (h2:H x=some (.ins a.c_Sifted dx (fsS nm2 p f))) (h3:En a H p wd nm pl lo hi) (h4:(wd="read"∨((wd="within"∨wd="at")∧hi - lo < 1000))) (h5:Spc wd nm pl lo hi) (h6:Nt H f l g) (h7:Sf1 H g pr0) (h8:H l=some (.lst (ms.map V.int))) (h9:ms.length≤5000) (h10:pl≠ot) (h11:∀ H',But l H H'->Q (.bl true) H'):Js a vs H Q
def qbw (a:Ad):Sp:=fun vs H Q _=>Js a vs H Q
theorem Tb.putD {a:Ad}{H:Hp}{x d:Addr}{rows:List (Int×Int)}{kvs:List (Key×V)} (h:Tb a H x rows) (e:H d=some (.dK kvs)) (o:HO):Tb a (upd H d o) x rows:=by
 obtain⟨k,dx,zs,h1,h2,h3⟩:=h;refine⟨k,dx,zs,by rw[qi (zd h1 e (by intro z;cases z))];exact h1,by rw[qi (zd h2 e (by intro z;cases z))];exact h2,h3.1,fun j z y e1 e2=>?_⟩;obtain⟨t,et,ht⟩:=h3.2 j z y e1 e2;exact⟨t,et,by rw[qi (zd ht e (by intro z;cases z))];exact ht⟩
theorem qhQ:Good [(0,0)]:=⟨by decide,⟨0,rfl⟩,List.pairwise_singleton _ _,fun r m=>by rw[List.mem_singleton.mp m];decide⟩
theorem Same.nt_put {H H':Hp}{l:Addr}{o:HO} (s:NT H H') (f:H l=none):NT H (upd H' l o):=fun c u e n=>by rw[qi (qh e f)];exact s c u e n
theorem NT.but {H H1 H2:Hp}{l:Addr} (s:NT H H1) (f:H l=none) (b:But l H1 H2):NT H H2:=fun c u e n=>b c u (s c u e n) (qh e f)
theorem rs1 {H:Hp}{q t:Addr}{w:Int×Int} (h:H q=some (.lst [.ref t])) (ht:H t=some (.tup [.int w.1,.int w.2])):Rs H q [w]:=⟨_,h,rfl,fun j z y e1 e2=>by
 cases j with
 | zero=>cases e1;cases e2;exact⟨t,rfl,ht⟩
 | succ j=>cases e1⟩
theorem up2 {H:Hp}{x dx:Addr}{o o':HO} (f1:H x=none) (f2:H dx=none):Same H (upd (upd H dx o) x o'):=fun b u e=>by
 rw[qi (qh e f1),qi (qh e f2)];exact e
section
variable {P:Program}{w:World}{K:Frag}{mg:Str->Option Value}{base:Heap}
theorem qgy {a:Ad} (T:Txt K mg a) (hB:qch mg base):qx P w K mg base CX0 6 a.f_S a.fd_S ["_law_sieve_here","_law_rule_here","_law_contrary","_law_near"] (qcW a):=by
 have G_m:=qbU (P:=P) (w:=w) (base:=base) T;refine T.d_S.F.ok sc_Ltold (fun vs H Q E h=>?_) (fun cdv A outer s H vs Q E hr h=>?_)
 · obtain⟨f,t,wd,x,y,m,c,pr0,rfl,sf,ht,rul,hpr,kk⟩:=h;rfl
 · obtain⟨f,t,wd,x,y,m,c,pr0,rfl,sf,ht,rul,hpr,kk⟩:=h;have hU:=hr.units;have h_m:Room (1) _:=hr.mono (by decide)
   refine⟨_,(qf (Zn (pv 1) (zu rfl (qq (qm (i:=4) (sc_Ltold.nd) rfl (Or.inl rfl)) (qq (qm (i:=5) (sc_Ltold.nd) rfl (Or.inl rfl)) (qq (qm (i:=6) (sc_Ltold.nd) rfl (Or.inl rfl)) qR)))))
     (@qf _ _ _ _ _ (by exact(@qA _ _ 7 _ _ _ _ (by exact sc_Ltold.nd) (by rfl) (by exact Or.inl rfl) (by exact(@qG _ _ _ _ (by exact(@qa _ _ _ _ _ (by exact(pv 3)) (by exact(@qa _ _ _ _ _ (by exact(qo zV (pv 3) qd)) (by exact(@qa _ _ _ _ _ (by exact(ql (zg rfl) (by rfl) T.n_max zh (qa qd (qa (qo zI (pv 3) qd) qc)))) (by exact(@qa _ _ _ _ _ (by exact qd) (by exact(@qa _ _ _ _ _ (by exact(qo Zp qd qd)) (by exact(@qa _ _ _ _ _ (by exact qd) (by exact(@qa _ _ _ _ _ (by exact qd) (by exact(@qa _ _ _ _ _ (by exact(pv 5)) (by exact(@qa _ _ _ _ _ (by exact(pv 6)) (by exact(@qc _)) (by rfl))) (by rfl))) (by rfl))) (by rfl))) (by rfl))) (by rfl))) (by rfl))) (by rfl))) (by rfl))))) (by rfl) (by exact .inl rfl)))
     (by exact(qf (qA (i:=8) sc_Ltold.nd rfl (Or.inl rfl) (qo zJ qd (qo qa9 (pv 3) qd)))
     (qf (qA (i:=7) sc_Ltold.nd rfl (Or.inl rfl) (qo zV (pv 7) (qG (qa (qo zV (pv 8) (qo za (pv 5) qd)) (qa (qo zV (pv 8) (qo za (pv 6) qd)) (qa (qo zV (pv 8) (qo za (qo zV (pv 5) qd) qd)) (qa (qo zV (pv 8) (qo za (qo zV (pv 6) qd) qd)) qc)))))))
     (qf (qA (i:=7) sc_Ltold.nd rfl (Or.inl rfl) (qo zV (pv 7) (qG (qa (qo zJ qd (pv 5)) (qa (ql (zg rfl) (by rfl) T.n_max zh (qa qd (qa (qo zI (qo zJ qd (pv 5)) qd) qc))) (qa (qo zV (qo zJ qd (pv 6)) qd) (qa (qo zV (qo zJ qd (pv 6)) qd) qc)))))))
     (qf (QZ PassesOwn.never rfl (zl (pv 7)) (qm (i:=9) (sc_Ltold.nd) rfl (Or.inl rfl))
       (qf (qA (i:=10) sc_Ltold.nd rfl (Or.inl rfl) (Jf (k:=3) (Ok:=fun f sp=>sp=spS a f) (pv 0) (hr.mono (by decide)) (fun f sp h=>by rw[h];exact qdl T) (qa (ql (zL rfl) (by rfl) T.n_min zM (qa (qo Zp qd qd) (qa (pv 9) qc))) qc)))
       (qg (qK (PW.pt (jv (qX (qP (ql zy (by rfl) T.n_isinstance qu (qa (pv 10) (qa (Qe (v:=.ty "bool") rfl T.n_bool jB rfl) qc))))) (Zk (qy (uNe hU) (pv 10) (zv (uNe hU) (qj G_m h_m rfl T.d_m.m T.d_m.k T.d_m.b .nil qr (qa (pv 1) (qa (ql (zL rfl) (by rfl) T.n_min zM (qa (qo Zp qd qd) (qa (pv 9) qc))) qc))) (pv 2) (qz _)) (qz _)))))
         (qg (qv ZT))
         qw))))
     (qg (qv ZT))))))))),?_⟩
   try dsimp only [qZ,Cx.nox]
   obtain⟨_,hxb,hyb⟩:=id rul;refine⟨_,rfl,t,_,rfl,SqT.of ht,rfl,_,_,rfl,_,_,rfl,_,_,rfl,rfl,?_⟩;(try unfold qE);(try dsimp only);refine⟨_,rfl,_,rfl,.inl ⟨_,_,rfl,rfl,_,rfl,_,_,rfl,rfl,_,_,rfl,_,_,rfl,rfl,⟨by decide,by decide,by decide⟩,_,rfl,_,rfl,qp (Nat.le_of_ble_eq_true rfl),fun l1 f1=>?_⟩⟩;obtain⟨ns,eq,ln⟩:∃ ns:List Int,(HO.lst [.int m,.int (m+1),.int (if m - 1 > 0 then m - 1 else 0),.int 0,.int (10 ^ (9:Int).toNat),.int 1439,.int 1440,.int x,.int y])=.lst (ns.map V.int)∧ns.length=9:=⟨[_,_,_,_,_,_,_,_,_],rfl,rfl⟩
   rw[eq];generalize hG:upd H l1 _=G1;obtain⟨S1,e1⟩:=zD hG f1;clear hG eq;(try unfold qE);(try dsimp only);refine⟨_,rfl,_,_,rfl,rfl,⟨by decide,by decide⟩,_,_,rfl,rfl,.inl ⟨by decide,by decide⟩,?_⟩;generalize 1440 * (m / 1440)=dy;(try unfold qE);(try dsimp only);refine⟨_,rfl,_,rfl,_,rfl,_,_,rfl,rfl,(by decide), .inl ⟨_,_,rfl,rfl,_,rfl,_,rfl,_,_,rfl,rfl,(by decide), .inl ⟨_,_,rfl,rfl,_,rfl,_,rfl,.inl ⟨_,_,rfl,rfl,_,_,rfl,rfl,(by decide), .inl ⟨_,_,rfl,rfl,_,rfl,_,rfl,.inl ⟨_,_,rfl,rfl,_,_,rfl,rfl,(by decide), .inl ⟨_,_,rfl,rfl,qp (Nat.le_of_ble_eq_true rfl),fun l2 f2=>.inr (.inl ⟨l1,l2,ns.map V.int,_,rfl,rfl,(Same.new _ f2) _ _ e1,qb,Nat.le_of_lt (qp (by rw[List.length_map,ln];exact Nat.le_of_ble_eq_true rfl)),fun l3 f3=>?_⟩)⟩⟩⟩⟩⟩⟩⟩;obtain⟨ns2,eq,ln2⟩:∃ ns2:List Int,(HO.lst (ns.map V.int++[.int (dy+x % 1440),.int (dy+y % 1440),.int (dy+(x+1) % 1440),.int (dy+(y+1) % 1440)]))=.lst (ns2.map V.int)∧ns2.length=13:=⟨ns++[_,_,_,_],by rw[List.map_append];rfl,by rw[List.length_append,ln];rfl⟩
   rw[eq];generalize hG:upd _ l3 _=G2;obtain⟨S2',e3⟩:=zD hG f3;have S2:Same G1 G2:=(Same.new _ f2).trans S2';clear hG eq S2' f3 f2;(try unfold qE);(try dsimp only);refine⟨_,rfl,_,rfl,_,_,rfl,rfl,.inl ⟨by decide,by decide⟩,_,rfl,_,_,rfl,rfl,.inl ⟨by decide,by decide⟩,_,_,rfl,rfl,_,_,rfl,_,rfl,_,_,rfl,rfl,.inl ⟨by decide,by decide⟩, .inl ⟨_,_,rfl,rfl,_,rfl,_,_,rfl,rfl,.inl ⟨by decide,by decide⟩, .inl ⟨_,_,rfl,rfl,qp (Nat.le_of_ble_eq_true rfl),fun l4 f4=>.inr (.inl ⟨l3,l4,ns2.map V.int,_,rfl,rfl,(Same.new _ f4) _ _ e3,qb,Nat.le_of_lt (qp (by rw[List.length_map,ln2];exact Nat.le_of_ble_eq_true rfl)),fun l5 f5=>?_⟩)⟩⟩⟩;obtain⟨ns3,eq⟩:∃ ns3:List Int,(HO.lst (ns2.map V.int++[.int (1440 * x),.int (if 1440 * x - 1 > 0 then 1440 * x - 1 else 0),.int (1440 * y+1439),.int (1440 * y+1440)]))=.lst (ns3.map V.int):=⟨ns2++[_,_,_,_],by rw[List.map_append];rfl⟩
   rw[eq];generalize hG:upd _ l5 _=G3;obtain⟨S3',e5⟩:=zD hG f5;have S3:Same H G3:=S1.trans (S2.trans ((Same.new _ f4).trans S3'));clear hG eq S3' f5 f4;(try unfold qE);(try dsimp only);refine⟨_,rfl,l5,rfl,⟨_,SqL.of e5⟩,ZB (K:=K) (a:=l5) (xs:=ns3.map V.int) (D:={ nx:=qh6 (tC (.bl true)) { nx:=fun _ H'=>Q .non H',rt:=Q },rt:=Q }) (fun j σ H'=>∃ s9 s10:Option V,σ=[some (.ref f),some (.ref t),some (.bl c),some (.int m),some (.str wd),some (.int x),some (.int y),some (.ref l5),some (.int dy),s9,s10]∧Same G3 H') ⟨none,none,rfl,Same.refl _⟩ (fun j σ H' _ ⟨_,_,_,S⟩=>SqL.of (S _ _ e5)) ?_ ?_⟩
   · rintro j z σ H2 hz ⟨s9,s10,rfl,S4⟩;obtain⟨n,hn,rfl⟩:=Qu hz;have sH:=S3.trans S4;have sf2:=sf.mp (Same.nt sH).ext;obtain⟨o,fd,ho,hd⟩:=sf2.obj;refine⟨_,rfl,f,spS a f,o,fd,rfl,ho,hd,rfl,_,_,rfl,rfl,⟨by decide,by decide,by decide⟩,_,rfl,_,_,rfl,ho,_,pr0,rfl,sf2,?_⟩;(try unfold qE);(try dsimp only);generalize hn':(if n < 10 ^ (9:Int).toNat then n else 10 ^ (9:Int).toNat)=n';refine⟨_,rfl,_,_,_,rfl,(by decide),rfl,true,rfl,zf rfl ?_⟩;refine⟨_,rfl,_,rfl,_,_,rfl,rfl,⟨by decide,by decide,by decide⟩,_,rfl,_,_,rfl,t,wd,x,y,_,rfl,sH _ _ ht,rul,_,rfl,.inl ⟨rfl,.inl ⟨rfl,_,rfl,?_⟩⟩⟩;rw[hn',qiY,qiY,hpr n'];exact zf (by simp) ⟨_,_,rfl,S4⟩
   · rintro σ H2 ⟨s9,s10,rfl,S4⟩;exact kk _ (S3.trans S4)
theorem qe5 {a:Ad} (T:Txt K mg a) (hB:qch mg base):qx P w K mg base CX0 8 a.f_T a.fd_T ["_law_entry","_law_place","_law_other"] (qbw a):=by
 have G_i:=Zr (P:=P) (w:=w) (base:=base) T;have G_o:=jj (P:=P) (w:=w) (base:=base) T;refine T.d_T.F.ok sc_Llacks (fun vs H Q E h=>?_) (fun cdv A outer s H vs Q E hr h=>?_)
 · obtain⟨x,dx,p,f,l,g,nm2,wd,nm,pl,ot,lo,hi,ms,pr0,rfl,hx,en,hw,sp,nt,sf,hl,lms,npo,kk⟩:=h;rfl
 · obtain⟨x,dx,p,f,l,g,nm2,wd,nm,pl,ot,lo,hi,ms,pr0,rfl,hx,en,hw,sp,nt,sf,hl,lms,npo,kk⟩:=h;have hU:=hr.units;have h_i:Room (7) _:=hr.mono (by decide);have h_o:Room (6+1) _:=hr.mono (by decide)
   refine⟨_,(qf (qA (i:=3) sc_Llacks.nd rfl (Or.inl rfl) qH)
     (qf (qip (i:=4) rfl rfl (by exact(qin (qgt (pv 0) T.cl_Sifted T.d_i.mt G_i h_i T.d_i.b (qa (qeT (qdi (pv 2) (jw T.M_Table G_o h_o rfl T.g_Table T.d_o.b .nil qr (qa (qG (qa (q9 (qa qd (qa qd qc))) qc)) qc)) qeO) rfl rfl (by simp) (by decide)) qc))))
       rfl T.g_NoPlace T.X_NoPlace.c.xi sc_Llacks.nd rfl (Or.inl rfl) rfl (fun ea=>(by exact
       (qg (qA (i:=3) sc_Llacks.nd rfl (Or.inl rfl) (show PE _ _ (qjk K _ "found") from qit (pv 4) rfl))))))
     (qg (qv (zv (uEq hU) (pv 3) (pv 1) (qz _)))))),?_⟩
   try dsimp only [qZ,Cx.nox]
   try unfold qE
   try dsimp only
   refine⟨_,rfl,x,dx,_,rfl,hx,rfl,fun d fd=>⟨_,rfl,qp (Nat.le_of_ble_eq_true rfl),fun t0 g0=>⟨qp (Nat.le_of_ble_eq_true rfl),fun q0 h0 tb dt f1 f2 ne=>?_⟩⟩⟩;have Sd:=Same.new (.dK []) fd;have St:=Same.new (.tup [.int 0,.int 0]) g0;have Sq:=Same.new (.lst [.ref t0]) h0;have Sm:Same _ (upd (upd _ dt (.own tb)) tb (.ins a.c_Table dt [])):=up2 f1 f2;have R0:Rs _ q0 [(0,0)]:=rs1 (w:=(0,0)) (qb (H:=upd (upd H d (.dK [])) t0 (.tup [.int 0,.int 0])) (a:=q0) (o:=.lst [.ref t0])) (Sq _ _ qb);refine⟨tb,dt,q0,[(0,0)],rfl,qb,R0.same Sm,qhQ,fun G B tbl=>⟨rfl,?_⟩⟩;have SG:Same H G:=Sd.trans (St.trans (Sq.trans (zK f1 f2 B)));have hd:G d=some (.dK []):=(St.trans (Sq.trans (zK f1 f2 B))) _ _ qb;refine⟨hd,[(Sum.inr ot,.ref tb)],rfl,(Nat.le_of_ble_eq_true rfl),?_⟩;have em:JP [] [((Sum.inr ot:Key),V.ref tb)]=dkv [(ot,tb,[((0:Int),(0:Int))])]:=rfl;rw[em];have S2:Same H (upd G d (.dK (dkv [(ot,tb,[((0:Int),(0:Int))])]))):=SG.put fd _;have tq:Tq a (upd G d (.dK (dkv [(ot,tb,[((0:Int),(0:Int))])]))) d [(ot,tb,[((0:Int),(0:Int))])]:=⟨qb,fun z m=>by rw[List.mem_singleton.mp m];exact tbl.putD hd _,fun z m=>by rw[List.mem_singleton.mp m];exact qhQ,List.pairwise_singleton _ _⟩
   generalize upd G d (.dK (dkv [(ot,tb,[((0:Int),(0:Int))])]))=G2 at S2 tq ⊢;have x2:=(Same.nt S2).ext;refine⟨x,dx,p,f,d,l,g,nm2,wd,nm,pl,lo,hi,_,ms,pr0,rfl,S2 _ _ hx,en.same S2,hw,sp,CloS.mp nt x2,sf.mp x2,S2 _ _ hl,lms,tq,?_⟩;by_cases c:pl=""
   · refine .inl ⟨.inl c,fun d2 rr ks H3 _ B3 _ _ _ _ _ _ _=>?_⟩;(try unfold qE);(try dsimp only);refine⟨_,rfl,_,rfl,.inl ⟨rfl,?_⟩⟩;rw[Qa,c,decide_eq_true rfl];exact kk H3 fun b o e n=>B3 b o (S2 b o e) n
   · refine .inr ⟨c,fun z=>npo (List.mem_singleton.mp z),?_⟩;intro ea dx2 H1 S1 fe fdx hd1 xa;refine⟨_,ea,rfl,rfl,T.X_NoPlace.c.xi,qkl T.X_NoPlace.c.xi,?_⟩;refine⟨_,rfl,ea,_,dx2,_,_,rfl,xa,hd1,T.X_NoPlace.c,T.n_NoPlace_found,rfl,?_⟩;(try unfold qE);(try dsimp only);refine⟨_,rfl,_,rfl,.inl ⟨rfl,?_⟩⟩;rw[decide_eq_true rfl];exact kk H1 fun b o e n=>S1 b o (S2 b o e)
end
theorem qgH (v:V):(!decide (v=v))=false:=by rw[decide_eq_true rfl];rfl
theorem qiA {x:Str} (h:ze (.str x)=true):PyData.strOk x=true:=by
 have hs:x.cps.toList.all sgn=true:=by
   simp only[ze,Bool.and_eq_true]at h;exact h.2
 unfold PyData.strOk;rw[← Array.all_toList];refine List.all_eq_true.mpr fun c m=>?_
 have:=List.all_eq_true.mp hs c m
 unfold sgn at this;rw[Bool.and_eq_true]at this;have h2:=this.2;rw[Bool.not_eq_true',decide_eq_false_iff_not]at h2
 have h3:¬ (122 < c):=fun z=>h2 (by
   show ([122]:List Nat) < [c]
   exact List.Lex.rel z)
 exact decide_eq_true (by omega)
theorem qep {H:Hp}:∀ {xs:List Str},(∀ x∈xs,PyData.strOk x=true)->DVs H (xs.map V.str) (xs.map PyData.str)∧PyData.canLayAll0 (xs.map PyData.str)=true∧PyData.depthAll (xs.map PyData.str)≤1
 | [],_=>⟨.nil,rfl,by simp[PyData.depthAll]⟩
 | x::xs,h=>by
   obtain⟨h1,h2,h3⟩:=qep (xs:=xs) fun z m=>h z (List.mem_cons_of_mem _ m);refine⟨.cons (.str x) h1,?_,?_⟩
   · rw[List.map_cons];simp only[PyData.canLayAll0,PyData.canLay0,h2,h x List.mem_cons_self];rfl
   · rw[List.map_cons];simp only[PyData.depthAll,PyData.depth];omega
theorem qiH {ds:List PyData}{n:Nat} (h1:PyData.canLayAll0 ds=true) (h2:PyData.depthAll ds≤n) (hn:n≤60):PyData.canLay0 (.list ds)=true∧SeqAt.shaped (.list ds)=true:=by
 have cl:PyData.canLay0 (.list ds)=true:=by simp only[PyData.canLay0,h1]
 refine⟨cl,?_⟩;unfold SeqAt.shaped;rw[cl,Bool.true_and];refine decide_eq_true ?_;simp only[PyData.depth];omega
theorem qfb {H:Hp}{a b:Addr}{xs:List Str}{Q:VK} (ok:∀ x∈xs,PyData.strOk x=true) (h1:H a=some (.lst (xs.map V.str))) (h2:H b=some (.lst (xs.map V.str))) (q:Q (.bl false) H):qik (.ref a) (.ref b) H Q:=by
 obtain⟨d1,d2,d3⟩:=qep (H:=H) ok;obtain⟨c,sh⟩:=qiH d2 d3 (by decide);refine .inr ⟨_,_,.lst (.inl h1) d1,.lst (.inl h2) d1,sh,sh,?_⟩;rw[SeqAt.eqv_refl _ c];exact q
theorem qaY {n:Nat} (h:n≤20000):n < sizeLine:=Nat.lt_of_le_of_lt h (by decide)
def NB (p:Addr) (H H':Hp):Prop:=∀ c o,H c=some o->(∀ ps,o≠.tbl ps)->c≠p->H' c=some o
abbrev Rl:=Addr×Str×Int×Int
def prd (d:Rl):Int->Bool:=prR d.2.1 d.2.2.1 d.2.2.2
def rlV (d:Rl):List V:=[.str d.2.1,.int d.2.2.1,.int d.2.2.2]
def qk9 (H:Hp) (d:Rl):Prop:=H d.1=some (.tup (rlV d))
def qi5 (ds:List Rl):List V:=ds.map fun d=>V.ref d.1
theorem TbA.butL {H H':Hp}{T l:Addr}{L:List (Pos×Str)}{xs:List V} (h:TbA H T L) (e:H l=some (.lst xs)) (b:But l H H'):TbA H' T L:=by
 obtain⟨ps,h1,h2,h3⟩:=h;exact⟨ps,b _ _ h1 (zd h1 e (by intro z;cases z)),h2,fun x hx=>(h3 x hx).imp id fun⟨c,e1,e2⟩=>⟨c,e1,b _ _ e2 (zd e2 e (by intro z;cases z))⟩⟩
theorem Tbs.butL {a:Ad}{H H':Hp}{l:Addr}{xs:List V} (h:Tbs a H) (e:H l=some (.lst xs)) (b:But l H H'):Tbs a H':=⟨TbA.butL h.t0 e b,TbA.butL h.t1 e b,TbA.butL h.t2 e b,TbA.butL h.t3 e b,TbA.butL h.t4 e b⟩
theorem Tbs.butP {a:Ad}{H H':Hp}{p:Addr} (h:Tbs a H) (e:PenAt H p) (b:But p H H'):Tbs a H':=by
 obtain⟨c,x,y,_,e⟩:=e;exact h.butL e b
theorem qi6 {H H':Hp}{l:Addr}{xs:List V} (e:H l=some (.lst xs)) (b:But l H H'):∀ c φ,H c=some (.ext φ)->H' c=some (.ext φ):=fun c φ h=>b _ _ h (zd h e (by intro z;cases z))
theorem qeL {H:Hp}{l:Addr} (o:HO):But l H (upd H l o):=fun b u e n=>by rw[qi n];exact e
theorem Rs.nt {H H':Hp}{q:Addr}{rows:List (Int×Int)} (h:Rs H q rows) (n:NT H H'):Rs H' q rows:=by
 obtain⟨zs,h1,h2⟩:=h;exact⟨zs,n _ _ h1 (by intro p z;cases z),h2.1,fun j z y e1 e2=>let ⟨t,e,ht⟩:=h2.2 j z y e1 e2;⟨t,e,n _ _ ht (by intro p z;cases z)⟩⟩
theorem Rs.bl {H H':Hp}{q l:Addr}{rows:List (Int×Int)}{xs:List V} (h:Rs H q rows) (n:q≠l) (e:H l=some (.lst xs)) (b:But l H H'):Rs H' q rows:=by
 obtain⟨zs,h1,h2⟩:=h;exact⟨zs,b _ _ h1 n,h2.1,fun j z y e1 e2=>let ⟨t,et,ht⟩:=h2.2 j z y e1 e2;⟨t,et,b _ _ ht (zd ht e (by intro z;cases z))⟩⟩
theorem qiK {ms:List Int}{zs:List V}{H:Hp}{rows:List (Int×Int)} (good:Good rows) (t:TupL pr H zs rows):zs≠ms.map V.int:=fun e=>by
 have l:=t.1;have p:=jm good
 cases rows with
 | nil=>cases p
 | cons r rs =>
   cases zs with
   | nil=>cases l
   | cons z zs =>
     obtain⟨u,e1,_⟩:=t.2 0 z r rfl rfl
     cases ms with
     | nil=>cases e
     | cons m ms =>
       rw[List.map_cons]at e;injection e with e _;rw[e1]at e;cases e
theorem Tb.bl {a:Ad}{H H':Hp}{x l:Addr}{rows:List (Int×Int)}{ms:List Int} (h:Tb a H x rows) (good:Good rows) (e:H l=some (.lst (ms.map V.int))) (b:But l H H'):Tb a H' x rows:=by
 obtain⟨k,dx,zs,h1,h2,h3⟩:=h;refine⟨k,dx,zs,b _ _ h1 (zd h1 e (by intro z;cases z)),b _ _ h2 (zd h2 e (fun z=>?_)),h3.1,fun j z y e1 e2=>let ⟨t,et,ht⟩:=h3.2 j z y e1 e2;⟨t,et,b _ _ ht (zd ht e (by intro z;cases z))⟩⟩;injection z with z;exact qiK good h3 z
theorem Tq.bl {a:Ad}{H H':Hp}{td l:Addr}{ts:Pls}{ms:List Int} (h:Tq a H td ts) (e:H l=some (.lst (ms.map V.int))) (b:But l H H'):Tq a H' td ts :=
 ⟨b _ _ h.ht (zd h.ht e (by intro z;cases z)),fun t m=>(h.tt t m).bl (h.tg t m) e b,h.tg,h.nd⟩
structure Ey (a:Ad) (H:Hp) (x dx xp f l g:Addr) (n1 wd nm pl:Str) (lo hi:Int) (pr0:Int->Bool):Prop where
 hx:H x=some (.ins a.c_Sifted dx (fsS n1 xp f))
 en:En a H xp wd nm pl lo hi
 nt:Nt H f l g
 sf:Sf1 H g pr0
theorem Ey.but {a:Ad}{H H':Hp}{x dx xp f l g:Addr}{n1 wd nm pl:Str}{lo hi:Int}{pr0:Int->Bool}{xs:List V} (h:Ey a H x dx xp f l g n1 wd nm pl lo hi pr0) (e:H l=some (.lst xs)) (b:But l H H'):Ey a H' x dx xp f l g n1 wd nm pl lo hi pr0 :=
 ⟨b _ _ h.hx (zd h.hx e (by intro z;cases z)),h.en.mp fun C d fs z _=>b _ _ z (zd z e (by intro z;cases z)),CloS.mp h.nt (qi6 e b),h.sf.mp (qi6 e b)⟩
structure Ox (H:Hp) (s q nq rq qs mq:Addr) (wd nm pl:Str) (lo hi:Int) (ns:List Str) (rows:List (Int×Int)) (ds:List Rl) (fs:List Addr) (us:List Int):Prop where
 hs:H s=some (.tup (qkh wd nm pl lo hi))
 hR:Rs H q rows
 hn:H nq=some (.lst (ns.map V.str))
 hrq:H rq=some (.lst (qi5 ds))
 hqs:H qs=some (.lst (fs.map V.ref))
 hmq:H mq=some (.lst (us.map V.int))
 hd:∀ d∈ds,qk9 H d
theorem Ox.ntr {H H':Hp}{s q nq rq qs mq:Addr}{wd nm pl:Str}{lo hi:Int}{ns:List Str}{rows:List (Int×Int)}{ds:List Rl}{fs:List Addr}{us:List Int} (h:Ox H s q nq rq qs mq wd nm pl lo hi ns rows ds fs us) (n:NT H H'):Ox H' s q nq rq qs mq wd nm pl lo hi ns rows ds fs us :=
 ⟨n _ _ h.hs (by intro p z;cases z),h.hR.nt n,n _ _ h.hn (by intro p z;cases z),n _ _ h.hrq (by intro p z;cases z),n _ _ h.hqs (by intro p z;cases z),n _ _ h.hmq (by intro p z;cases z),fun d m=>n _ _ (h.hd d m) (by intro p z;cases z)⟩
def qi7 (wd:Str) (rows:List (Int×Int)) (lo hi:Int):List (Int×Int):=if wd="read" then shw rows lo hi else [(lo,hi)]
theorem qfG {wd pl n0:Str}{rows:List (Int×Int)}{lo hi:Int} (tb:Addr) (hw:wd="read"∧pl=n0∨(wd="within"∨wd="at")∧pl=""∧hi - lo < 1000):Due [(n0,tb,rows)] wd pl lo hi (qi7 wd rows lo hi):=by
 unfold qi7;rcases hw with ⟨h1,h2⟩|⟨h1,_⟩
 · rw[if_pos h1];exact .pl (x:=(n0,tb,rows)) (.inr h1) (List.mem_singleton.mpr rfl) h2.symm
 · rw[if_neg (by rcases h1 with h|h<;>rw[h]<;>decide)];exact .no (.inr h1)
theorem qd6 {wd pl n0:Str}{lo hi:Int} (hw:wd="read"∧pl=n0∨(wd="within"∨wd="at")∧pl=""∧hi - lo < 1000):wd="read"∨((wd="within"∨wd="at")∧hi - lo < 1000):=hw.imp (·.1) fun h=>⟨h.1,h.2.2⟩
theorem qgd {K:Frag}{mg:Str->Option Value}{a:Ad} (T:Txt K mg a) {te:TE}{σ:L2.St}{H:Hp}{Q:VK}{x:Addr}{wd nm pl:Str}{lo hi:Int} (hte:∀ R:V->Hp->Prop,R (.ref x) H->te σ H R) (en:En a H x wd nm pl lo hi) (w3:W3 wd) (k:Q (.str wd) H) :
   Jj a.c_Within "word" Qr [] E0 te qhu σ H Q∨Jj a.c_At "word" jt [] E0 te qhu σ H Q∨Jj a.c_Read "word" Zc [] E0 te qhu σ H Q:=by
 cases en with
 | @any dx _ hx=>exact absurd w3 (by unfold W3;decide)
 | @within dx _ _ _ hx=>exact .inl (hte _ ⟨x,dx,_,rfl,hx,rfl,_,rfl,k⟩)
 | @at_ dx _ _ hx=>exact .inr (.inl (hte _ ⟨x,dx,_,rfl,hx,rfl,_,rfl,k⟩))
 | @between dx _ _ _ _ hx=>exact absurd w3 (by unfold W3;decide)
 | @read dx _ _ _ hx=>exact .inr (.inr (hte _ ⟨x,dx,_,rfl,hx,rfl,_,rfl,k⟩))
inductive Jq (a:Ad) (vs:List V) (H:Hp) (Q:VK):Prop
 | mk (p s q nq:Addr) (wd nm pl n0 n1 n2:Str) (lo hi:Int) (rows:List (Int×Int)) (h1:vs=[.ref p,.ref s,.ref q,.ref nq]) (h2:PenAt H p) (h3:Tbs a H) (h4:H s=some (.tup (qkh wd nm pl lo hi))) (h5:Spc wd nm pl lo hi) (h6:(wd="read"∧pl=n0∨(wd="within"∨wd="at")∧pl=""∧hi - lo < 1000)) (h7:Rs H q rows) (h8:Good rows) (h9:H nq=some (.lst ([n0,n1,n2].map V.str))) (h10:ze (.str n0)=true) (h11:ze (.str n1)=true) (h12:n0≠n1) (h13:∀ H',NB p H H'->Tbs a H'->Q (.bl true) H'):Jq a vs H Q
def qbt (a:Ad):Sp:=fun vs H Q _=>Jq a vs H Q
section
variable {P:Program}{w:World}{K:Frag}{mg:Str->Option Value}{base:Heap}
theorem qe3 {a:Ad} (T:Txt K mg a) (hB:qch mg base):qx P w K mg base CX0 10 a.f_U a.fd_U ["_law_state","_law_spec","_law_rows_here","_law_names_here"] (qbt a):=by
 have G_f:=qaK (P:=P) (w:=w) (base:=base) T;have G_w:=qgA (P:=P) (w:=w) (base:=base) T;have G_a:=Zy (P:=P) (w:=w) (base:=base) T;have G_B:qx P w K mg base CX0 2 a.f_B a.fd_B ["_law_rule_here"] (qbq a):=qe0 T hB;have G_P:=qe1 (P:=P) (w:=w) (base:=base) T;have G_3:=qal (P:=P) (w:=w) (base:=base) T;have G_A:qx P w K mg base CX0 1 a.f_A a.fd_A ["keeps"] (Jk a):=qct T hB;have G_Q:=qgD (P:=P) (w:=w) (base:=base) T;have G_C:qx P w K mg base CX0 1 a.f_C a.fd_C ["_law_sieve_here","_law_asked"] (qaw a):=qdU T hB;have G_o:=jj (P:=P) (w:=w) (base:=base) T;have G_T:qx P w K mg base CX0 8 a.f_T a.fd_T ["_law_entry","_law_place","_law_other"] (qbw a):=qe5 T hB;have G_v:=qgz (P:=P) (w:=w) (base:=base) T;have G_S:qx P w K mg base CX0 6 a.f_S a.fd_S ["_law_sieve_here","_law_rule_here","_law_contrary","_law_near"] (qcW a):=qgy T hB;have G_4:=qak (P:=P) (w:=w) (base:=base) T;have G_W:=qaj (P:=P) (w:=w) (base:=base) T;have G_Y:=qdV (P:=P) (w:=w) (base:=base) T;have G_2:=qbS (P:=P) (w:=w) (base:=base) T;have G_5:=j7 (P:=P) (w:=w) (base:=base) T;have G_i:=Zr (P:=P) (w:=w) (base:=base) T;have G_m:=qbU (P:=P) (w:=w) (base:=base) T;refine T.d_U.F.ok sc_Lright (fun vs H Q E h=>?_) (fun cdv A outer s H vs Q E hr h=>?_)
 · obtain⟨p,s,q,nq,wd,nm,pl,n0,n1,n2',lo,hi,rows,rfl,hp,tb,hs,sp,hw,hR,good,hnq,okn0,okn1,n01,kk⟩:=h;rfl
 · obtain⟨p,s,q,nq,wd,nm,pl,n0,n1,n2',lo,hi,rows,rfl,hp,tb,hs,sp,hw,hR,good,hnq,okn0,okn1,n01,kk⟩:=h;have hu:=qD hr;have hU:=hr.units;have h_f:Room (1) _:=hr.mono (by decide);have h_w:Room (3) _:=hr.mono (by decide);have h_a:Room (2) _:=hr.mono (by decide);have h_B:Room (2) _:=hr.mono (by decide);have h_P:Room (2) _:=hr.mono (by decide);have h_3:Room (7+1) _:=hr.mono (by decide);have h_A:Room (1) _:=hr.mono (by decide);have h_Q:Room (9) _:=hr.mono (by decide);have h_C:Room (1) _:=hr.mono (by decide);have h_o:Room (6+1) _:=hr.mono (by decide);have h_T:Room (8) _:=hr.mono (by decide);have h_v:Room (1) _:=hr.mono (by decide);have h_S:Room (6) _:=hr.mono (by decide);have h_4:Room (1) _:=hr.mono (by decide);have h_W:Room (1) _:=hr.mono (by decide);have h_Y:Room (1) _:=hr.mono (by decide);have h_2:Room (1) _:=hr.mono (by decide);have h_5:Room (2) _:=hr.mono (by decide);have h_i:Room (7) _:=hr.mono (by decide);have h_m:Room (1) _:=hr.mono (by decide)
   refine⟨_,(qf (qA (i:=4) sc_Lright.nd rfl (Or.inl rfl) (qG (qa (qj G_w h_w rfl T.d_w.m T.d_w.k T.d_w.b .nil qr (qa (pv 0) (qa (qo za (qC (r:=rIx K) qt (pv 1) qd (fun _ _=>rfl)) (qo zV (qo Zp qd qd) qd)) qc))) (qa (qj G_w h_w rfl T.d_w.m T.d_w.k T.d_w.b .nil qr (qa (pv 0) (qa (qo za (qC (r:=rIx K) qt (pv 1) qd (fun _ _=>rfl)) (qo zV (qo Zp qd qd) qd)) qc))) qc))))
     (qf (qA (i:=5) sc_Lright.nd rfl (Or.inr rfl) (zv (uEq hU) (qj G_a h_a rfl T.d_a.m T.d_a.k T.d_a.b .nil qr (qa (pv 0) (qa qd qc))) qd (qz _)))
     (qf (qcr (i:=6) sc_Lright.nd rfl (Or.inl rfl) rfl (CompOk.def ["_law_rule_here"] [none]) (zl (pv 4)) (fun _ _ _ _ _=>(qm (i:=0) (show List.Nodup (["_law_rule_here"]:List Str) by decide +kernel) rfl (Or.inl rfl))) (fun _ _ _ _ _=>Qd) (fun _ _ _ _ _=>(qj G_B h_B rfl T.d_B.m T.d_B.k T.d_B.b .nil qr (qa (pv 0) qc))))
     (qf (qK (qdh (pv 5) (fun _=>rfl))
       (qg (qcr (i:=6) sc_Lright.nd rfl (Or.inl rfl) rfl (CompOk.def ["_law_sieve_here"] [none]) (zl (pv 6)) (fun _ _ _ _ _=>(qm (i:=0) (show List.Nodup (["_law_sieve_here"]:List Str) by decide +kernel) rfl (Or.inl rfl))) (fun _ _ _ _ _=>Qd) (fun _ _ _ _ _=>(qj G_A h_A rfl T.d_A.m T.d_A.k T.d_A.b .nil qr (qa (pv 0) qc)))))
       qw)
     (qf (qA (i:=7) sc_Lright.nd rfl (Or.inl rfl) (qj G_f h_f rfl T.d_f.m T.d_f.k T.d_f.b .nil qr (qa (qG (qa (q9 (qa (qC (r:=rIx K) qt (pv 1) qd (fun _ _=>rfl)) (qa (qC (r:=rIx K) qt (pv 1) qd (fun _ _=>rfl)) qc))) qc)) qc)))
     (qf (qK (qy (uEq hU) (qC (r:=rIx K) qt (pv 1) qd (fun _ _=>rfl)) qH (qz _))
       (qg (qA (i:=7) sc_Lright.nd rfl (Or.inl rfl) (qj G_P h_P rfl T.d_P.m T.d_P.k T.d_P.b .nil qr (qa (pv 2) (qa (qC (r:=rIx K) qt (pv 1) qd (fun _ _=>rfl)) (qa (qC (r:=rIx K) qt (pv 1) qd (fun _ _=>rfl)) qc))))))
       qw)
     (qf (qA (i:=8) sc_Lright.nd rfl (Or.inl rfl) (qG qc))
     (qf (QZ PassesOwn.never rfl (zl (pv 7)) (zu rfl (qq (qm (i:=9) (sc_Lright.nd) rfl (Or.inl rfl)) (qq (qm (i:=10) (sc_Lright.nd) rfl (Or.inl rfl)) qR)))
       (qg (qA (i:=8) sc_Lright.nd rfl (Or.inl rfl) (qo zV (pv 8) (qbO rfl rfl T.n_list rfl T.n_range (qa (pv 9) (qa (qo zV (pv 10) qd) qc)))))))
     (qf (QZ PassesOwn.never rfl (qeQ rfl T.n_zip (qa (pv 4) (qa (pv 6) qc))) (zu rfl (qq (qm (i:=11) (sc_Lright.nd) rfl (Or.inr rfl)) (qq (qm (i:=12) (sc_Lright.nd) rfl (Or.inl rfl)) qR)))
       (qf (qA (i:=13) sc_Lright.nd rfl (Or.inl rfl) (qG qc))
       (qf (qA (i:=14) sc_Lright.nd rfl (Or.inl rfl) (jw T.M_Sifted G_3 h_3 rfl T.g_Sifted T.d_3.b .nil qr (qa (qC (r:=rIx K) qt (pv 3) qd (fun _ _=>rfl)) (qa (qj G_Q h_Q rfl T.d_Q.m T.d_Q.k T.d_Q.b .nil qr (qa (pv 1) qc)) (qa (qj G_C h_C rfl T.d_C.m T.d_C.k T.d_C.b .nil qr (qa (pv 12) (qa (pv 13) qc))) qc)))))
       (qf (qA (i:=15) sc_Lright.nd rfl (Or.inl rfl) (qj G_f h_f rfl T.d_f.m T.d_f.k T.d_f.b .nil qr (qa (zP rfl (CompOk.def ["_law_one","_law_contrary","_law_rule_here"] [none,some 5,some 11]) (zl (pv 8)) (fun _ _ _ _ _=>(qm (i:=0) (show List.Nodup (["_law_one","_law_contrary","_law_rule_here"]:List Str) by decide +kernel) rfl (Or.inl rfl))) (fun _ _ _ _ _=>(qa6 (qy (uNe hU) (qj G_m h_m rfl T.d_m.m T.d_m.k T.d_m.b .nil qr (qa (pv 2) (qa (pv 0) qc))) (pv 1) (qz _)))) (fun _ _ _ _ _=>(q9 (qa (pv 0) (qa (pv 0) qc))))) qc)))
       (qf (qA (i:=16) sc_Lright.nd rfl (Or.inl rfl) (qeT (qdi (qC (r:=rIx K) qt (pv 3) qd (fun _ _=>rfl)) (jw T.M_Table G_o h_o rfl T.g_Table T.d_o.b .nil qr (qa (je (r:=qll K) jW (by rfl) T.n_list zZ (qa (pv 2) qc)) qc)) qeO) rfl rfl (by simp) (by decide)))
       (qf (qK (PW.pt (jv (qX (qP (qj G_v h_v rfl T.d_v.m T.d_v.k T.d_v.b .nil qr (qa (Zo (pv 14) T.cl_Sifted T.d_i.mt G_i h_i T.d_i.b .nil qj8 (qa (pv 16) qc)) (qa (pv 15) qc))))) (Zk (qX (qP (qj G_v h_v rfl T.d_v.m T.d_v.k T.d_v.b .nil qr (qa (Zo (pv 14) T.cl_Sifted T.d_i.mt G_i h_i T.d_i.b .nil qj8 (qa (pv 16) qc)) (qa (pv 15) qc))))))))
         (qg (qv ZT))
         qw)
       (qf (qK (PW.pt (jv (qy (uNe hU) (qdQ rfl rfl T.n_len rfl T.n_set (qa (qo zV (pv 13) (pv 8)) qc)) (ql zx (by rfl) T.n_len qT (qa (pv 8) qc)) (qz _)) (Zk (qX (qP (qj G_S h_S rfl T.d_S.m T.d_S.k T.d_S.b .nil qr (qa (pv 12) (qa (pv 11) (qa (pv 5) (qa (qC (r:=rIx K) qt (qo zV (pv 8) (qG (qa qd qc))) qd (fun _ _=>rfl)) qc))))))))))
         (qg (qv ZT))
         qw)
       (qf (qK (PW.pt (jv (qy (uNe hU) (zU (pv 14) T.cl_Sifted T.d_4.mt G_4 h_4 T.d_4.b .nil qr) qH (qz _)) (jv (qy (uNe hU) (zc (pv 14) rfl) (qC (r:=rIx K) qt (pv 3) qd (fun _ _=>rfl)) (qz _)) (Zk (qy (uNe hU) (zU (pv 14) T.cl_Sifted T.d_5.mt G_5 h_5 T.d_5.b .nil qr) (qC (r:=rIx K) qt (qG (qa (qG qc) (qa (qG (qa (qC (r:=rIx K) qt (pv 3) qd (fun _ _=>rfl)) qc)) qc))) (je qb8 (by rfl) T.n_int qaa (qa (zv (uNe hU) (qC (r:=rIx K) qt (pv 1) qd (fun _ _=>rfl)) qH (qz _)) qc)) (fun _ _=>rfl)) (qz _))))))
         (qg (qv ZT))
         qw)
       (qf (qK (PW.pt (jv (qX (qP (ql (r:=qki K) qbm (by rfl) T.n_isinstance qu (qa (pv 14) (qa (qY (v:=.ref a.c_Entry) rfl T.g_Entry rfl) qc))))) (jv (qP (ql (r:=qjB K) qfQ (by rfl) T.n_isinstance qu (qa (pv 14) (qa (q9 (qa (qY (v:=.ref a.c_Within) rfl T.g_Within rfl) (qa (qY (v:=.ref a.c_Between) rfl T.g_Between rfl) qc))) qc)))) (Zk (qy (uNe hU) (PE.or (zU (zc (pv 14) rfl) T.cl_Within T.d_W.mt G_W h_W T.d_W.b .nil qr) (PE.or (zU (zc (pv 14) rfl) T.cl_At T.d_Y.mt G_Y h_Y T.d_Y.b .nil qr) (zU (zc (pv 14) rfl) T.cl_Read T.d_2.mt G_2 h_2 T.d_2.b .nil qr))) (qC (r:=rIx K) qt (pv 1) qd (fun _ _=>rfl)) (qz _))))))
         (qg (qv ZT))
         qw)
       (qg (qK (qX (qP (qj G_T h_T rfl T.d_T.m T.d_T.k T.d_T.b .nil qr (qa (pv 14) (qa (qC (r:=rIx K) qt (pv 1) qd (fun _ _=>rfl)) (qa (qC (r:=rIx K) qt (pv 3) qd (fun _ _=>rfl)) qc))))))
         (qg (qv ZT))
         qw)))))))))))
     (qg (qv ZT))))))))))),?_⟩
   try dsimp only [qZ,Cx.nox]
   have e9:(10:Int) ^ (9:Int).toNat=1000000000:=by decide
   have modlo:0≤lo % (10 ^ (9:Int).toNat+1):=by rw[e9];omega
   have modhi:lo % (10 ^ (9:Int).toNat+1)≤1000000000:=by rw[e9];omega
   obtain⟨pc,px,py,pc0,hpp⟩:=id hp
   have w3:W3 wd:=by
     rcases hw with h|⟨h|h,_⟩
     · exact .inl h.1
     · exact .inr (.inl h)
     · exact .inr (.inr h)
   have nsp:s≠p:=zd hs hpp (by intro z;cases z);have nqp:q≠p:=hR.neP hp;have nnp:nq≠p:=zd hnq hpp (by intro z;cases z);refine⟨_,rfl,_,rfl,.inr (.inl ⟨s,_,_,_,rfl,rfl,SqT.of hs,rfl,_,_,rfl,rfl,⟨by decide,by decide,by decide⟩,.inl ⟨_,_,rfl,rfl,_,_,rfl,rfl,(by decide),p,_,rfl,hp,⟨modlo,modhi⟩,fun t1 w1 x1 y1 G1 ft1 u1 p1 e1 r1=>?_⟩⟩)⟩;have hs1:=u1 _ _ hs nsp;refine⟨_,rfl,_,rfl,.inr (.inl ⟨s,_,_,_,rfl,rfl,SqT.of hs1,rfl,_,_,rfl,rfl,⟨by decide,by decide,by decide⟩,.inl ⟨_,_,rfl,rfl,_,_,rfl,rfl,(by decide),p,_,rfl,p1,⟨modlo,modhi⟩,fun t2 w2 x2 y2 G2 ft2 u2 p2 e2 r2=>?_⟩⟩)⟩;have nt1:t1≠p:=hp.ne ft1;have nt2:t2≠p:=p1.ne ft2;refine⟨qp (Nat.le_of_ble_eq_true rfl),fun rq frq=>?_⟩;have nrq:rq≠p:=p2.ne frq;generalize hG:upd G2 rq _=G3;obtain⟨S3,erq0⟩:=zD hG frq;clear hG;have p3:PenAt G3 p:=PenAt.sm p2 S3;obtain⟨ds,eds,lds⟩:∃ ds:List Rl,ds=[(t1,w1,x1,y1),(t2,w2,x2,y2)]∧ds.length=2:=⟨_,rfl,rfl⟩
   have erq:G3 rq=some (.lst (qi5 ds)):=by rw[eds];exact erq0
   have rok:∀ d∈ds,Rul d.2.1 d.2.2.1 d.2.2.2:=fun d m=>by
     rw[eds]at m;simp only[List.mem_cons,List.not_mem_nil,or_false]at m;rcases m with rfl|rfl
     · exact r1
     · exact r2
   have hd3:∀ d∈ds,qk9 G3 d∧d.1≠p:=fun d m=>by
     rw[eds]at m;simp only[List.mem_cons,List.not_mem_nil,or_false]at m;rcases m with rfl|rfl
     · exact⟨S3 _ _ (u2 _ _ e1 nt1),nt1⟩
     · exact⟨S3 _ _ e2,nt2⟩
   have B3:But p H G3:=(u1.trans u2).same S3;clear eds erq0 e1 e2 u1 u2 S3 p1 p2 hs1 r1 r2 ft1 ft2 frq nt1 nt2;(try unfold qE);(try dsimp only);refine⟨_,rfl,p,_,rfl,p3,by decide,by decide,fun dc G4 dc0 dc1 u4 p4=>.inl ⟨rfl,?_⟩⟩;generalize decide (V.int dc=V.int 0)=c;have B4:=B3.trans u4;have hs4:=B4 _ _ hs nsp;have hR4:=hR.bp hp B4;have hn4:=B4 _ _ hnq nnp;have erq4:=u4 _ _ erq nrq;have hd4:∀ d∈ds,qk9 G4 d:=fun d m=>u4 _ _ (hd3 d m).1 (hd3 d m).2;have tb4:=tb.butP hp B4;have kk4:∀ H',NT G4 H'->Tbs a H'->Q (.bl true) H':=fun H' n t=>kk H' (fun b o e nt nb=>n b o (B4 b o e nb) nt) t;clear kk B3 u4 p3 p4 hs hR hnq erq hd3 tb B4 hpp;have lrf:(qi5 ds).length=2:=by unfold qi5;rw[List.length_map];exact lds
   try unfold qE
   try dsimp only
   refine⟨_,rfl,rq,rfl,⟨_,SqL.of erq4⟩,fun D fD=>?_⟩;refine zw (K:=K) (a:=rq) (xs:=qi5 ds) (D:=D) (fun i σ H2=>∃ (c0:Option V) (fs:List Addr),σ=[c0]∧NT G4 H2∧Tbs a H2∧H2 D=some (.lst (fs.map V.ref))∧fs.length=i∧∀ (j:Nat) (f:Addr) (d:Rl),fs[j]?=some f->ds[j]?=some d->Sf0 H2 f (prd d)) ⟨none,[],rfl,(Same.nt (Same.new _ fD)),tb4.same (Same.new _ fD),qb,rfl,fun j f d e=>by cases e⟩ (fun i σ H2 _ ⟨_,_,_,n,_⟩=>SqL.of (n _ _ erq4 (by intro p z;cases z))) ?_ ?_
   · rintro i z σ H2 hz ⟨c0,fs,rfl,n2,tb2,hD,lf,sf2⟩;obtain⟨d,hdi,rfl⟩:=Qu hz;have md:=List.mem_of_getElem? hdi;have il:i < ds.length:=(List.getElem?_eq_some_iff.mp hdi).1;refine⟨_,rfl,d.1,d.2.1,d.2.2.1,d.2.2.2,rfl,n2 _ _ (hd4 d md) (by intro p z;cases z),(rok d md).pos,tb2,fun f H3 ff n3 tb3 sf3=>?_⟩;have hD3:=n3 _ _ hD (by intro p z;cases z);have bD:But D H3 (upd H3 D (.lst (fs.map V.ref++[.ref f]))):=qeL _;refine⟨_,hD3,qB (by rw[List.length_map];omega),_,fs++[f],rfl,Same.nt_put (n2.trans n3) fD,tb3.butL hD3 bD,by rw[qb,List.map_append];rfl,by rw[List.length_append,lf];rfl,fun j f' d' h1 h2=>?_⟩;rw[List.getElem?_append]at h1;split at h1
     · exact((sf2 j f' d' h1 h2).mp n3.ext).mp (qi6 hD3 bD)
     · rename_i hj
       have ej:j=i:=by
         have:=(List.getElem?_eq_some_iff.mp h1).1
         simp at this;omega
       subst ej;rw[show j - fs.length=0 by omega]at h1;cases h1;rw[hdi]at h2;cases h2;exact sf3.mp (qi6 hD3 bD)
   rintro σ H2 ⟨c0,fs,rfl,n2,tb2,hD,lf,sf2⟩;rw[lrf]at lf;(try unfold qE);(try dsimp only);refine zH (t:=qkg _ _ _) (fun σ' H'=>∃ (qs:Addr) (fs:List Addr),σ'=[some (.ref p),some (.ref s),some (.ref q),some (.ref nq),some (.ref rq),some (.bl c),some (.ref qs),none,none,none,none,none,none,none,none,none,none]∧NT G4 H'∧Tbs a H'∧H' qs=some (.lst (fs.map V.ref))∧fs.length=2∧∀ (j:Nat) (f:Addr) (d:Rl),fs[j]?=some f->ds[j]?=some d->∃ pr0,Sf1 H' f pr0∧∀ n,pr0 n=(prd d n != c)) (fun N hN=>?_) ?_
   · refine⟨_,rfl,c,rfl,qcE (fun g=>?_) (fun g=>?_)⟩
     · subst g;refine⟨_,rfl,D,rfl,⟨_,SqL.of hD⟩,fun C fC=>?_⟩;refine zw (K:=K) (a:=D) (xs:=fs.map V.ref) (D:=C) (fun i σ H3=>∃ (c0:Option V) (gs:List Addr),σ=[c0]∧NT H2 H3∧Tbs a H3∧H3 C=some (.lst (gs.map V.ref))∧gs.length=i∧∀ (j:Nat) (f:Addr) (d:Rl),gs[j]?=some f->ds[j]?=some d->Sf1 H3 f (fun n=>!prd d n)) ⟨none,[],rfl,(Same.nt (Same.new _ fC)),tb2.same (Same.new _ fC),qb,rfl,fun j f d e=>by cases e⟩ (fun i σ H3 _ ⟨_,_,_,n,_⟩=>SqL.of (n _ _ hD (by intro p z;cases z))) ?_ ?_
       · rintro i z σ H3 hz ⟨c0,gs,rfl,n3,tb3,hC,lg,sg⟩;obtain⟨f,hf,rfl⟩:=Qu hz;have il:i < fs.length:=(List.getElem?_eq_some_iff.mp hf).1;obtain⟨d,hdi⟩:∃ d,ds[i]?=some d:=⟨_,List.getElem?_eq_getElem (by omega)⟩
         refine⟨_,rfl,f,_,rfl,(sf2 i f d hf hdi).mp n3.ext,tb3,fun g H4 fg n4 tb4' sg4=>?_⟩;have hC4:=n4 _ _ hC (by intro p z;cases z);have bC:But C H4 (upd H4 C (.lst (gs.map V.ref++[.ref g]))):=qeL _;refine⟨_,hC4,qB (by rw[List.length_map];omega),_,gs++[g],rfl,Same.nt_put (n3.trans n4) fC,tb4'.butL hC4 bC,by rw[qb,List.map_append];rfl,by rw[List.length_append,lg];rfl,fun j f' d' h1 h2=>?_⟩;rw[List.getElem?_append]at h1;split at h1
         · exact((sg j f' d' h1 h2).mp n4.ext).mp (qi6 hC4 bC)
         · rename_i hj
           have ej:j=i:=by
             have:=(List.getElem?_eq_some_iff.mp h1).1
             simp at this;omega
           subst ej;rw[show j - gs.length=0 by omega]at h1;cases h1;rw[hdi]at h2;cases h2;exact sg4.mp (qi6 hC4 bC)
       rintro σ H3 ⟨c0,gs,rfl,n3,tb3,hC,lg,sg⟩;rw[List.length_map,lf]at lg;exact hN _ _ ⟨C,gs,rfl,n2.trans n3,tb3,hC,lg,fun j f d h1 h2=>⟨_,sg j f d h1 h2,fun n=>by cases prd d n<;>rfl⟩⟩
     · have g:c=false:=g;subst g;exact hN _ _ ⟨D,fs,rfl,n2,tb2,hD,lf,fun j f d h1 h2=>⟨_,.b (sf2 j f d h1 h2),fun n=>by cases prd d n<;>rfl⟩⟩
   clear sf2 lf hD n2 tb2 fD;clear fs D H2;rintro _ H2 ⟨qs,fs,rfl,n2,tb2,hqs,lf,sf2⟩;have hs2:=n2 _ _ hs4 (by intro p z;cases z);have hR2:=hR4.nt n2;(try unfold qE);(try dsimp only);refine⟨_,rfl,.inr (.inl ⟨s,_,_,_,rfl,rfl,SqT.of hs2,rfl,_,rfl,.inr (.inl ⟨s,_,_,_,rfl,rfl,SqT.of hs2,rfl,qp (Nat.le_of_ble_eq_true rfl),fun t0 g0=>⟨qp (Nat.le_of_ble_eq_true rfl),fun q0 h0=>?_⟩⟩)⟩)⟩;have Sa:=Same.new (.tup [.int lo,.int hi]) g0;have Sb:=Same.new (.lst [.ref t0]) h0;have R0:Rs (upd (upd H2 t0 (.tup [.int lo,.int hi])) q0 (.lst [.ref t0])) q0 [(lo,hi)]:=rs1 (w:=(lo,hi)) qb (Sb _ _ qb);have Sab:=Sa.trans Sb;generalize upd (upd H2 t0 (.tup [.int lo,.int hi])) q0 (.lst [.ref t0])=G5 at R0 Sab ⊢;clear Sa Sb g0 h0;refine⟨q0,[(lo,hi)],rfl,R0,.one _,fun lq r0 H3 flq S3 Rq cq lenq memq=>?_⟩;have S23:=Sab.trans S3;clear Sab S3 R0;(try unfold qE);(try dsimp only);refine zH (t:=qkg _ _ _) (fun σ' H'=>∃ (lq:Addr) (r0:List (Int×Int)),σ'=[some (.ref p),some (.ref s),some (.ref q),some (.ref nq),some (.ref rq),some (.bl c),some (.ref qs),some (.ref lq),none,none,none,none,none,none,none,none,none]∧Same H2 H'∧Rs H' lq r0∧zB r0∧∀ n,Mem r0 n↔Mem (qi7 wd rows lo hi) n) (fun N hN=>?_) ?_
   · refine⟨_,rfl,.inr (.inl ⟨s,_,_,_,rfl,rfl,SqT.of (S23 _ _ hs2),rfl,.inl ⟨rfl,_,rfl,?_⟩⟩)⟩;rw[Qa];refine qcE (fun g=>?_) (fun g=>?_)
     · have g:=of_decide_eq_true g;refine⟨_,rfl,_,rfl,.inr (.inl ⟨s,_,_,_,rfl,rfl,SqT.of (S23 _ _ hs2),rfl,_,rfl,.inr (.inl ⟨s,_,_,_,rfl,rfl,SqT.of (S23 _ _ hs2),rfl,q,rows,lo,hi,rfl,hR2.same S23,good,fun lq2 r2 H4 fl2 S4 R4 c4 _ m4=>?_⟩)⟩)⟩;refine hN _ _ ⟨lq2,r2,rfl,S23.trans S4,R4,c4,fun n=>?_⟩;unfold qi7;rw[if_pos g];exact m4 n
     · have g:=of_decide_eq_false g;refine hN _ _ ⟨lq,r0,rfl,S23,Rq,cq,fun n=>?_⟩;unfold qi7;rw[if_neg g];exact memq n
   clear Rq cq lenq memq S23 flq;clear r0 lq H3;rintro _ H3 ⟨lq,r0,rfl,S23,Rq,cq,memq⟩;obtain⟨L,l1k,lb,lm⟩:=qdD (ts:=[(n0,p,rows)]) (fun t m=>by rw[List.mem_singleton.mp m];exact good) sp (qd6 hw) (qfG (rows:=rows) p hw);obtain⟨zs,hlq,tz⟩:=id Rq;have lenm:∀ i,(mos (r0.take i)).length≤1000:=fun i=>Nat.le_trans (qaW (qdn (qaR cq i)) fun n m=>lm n ((memq n).mp (mem_mos.mp (qfe n m)))) l1k;(try unfold qE);(try dsimp only);refine⟨Nat.zero_le _,fun m0 fm0=>?_⟩;generalize hG:upd H3 m0 _=G6;obtain⟨S6,em0⟩:=zD hG fm0;clear hG;(try unfold qE);(try dsimp only);refine zH (t:=qi4 _ _ _) (fun σ' H'=>∃ (mq:Addr) (s9 s10:Option V),σ'=[some (.ref p),some (.ref s),some (.ref q),some (.ref nq),some (.ref rq),some (.bl c),some (.ref qs),some (.ref lq),some (.ref mq),s9,s10,none,none,none,none,none,none]∧Same H2 H'∧H' mq=some (.lst ((mos r0).map V.int))) (fun N hN=>?_) ?_
   · refine⟨_,rfl,lq,rfl,⟨_,SqL.of (S6 _ _ hlq)⟩,ZB (K:=K) (a:=lq) (xs:=zs) (D:={ nx:=N,rt:=Q }) (fun j σ H'=>∃ (mq:Addr) (s9 s10:Option V),σ=[some (.ref p),some (.ref s),some (.ref q),some (.ref nq),some (.ref rq),some (.bl c),some (.ref qs),some (.ref lq),some (.ref mq),s9,s10,none,none,none,none,none,none]∧Same G6 H'∧H' mq=some (.lst ((mos (r0.take j)).map V.int))) ⟨m0,none,none,rfl,Same.refl _,em0⟩ (fun j σ H' _ ⟨_,_,_,_,S,_⟩=>SqL.of (S _ _ (S6 _ _ hlq))) ?_ ?_⟩
     · rintro j z σ H4 hz ⟨mq,s9,s10,rfl,S4,hmq⟩;obtain⟨w,u,hw',rfl,hu0⟩:=tz.of hz;have mw:=List.mem_of_getElem? hw';have w12:=cq.1 w mw;have b1:=lb w.1 (lm _ ((memq _).mp ⟨w,mw,Int.le_refl _,w12⟩));have b2:=lb w.2 (lm _ ((memq _).mp ⟨w,mw,w12,Int.le_refl _⟩));have l1:=lenm (j+1);rw[Zz hw',List.length_append]at l1;have lmo:(mo w).length=(w.2+1 - w.1).toNat:=by unfold mo;rw[List.length_map,List.length_range]
       refine⟨u,_,rfl,SqT.of (S4 _ _ (S6 _ _ hu0)),rfl,_,_,rfl,_,_,rfl,rfl,?_⟩;refine⟨_,rfl,_,rfl,_,rfl,.inl ⟨_,_,rfl,rfl,_,_,rfl,⟨by omega,by omega,by omega,by omega⟩,by omega,fun lr flr=>?_⟩⟩;have emo:((List.range (w.2+1 - w.1).toNat).map fun (k:Nat)=>V.int (w.1+(k:Int)))=(mo w).map V.int:=by unfold mo;rw[List.map_map];rfl
       have S5:=Same.new (.lst ((List.range (w.2+1 - w.1).toNat).map fun (k:Nat)=>V.int (w.1+(k:Int)))) flr;refine .inr (.inl ⟨mq,lr,_,_,rfl,rfl,S5 _ _ hmq,qb,Nat.le_of_lt (qaY (by rw[List.length_map,List.length_map,List.length_range];omega)),fun k2 fk2=>?_⟩);refine⟨k2,_,_,rfl,S4.trans (S5.trans (Same.new _ fk2)),?_⟩;rw[qb,Zz hw',List.map_append,emo]
     · rintro σ H4 ⟨mq,s9,s10,rfl,S4,hmq⟩;rw[tz.1,List.take_length]at hmq;exact hN _ _ ⟨mq,s9,s10,rfl,S23.trans (S6.trans S4),hmq⟩
   rintro _ H4 ⟨mq,s9,s10,rfl,S24,hmq⟩;have lus:=lenm r0.length;rw[List.take_length]at lus;have asu:=qcL cq;have ndu:=qdn cq;have mu:∀ n,n∈mos r0↔Mem (qi7 wd rows lo hi) n:=fun n=>mem_mos.trans (memq n);generalize mos r0=us at hmq lus asu ndu mu;have n4:=n2.trans (Same.nt S24);have O:Ox H4 s q nq rq qs mq wd nm pl lo hi [n0,n1,n2'] rows ds fs us:=⟨S24 _ _ hs2,hR2.same S24,n4 _ _ hn4 (by intro p z;cases z),n4 _ _ erq4 (by intro p z;cases z),S24 _ _ hqs,hmq,fun d m=>n4 _ _ (hd4 d m) (by intro p z;cases z)⟩
   have tbb:=tb2.same S24;have sfb:∀ (j:Nat) (f:Addr) (d:Rl),fs[j]?=some f->ds[j]?=some d->∃ pr0,Sf1 H4 f pr0∧∀ n,pr0 n=(prd d n != c):=fun j f d h1 h2=>let ⟨pr0,h3,h4⟩:=sf2 j f d h1 h2;⟨pr0,h3.mp (Same.nt S24).ext,h4⟩;have kkb:∀ H',NT H4 H'->Tbs a H'->Q (.bl true) H':=fun H' n t=>kk4 H' (n4.trans n) t;clear kk4 n4 S24 hs2 hR2 hn4 erq4 hqs hmq hd4 tb2 sf2 S23 S6 tb4 n2 hs4 hR4 memq cq lm lb l1k lenm tz hlq Rq em0 fm0;(try unfold qE);(try dsimp only);refine zH (t:=qi4 _ _ _) (fun σ' H'=>NT H4 H'∧Tbs a H') (fun N hN=>?_) ?_
   · refine⟨_,rfl,_,rfl,false,rq,qs,rfl,⟨_,SqL.of O.hrq⟩,⟨_,SqL.of O.hqs⟩,qiQ (K:=K) (t:=false) (a:=rq) (b:=qs) (xs:=qi5 ds) (ys:=fs.map V.ref) (fun j σ H'=>∃ s9 s10 s11 s12 s13 s14 s15 s16:Option V,σ=[some (.ref p),some (.ref s),some (.ref q),some (.ref nq),some (.ref rq),some (.bl c),some (.ref qs),some (.ref lq),some (.ref mq),s9,s10,s11,s12,s13,s14,s15,s16]∧NT H4 H'∧Tbs a H') (by rw[lrf,List.length_map,lf]) ⟨_,_,_,_,_,_,_,_,rfl,NT.refl _,tbb⟩ (fun j σ H' _ ⟨_,_,_,_,_,_,_,_,_,n,_⟩=>⟨SqL.of (O.ntr n).hrq,SqL.of (O.ntr n).hqs⟩) ?_ ?_⟩
     · rintro j u v σ H5 t hu hv ⟨s9,s10,s11,s12,s13,s14,s15,s16,rfl,n5,tb5⟩ ft;obtain⟨d,hdj,rfl⟩:=Qu hu;obtain⟨g,hgj,rfl⟩:=Qu hv;have md:=List.mem_of_getElem? hdj;have rul:=rok d md;obtain⟨pr0,sf0,hpr⟩:=sfb j g d hgj hdj;refine⟨t,_,rfl,SqT.of qb,rfl,_,_,rfl,_,_,rfl,rfl,?_⟩;have St:=Same.new (.tup [.ref d.1,.ref g]) ft;generalize upd H5 t (.tup [.ref d.1,.ref g])=G6 at St ⊢;have n6:=n5.trans (Same.nt St);have tb6:=tb5.same St;have O6:=O.ntr n6;have sf6:=sf0.mp n6.ext;clear n5 tb5 St ft sf0;(try unfold qE);(try dsimp only);refine⟨Nat.zero_le _,fun l fl=>?_⟩;generalize hG:upd G6 l _=G7;obtain⟨S7,el⟩:=zD hG fl;clear hG;have n7:=Same.nt S7;have O7:=O6.ntr n7;(try unfold qE);(try dsimp only);refine⟨_,rfl,.inl ⟨nq,_,_,_,rfl,rfl,SqL.of O7.hn,rfl,_,rfl,s,wd,nm,pl,lo,hi,rfl,O7.hs,sp,w3,fun xp H8 S8 en=>?_⟩⟩;refine⟨_,rfl,_,rfl,g,l,rfl,(tb6.same S7).same S8,fun f H9 ff n9 tb9 nt9=>?_⟩;refine fun x dx f1 f2 ne=>⟨x,dx,xp,f,n1,wd,nm,pl,lo,hi,rfl,qb,okn1,(en.mp fun C d fs e _=>n9 _ _ e (by intro p z;cases z)).same (up2 f1 f2),qd6 hw,fun H10 B10 hx=>⟨rfl,?_⟩⟩
       have S10:=zK f1 f2 B10;have n79:=(Same.nt S8).trans n9;have n10:NT G6 H10:=(n7.trans n79).trans (Same.nt S10);have el10:H10 l=some (.lst (([]:List Int).map V.int)):=S10 _ _ (n79 _ _ el (by intro p z;cases z));have tb10:=tb9.same S10;have E10:Ey a H10 x dx xp f l g n1 wd nm pl lo hi pr0:=⟨hx,(en.mp fun C d fs e _=>n9 _ _ e (by intro p z;cases z)).same S10,CloS.mp nt9 (Same.nt S10).ext,sf6.mp n10.ext⟩
       clear S7 el n7 O7 en ff n9 tb9 nt9 f1 f2 ne B10 hx S10 n79 S8 tb6 sf6;have O10:=O6.ntr n10;(try unfold qE);(try dsimp only);refine⟨_,rfl,mq,rfl,⟨_,SqL.of O10.hmq⟩,fun D fD=>?_⟩;refine zw (K:=K) (a:=mq) (xs:=us.map V.int) (D:=D) (fun i σ H'=>∃ (c0:Option V) (ys:List V),σ=[c0,some (.bl c),some (.ref d.1)]∧Same H10 H'∧H' D=some (.lst ys)∧TupL pr H' ys (((us.take i).filter pr0).map dup)) ⟨none,[],rfl,Same.new _ fD,qb,.nil⟩ (fun i σ H' _ ⟨_,_,_,S,_⟩=>SqL.of (S _ _ O10.hmq)) ?_ ?_
       · rintro i z σ H11 hz ⟨c0,ys,rfl,S11,hD,ty⟩;obtain⟨n,hn,rfl⟩:=Qu hz;have il:i < us.length:=(List.getElem?_eq_some_iff.mp hn).1;have ly:=ty.1;rw[List.length_map]at ly;have lf2:=List.length_filter_le pr0 (us.take i);rw[List.length_take]at lf2
         have es:(us.take (i+1)).filter pr0=(us.take i).filter pr0++(if pr0 n=true then [n] else []):=by
           rw[List.take_add_one,hn,List.filter_append];congr 1;show List.filter pr0 [n]=_;rw[List.filter_cons];split<;>rfl
         refine⟨_,rfl,_,rfl,d.1,d.2.1,d.2.2.1,d.2.2.2,n,rfl,S11 _ _ (O10.hd d md),rul,_,rfl,.inl ⟨rfl,_,rfl,?_⟩⟩;rw[qiY,show (prR d.2.1 d.2.2.1 d.2.2.2 n != c)=pr0 n from (hpr n).symm];refine qcE (fun gg=>?_) (fun gg=>?_)
         · refine⟨_,rfl,_,rfl,qp (Nat.le_of_ble_eq_true rfl),fun v fv=>⟨ys,(Same.new _ fv) _ _ hD,qB (by omega),_,_,rfl,(S11.trans (Same.new _ fv)).put fD _,qb,?_⟩⟩;rw[es,if_pos gg,List.map_append];exact((ty.same (Same.new _ fv)).snoc (p:=dup n) qb).put ((Same.new _ fv) _ _ hD)
         · refine⟨_,ys,rfl,S11,hD,?_⟩;rw[es,if_neg (by rw[show pr0 n=false from gg];decide),List.append_nil];exact ty
       rintro σ H11 ⟨c0,ys,rfl,S11,hD,ty⟩;rw[List.length_map,List.take_length]at ty;have luf:(us.filter pr0).length≤1000:=Nat.le_trans (List.length_filter_le _ _) lus;refine⟨D,(us.filter pr0).map dup,rfl,⟨ys,hD,ty⟩,qer (asu.sublist List.filter_sublist) luf,fun dq rd H12 fdq S12 Rd cd ld mdd=>?_⟩;have memd:∀ n,Mem rd n↔n∈us∧pr0 n=true:=fun n=>by rw[mdd,qff,List.mem_filter]
       rw[List.length_map]at ld;have S112:=S11.trans S12;have ndl:dq≠l:=fun z=>by rw[z,S11 _ _ el10]at fdq;cases fdq
       clear hD ty fdq S11 S12 mdd fD;(try unfold qE);(try dsimp only);have O12:=O10.ntr (Same.nt S112);obtain⟨zq,hzq,tzq⟩:=id O12.hR;refine fun td ftd=>⟨_,rfl,.inl ⟨nq,_,_,_,rfl,rfl,SqL.of ((Same.new (.dK []) ftd) _ _ O12.hn),rfl,_,rfl,q,zq,rfl,.inl (SqL.of ((Same.new (.dK []) ftd) _ _ hzq)),fun lc flc tx dtx f1 f2 ne=>?_⟩⟩
       have Sd:=Same.new (.dK []) ftd;have Sl:=Same.new (.lst zq) flc;have Sm:Same _ (upd (upd _ dtx (.own tx)) tx (.ins a.c_Table dtx [])):=up2 f1 f2;have Rl0:Rs (upd (upd H12 td (.dK [])) lc (.lst zq)) lc rows:=⟨zq,qb,TupL.same tzq (Sd.trans Sl)⟩
       refine⟨tx,dtx,lc,rows,rfl,qb,Rl0.same Sm,good,fun Gt Bt tbl=>⟨rfl,?_⟩⟩;have SGt:Same H12 Gt:=Sd.trans (Sl.trans (zK f1 f2 Bt));have hdt:Gt td=some (.dK []):=(Sl.trans (zK f1 f2 Bt)) _ _ qb;refine⟨hdt,[(Sum.inr n0,.ref tx)],rfl,(Nat.le_of_ble_eq_true rfl),?_⟩;rw[show JP [] [((Sum.inr n0:Key),V.ref tx)]=dkv [(n0,tx,rows)] from rfl];have S13':Same H12 (upd Gt td (.dK (dkv [(n0,tx,rows)]))):=SGt.put ftd _;have tq:Tq a (upd Gt td (.dK (dkv [(n0,tx,rows)]))) td [(n0,tx,rows)]:=⟨qb,fun z m=>by rw[List.mem_singleton.mp m];exact tbl.putD hdt _,fun z m=>by rw[List.mem_singleton.mp m];exact good,List.pairwise_singleton _ _⟩
       generalize upd Gt td (.dK (dkv [(n0,tx,rows)]))=H13 at S13' tq ⊢;have S13:=S112.trans S13';have R13:=Rd.same S13';have B13:But l H10 H13:=fun b o e _=>S13 b o e;have el13:=S13 _ _ el10;have E13:=E10.but el10 B13;have due:=qfG (rows:=rows) tx hw;have hasp:pl=""∨pl∈[(n0,tx,rows)].map (·.1):=hw.symm.imp (fun h=>h.2.1) fun h=>List.mem_singleton.mpr h.2;have mem0:∀ n,Mem rd n↔ME [(n0,tx,rows)] wd pl lo hi n∧pr0 n=true:=fun n=>by rw[memd,mu,jU tq.nd due]
       have mem1:∀ n,ME [(n0,tx,rows)] wd pl lo hi n->n∈us:=fun n h=>(mu n).mpr ((jU tq.nd due n).mpr h);clear S112 S13' SGt hdt Sd Sl Sm Rl0 tbl Bt f1 f2 ne ftd flc hzq tzq O12 Rd memd;(try unfold qE);(try dsimp only);refine⟨_,rfl,x,dx,_,rfl,E13.hx,rfl,_,rfl,x,dx,xp,f,td,l,g,n1,wd,nm,pl,lo,hi,_,[],pr0,rfl,E13.hx,E13.en,qd6 hw,sp,E13.nt,E13.sf,el13,(by decide),tq,.inl ⟨hasp,fun d1 rr ks H14 fd1 C14 hl14 mk lk R14 c14 l14 m14=>?_⟩⟩;have er:rr=rd:=J9 c14 cd fun n=>(m14 n).trans (mem0 n).symm;subst er;have B14:=B13.trans C14;refine⟨_,rfl,d1,dq,rr,rfl,R14,R13.bl ndl el13 C14,by omega,fun H15 S15=>⟨true,rfl,zf rfl ?_⟩⟩;have B15:=B14.same S15;have C15:=C14.same S15;have hl15:=S15 _ _ hl14;have E15:=E10.but el10 B15;refine⟨_,rfl,x,dx,_,rfl,E15.hx,rfl,_,rfl,x,dx,xp,f,td,l,g,n1,wd,nm,pl,lo,hi,_,_,pr0,rfl,E15.hx,E15.en,qd6 hw,sp,E15.nt,E15.sf,hl15,(by rw[List.nil_append];omega),tq.bl el13 C15,.inl ⟨hasp,fun d2 rr2 ks2 H16 fd2 C16 hl16 mk2 lk2 R16 c16 l16 m16=>?_⟩⟩;have er:rr2=rr:=J9 c16 cd fun n=>(m16 n).trans (mem0 n).symm;subst er;have B16:=B15.trans C16;refine⟨_,rfl,d2,dq,rr2,rfl,R16,R13.bl ndl el13 (C15.trans C16),by omega,fun H17 S17=>⟨true,rfl,zf rfl ?_⟩⟩;have B17:=B16.same S17;have hl17:=S17 _ _ hl16;have E17:=E10.but el10 B17;have O17:=O6.ntr (n10.but fl B17);clear E13 E15 B13 B14 B15 B16 C14 C15 C16 S13 R13 R14 R16 S15 S17 hl14 hl15 hl16 c14 c16 m14 m16 fd1 fd2 el13 tq
       have askm:∀ n,n∈([]++ks++ks2)++us↔n∈us:=fun n=>by
         rw[List.nil_append,List.mem_append,List.mem_append];exact⟨fun h=>h.elim (fun h=>h.elim (fun h=>mem1 n (mk n h)) fun h=>mem1 n (mk2 n h)) id,.inr⟩
       have lask:([]++ks++ks2).length≤2000:=by rw[List.nil_append,List.length_append];omega
       generalize []++ks++ks2=ms at hl17 askm lask;(try unfold qE);(try dsimp only);refine⟨_,rfl,_,rfl,.inr (.inl ⟨l,mq,_,_,rfl,rfl,hl17,O17.hmq,Nat.le_of_lt (qaY (by rw[List.length_map,List.length_map];omega)),fun ka fka=>?_⟩)⟩;generalize hG:upd H17 ka _=H18;obtain⟨S18,eka⟩:=zD hG fka;clear hG;rw[← List.map_append]at eka;have O18:=O17.ntr (Same.nt S18);refine⟨ka,ms++us,rfl,SqL.of eka,(by rw[List.length_append];omega),_,rfl,_,_,rfl,.inl ⟨_,SqL.of O18.hmq,rfl⟩,.inl ⟨rfl,_,rfl,zf ?_ ?_⟩⟩
       · rw[qgX ndu askm,List.length_map];exact qgH _
       obtain⟨m7,h7⟩:∃ m7:Int,atI (us.map V.int++[V.int 7]) 0=some (.int m7):=by
         cases us with
         | nil=>exact⟨7,rfl⟩
         | cons u us=>exact⟨u,show atI _ ((0:Nat):Int)=_ from Zu rfl⟩
       refine⟨_,rfl,_,rfl,_,rfl,_,rfl,qp (Nat.le_of_ble_eq_true rfl),fun k7 f7=>?_⟩;have S19:=Same.new (.lst [.int 7]) f7;refine .inr (.inl ⟨mq,k7,_,_,rfl,rfl,S19 _ _ O18.hmq,qb,Nat.le_of_lt (qaY (by rw[List.length_map];show us.length+1≤_;omega)),fun k8 f8=>?_⟩);have S20:=S18.trans (S19.trans (Same.new (.lst (us.map V.int++[.int 7])) f8));have e8:=qb (H:=upd H18 k7 (.lst [.int 7])) (a:=k8) (o:=.lst (us.map V.int++[.int 7]));generalize upd (upd H18 k7 (.lst [.int 7])) k8 (.lst (us.map V.int++[.int 7]))=H20 at S20 e8 ⊢;have O20:=O17.ntr (Same.nt S20);refine .inl ⟨k8,_,_,_,rfl,rfl,SqL.of e8,h7,g,d.1,d.2.1,d.2.2.1,d.2.2.2,m7,c,pr0,rfl,E17.sf.mp (Same.nt S20).ext,O20.hd d md,rul,hpr,fun H21 S21=>⟨true,rfl,zf rfl ?_⟩⟩;have B21:=B17.same (S20.trans S21);have hl21:=(S20.trans S21) _ _ hl17;have E21:=E10.but el10 B21;have O21:=O20.ntr (Same.nt S21);clear S18 S19 S20 S21 O20 O18 O17 E17 B17 hl17 e8 eka f7 f8 fka h7;(try unfold qE);(try dsimp only);refine⟨_,rfl,x,dx,_,rfl,E21.hx,rfl,_,rfl,.inl ⟨rfl,_,rfl,zf (qgH _) ?_⟩⟩;refine⟨_,rfl,x,_,dx,_,_,rfl,E21.hx,T.cl_Sifted,T.n_Sifted_name,rfl,_,rfl,.inl ⟨nq,_,_,_,rfl,rfl,SqL.of O21.hn,rfl,.inl ⟨rfl,_,rfl,zf (qgH _) ?_⟩⟩⟩;refine⟨_,rfl,x,dx,_,rfl,E21.hx,rfl,x,dx,xp,f,n1,wd,nm,pl,lo,hi,rfl,E21.hx,E21.en,qd6 hw,sp,fun lp flp=>?_⟩;generalize hG:upd H21 lp _=H22;obtain⟨S22,elp⟩:=zD hG flp;clear hG flp;have O22:=O21.ntr (Same.nt S22);refine⟨Nat.zero_le _,fun a1 fa1=>?_⟩;generalize hG:upd H22 a1 _=H23;obtain⟨S23',ea1⟩:=zD hG fa1;clear hG fa1;have O23:=O22.ntr (Same.nt S23');refine⟨_,rfl,.inl ⟨nq,_,_,_,rfl,rfl,SqL.of O23.hn,rfl,?_⟩⟩;refine⟨qp (Nat.le_of_ble_eq_true rfl),fun a2 fa2=>?_⟩;generalize hG:upd H23 a2 _=H24;obtain⟨S24',ea2⟩:=zD hG fa2;clear hG fa2;refine⟨qp (Nat.le_of_ble_eq_true rfl),fun a3 fa3=>?_⟩;generalize hG:upd H24 a3 _=H25;obtain⟨S25,ea3⟩:=zD hG fa3;clear hG fa3;have S2225:=S23'.trans (S24'.trans S25);have O25:=O22.ntr (Same.nt S2225);refine⟨_,rfl,.inr (.inl ⟨s,_,_,_,rfl,rfl,SqT.of O25.hs,rfl,.inl ⟨rfl,.inr ⟨_,rfl,?_⟩⟩⟩)⟩;rw[Qa];have B25:=B21.same (S22.trans S2225);have hl25:=(S22.trans S2225) _ _ hl21;have elp25:=S2225 _ _ elp;have ea1':=(S24'.trans S25) _ _ ea1;have ea2':=S25 _ _ ea2
       have fin:∀ (Q':V->Hp->Prop),Q' (.bl false) H25->(if (!decide (pl=""))=true then rIx K (.ref a3) (.int 1) H25 (fun v H'=>qik (.ref lp) v H' Q') else rIx K (.ref a3) (.int 0) H25 (fun v H'=>qik (.ref lp) v H' Q')):=fun Q' hQ'=>by
         by_cases cpl:pl=""
         · rw[if_neg (by rw[cpl];decide)];rw[show pls pl=[] by unfold pls;rw[if_pos cpl]]at elp25;exact .inl ⟨a3,_,_,_,rfl,rfl,SqL.of ea3,rfl,qfb (xs:=[]) (fun x m=>nomatch m) elp25 ea1' hQ'⟩
         · have hpl:pl=n0:=by rcases hw with h|h;exact h.2;exact absurd h.2.1 cpl
           rw[if_pos (by rw[decide_eq_false cpl];rfl)];rw[show pls pl=[n0] by unfold pls;rw[if_neg cpl,hpl]]at elp25;exact .inl ⟨a3,_,_,_,rfl,rfl,SqL.of ea3,rfl,qfb (xs:=[n0]) (fun x m=>by rw[List.mem_singleton.mp m];exact qiA okn0) elp25 ea2' hQ'⟩
       have E25:=E10.but el10 B25;clear S22 S23' S24' S25 S2225 elp ea1 ea2 O22 O23 O21 E21 B21 hl21
       have fin2:∀ (Q':V->Hp->Prop),Q' (.bl false) H25->rIx K (.ref a3) (.int (if (!decide (pl=""))=true then 1 else 0)) H25 (fun v H'=>qik (.ref lp) v H' Q'):=fun Q' hQ'=>by
         have:=fin Q' hQ'
         by_cases cpl:(!decide (pl=""))=true
         · rw[if_pos cpl]at this ⊢;exact this
         · rw[if_neg cpl]at this ⊢;exact this
       refine fin2 _ ⟨_,rfl,qdu ?_⟩;clear fin fin2 elp25 ea1' ea2' ea3;(try unfold qE);(try dsimp only);refine⟨_,rfl,_,_,_,_,rfl,T.io_Sifted.ty E25.hx,JU T,true,rfl,zf rfl ?_⟩;refine⟨_,rfl,qp (Nat.le_of_ble_eq_true rfl),fun tp ftp=>?_⟩;have S26:=Same.new (.tup [.ref a.c_Within,.ref a.c_Between]) ftp;refine⟨x,tp,a.c_Sifted,a.c_Within,a.c_Between,dx,_,rfl,S26 _ _ E25.hx,T.io_Sifted,qb,Jb T,jz T,false,rfl,zf rfl ?_⟩;generalize upd H25 tp (.tup [.ref a.c_Within,.ref a.c_Between])=H26 at S26 ⊢;have B26:=B25.same S26;have hl26:=S26 _ _ hl25;have E26:=E10.but el10 B26;have O26:=O25.ntr (Same.nt S26);refine qgd T (fun R h=>⟨_,rfl,x,_,dx,_,_,rfl,E26.hx,T.cl_Sifted,T.n_Sifted_part,rfl,h⟩) E26.en w3 ?_;refine⟨_,rfl,.inr (.inl ⟨s,_,_,_,rfl,rfl,SqT.of O26.hs,rfl,.inl ⟨rfl,_,rfl,zf (qgH _) ?_⟩⟩)⟩;(try unfold qE);(try dsimp only)
       have npl:pl≠n1:=by
         rcases hw with h|h
         · rw[h.2];exact n01
         · rw[h.2.1];exact(qbf okn1).symm
       refine⟨_,rfl,_,rfl,.inr (.inl ⟨s,_,_,_,rfl,rfl,SqT.of O26.hs,rfl,_,rfl,.inl ⟨nq,_,_,_,rfl,rfl,SqL.of O26.hn,rfl,x,dx,xp,f,l,g,n1,wd,nm,pl,n1,lo,hi,ms,pr0,rfl,E26.hx,E26.en,qd6 hw,sp,E26.nt,E26.sf,hl26,by omega,npl,fun H27 C27=>⟨true,rfl,zf rfl ?_⟩⟩⟩)⟩;have B27:=B26.trans C27;exact⟨_,_,_,_,_,_,_,_,rfl,n6.trans (n10.but fl B27),tb10.butL el10 B27⟩
     · rintro σ H5 ⟨s9,s10,s11,s12,s13,s14,s15,s16,rfl,n5,tb5⟩;exact hN _ _ ⟨n5,tb5⟩
   rintro σ5 H5 ⟨n5,tb5⟩;exact kkb H5 n5 tb5
end
def qgk (K:Frag) (t0 t1 t2 t3 t4:Addr):Sp:=fun vs H Q _=>∃ (sa:Addr) (ns:List Int),vs=[.ref sa]∧SqL K H sa (ns.map V.int)∧ns.length≤63∧(TbA H t0 zX∧TbA H t1 QR∧TbA H t2 zF∧TbA H t3 QG∧TbA H t4 zY)∧∀ H',Q (.bl true) H'
theorem qji {H:Hp}{T:Addr}{l:List (Pos×Str)} (h:H T=some (.tbl #[])):TbA H T l:=⟨#[],h,True.intro,fun x _=>.inl rfl⟩
theorem qkE {K:Frag}{H H':Hp}{sa:Addr}{xs:List V} (h:SqL K H sa xs) (k:∀ o,H sa=some o->(∀ ps,o≠.tbl ps)->H' sa=some o):SqL K H' sa xs:=by
 rcases h with (h|⟨o,h⟩)|h
 · exact .inl (.inl (k _ h (by intro p z;cases z)))
 · exact .inl (.inr ⟨o,k _ h (by intro p z;cases z)⟩)
 · exact .inr h
section
variable {P:Program}{w:World}{K:Frag}{mg:Str->Option Value}{base:Heap}
theorem qgE {a:Ad} (T:Txt K mg a):qx P w K mg base CX0 1 a.f_L a.fd_L ["_law_script","_law_k"] (qc2 K):=by
 refine T.d_L.F.ok qgo (fun vs H Q E h=>?_) (fun cdv A outer s H vs Q E hr h=>?_)
 · obtain⟨b,ns,j,rfl,hS,j0,k⟩:=h;rfl
 · obtain⟨b,ns,j,rfl,hS,j0,k⟩:=h;have hU:=hr.units
   refine⟨_,(qf (qK (qy qjI (pv 1) (ql zx (by rfl) T.n_len qT (qa (pv 0) qc)) (qz _))
       (qg (qv (qC (r:=rIx K) qt (pv 0) (pv 1) (fun _ _=>rfl))))
       qw)
     (qg (qv (qo zV (qo zJ qd (pv 1)) qd)))),?_⟩
   try dsimp only [qZ,Cx.nox]
   refine⟨_,rfl,_,rfl,_,_,rfl,.inl ⟨_,hS,rfl⟩,_,_,rfl,rfl,_,rfl,?_⟩;refine ZW (fun hj=>?_) (fun hj=>?_)
   · obtain⟨n,rfl⟩:=Int.eq_ofNat_of_zero_le j0;rw[List.length_map]at hj;have hn:n < ns.length:=by omega
     refine⟨_,rfl,_,rfl,.inl ⟨b,_,_,.int ns[n],rfl,rfl,hS,Zu (by rw[List.getElem?_map,List.getElem?_eq_getElem hn];rfl),?_⟩⟩;exact k _
   · exact⟨_,rfl,_,_,rfl,rfl,.inl ⟨by decide,by decide⟩,.inl ⟨_,_,rfl,rfl,k _⟩⟩
theorem qjM {a:Ad} (T:Txt K mg a) (hB:qch mg base):qx P w K mg base CX0 11 a.f_aa a.fd_aa ["_law_script"] (qgk K a.t_on_days a.t_daily a.t_opposite a.t_Lsieve a.t_Lnoting):=by
 have G_M:=qe6 (P:=P) (w:=w) (base:=base) T;have G_N:=qe4 (P:=P) (w:=w) (base:=base) T;have G_O:=qgB (P:=P) (w:=w) (base:=base) T;have G_L:=qgE (P:=P) (w:=w) (base:=base) T;have G_U:qx P w K mg base CX0 10 a.f_U a.fd_U ["_law_state","_law_spec","_law_rows_here","_law_names_here"] (qbt a):=qe3 T hB;have G_R:=qgC (P:=P) (w:=w) (base:=base) T;refine T.d_aa.F.ok sc_law (fun vs H Q E h=>?_) (fun cdv A outer s H vs Q E hr h=>?_)
 · obtain⟨sa,ns,rfl,hS,l63,⟨q0,q1,q2,q3,q4⟩,kk⟩:=h;rfl
 · obtain⟨sa,ns,rfl,hS,l63,⟨q0,q1,q2,q3,q4⟩,kk⟩:=h;have h_M:Room (1) _:=hr.mono (by decide);have h_N:Room (3) _:=hr.mono (by decide);have h_O:Room (4) _:=hr.mono (by decide);have h_L:Room (1) _:=hr.mono (by decide);have h_U:Room (10) _:=hr.mono (by decide);have h_R:Room (3) _:=hr.mono (by decide)
   refine⟨_,(qf (QZ PassesOwn.never rfl (jc rfl T.n_range (qa (ql (zg rfl) (by rfl) T.n_max zh (qa qd (qa (ql (zL rfl) (by rfl) T.n_min zM (qa qd (qa (ql zx (by rfl) T.n_len qT (qa (pv 0) qc)) qc))) qc))) qc)) (qm (i:=1) (sc_law.nd) rfl (Or.inl rfl))
       (qf (qA (i:=2) sc_law.nd rfl (Or.inl rfl) (qj G_M h_M rfl T.d_M.m T.d_M.k T.d_M.b .nil qr (qa (qj G_L h_L rfl T.d_L.m T.d_L.k T.d_L.b .nil qr (qa (pv 0) (qa (pv 1) qc))) qc)))
       (qf (qA (i:=3) sc_law.nd rfl (Or.inl rfl) (qj G_N h_N rfl T.d_N.m T.d_N.k T.d_N.b .nil qr (qa (pv 2) (qa qd qc))))
       (qf (qA (i:=4) sc_law.nd rfl (Or.inl rfl) (qj G_O h_O rfl T.d_O.m T.d_O.k T.d_O.b .nil qr (qa (pv 2) qc)))
       (qg (qK (qX (qP (qj G_U h_U rfl T.d_U.m T.d_U.k T.d_U.b .nil qr (qa (pv 2) (qa (qj G_R h_R rfl T.d_R.m T.d_R.k T.d_R.b .nil qr (qa (pv 2) (qa (qC (r:=rIx K) qt (pv 3) qd (fun _ _=>rfl)) (qa (qC (r:=rIx K) qt (pv 3) qd (fun _ _=>rfl)) (qa (pv 4) qc))))) (qa (pv 4) (qa (pv 3) qc)))))))
         (qg (qv ZT))
         qw))))))
     (qg (qv ZT))),?_⟩
   try dsimp only [qZ,Cx.nox]
   refine⟨_,rfl,_,_,rfl,.inl ⟨_,hS,rfl⟩,_,_,rfl,_,_,rfl,_,rfl,?_,?_,JZ (lo:=0) (D:={ nx:=qh6 (tC (.bl true)) { nx:=fun _ H'=>Q .non H',rt:=Q },rt:=Q }) (fun i σ H2=>∃ s1 s2 s3 s4:Option V,σ=[some (.ref sa),s1,s2,s3,s4]∧SqL K H2 sa (ns.map V.int)∧Tbs a H2) ⟨_,_,_,_,rfl,hS,⟨q0,q1,q2,q3,q4⟩⟩ ?_ ?_⟩
   · rw[List.length_map];split<;>split<;>omega
   · rw[List.length_map];split<;>split<;>omega
   · rintro i σ H2 hi ⟨s1,s2,s3,s4,rfl,hS2,tb2⟩;refine⟨_,rfl,_,rfl,sa,ns,_,rfl,hS2,(by omega),fun c=>⟨c,rfl,fun p A B fp A0=>?_⟩⟩;generalize hG:upd H2 p _=G1;obtain⟨S1,e1⟩:=zD hG fp;clear hG;have p1:PenAt G1 p:=⟨A,B,0,A0,e1⟩
     try unfold qE
     try dsimp only
     refine⟨_,rfl,p,3,rfl,p1,by decide,by decide,fun q nsm G2 fq B2 p2 hq lq nms=>?_⟩;have nq:q≠p:=p1.ne fq
     obtain⟨n0,n1,n2,rfl⟩:∃ n0 n1 n2,nsm=[n0,n1,n2]:=by
       match nsm,lq with
       | [x,y,z],_=>exact⟨x,y,z,rfl⟩
       | [],h=>simp at h
       | [_],h=>simp at h
       | [_,_],h=>simp at h
       | _::_::_::_::r,h=>simp at h;omega
     have ok0:=nms.nm n0 (by simp);have ok1:=nms.nm n1 (by simp);have ok2:=nms.nm n2 (by simp)
     have n01:n0≠n1:=by
       have:=nms.nd
       simp only[List.nodup_cons,List.mem_cons,not_or]at this;exact this.1.1
     try unfold qE
     try dsimp only
     refine⟨_,rfl,p,rfl,p2,fun rq rows G3 frq B3 p3 R3 good=>?_⟩;have hq3:=B3 _ _ hq nq;(try unfold qE);(try dsimp only);refine⟨_,rfl,_,rfl,_,rfl,.inl ⟨q,_,_,_,rfl,rfl,SqL.of hq3,rfl,_,rfl,.inl ⟨q,_,_,_,rfl,rfl,SqL.of hq3,rfl,_,rfl,p,rq,n2,n0,rows,rfl,p3,ok2,ok0,R3,good,fun s wd pl lo hi G4 fs B4 p4 hs sp hw=>?_⟩⟩⟩;have hq4:=B4 _ _ hq3 nq;have R4:=R3.bp p3 B4;have tb4:=((tb2.same S1).butP p1 (B2.trans (B3.trans B4)))
     refine⟨_,rfl,_,rfl,p,s,rq,q,wd,n2,pl,n0,n1,n2,lo,hi,rows,rfl,p4,tb4,hs,sp,hw,R4,good,hq4,ok0,ok1,n01,fun H5 nb tb5=>⟨true,rfl,zf rfl ?_⟩⟩;refine⟨_,_,_,_,rfl,qkE hS2 fun o e nt=>?_,tb5⟩;have np:sa≠p:=qh e fp;exact nb _ _ ((B2.trans (B3.trans B4)) _ _ (S1 _ _ e) np) nt np
   · rintro σ H2 ⟨s1,s2,s3,s4,rfl,_,_⟩;exact kk H2
end
theorem len_0 {p:List Value->Prop} (h:p []):∀ us:List Value,us.length=0->p us:=fun us hl=>by
 cases us with
 | nil=>exact h
 | cons a t=>cases hl
theorem len_1 {p:List Value->Prop} (h:∀ a,p [a]):∀ us:List Value,us.length=1->p us:=fun us hl=>by
 cases us with
 | nil=>cases hl
 | cons a t=>exact len_0 (p:=fun t=>p (a::t)) (h a) t (Nat.succ.inj hl)
theorem len_2 {p:List Value->Prop} (h:∀ a b,p [a,b]):∀ us:List Value,us.length=2->p us:=fun us hl=>by
 cases us with
 | nil=>cases hl
 | cons a t=>exact len_1 (p:=fun t=>p (a::t)) (h a) t (Nat.succ.inj hl)
theorem len_3 {p:List Value->Prop} (h:∀ a b c,p [a,b,c]):∀ us:List Value,us.length=3->p us:=fun us hl=>by
 cases us with
 | nil=>cases hl
 | cons a t=>exact len_2 (p:=fun t=>p (a::t)) (h a) t (Nat.succ.inj hl)
theorem len_4 {p:List Value->Prop} (h:∀ a b c d,p [a,b,c,d]):∀ us:List Value,us.length=4->p us:=fun us hl=>by
 cases us with
 | nil=>cases hl
 | cons a t=>exact len_3 (p:=fun t=>p (a::t)) (h a) t (Nat.succ.inj hl)
theorem len_5 {p:List Value->Prop} (h:∀ a b c d e,p [a,b,c,d,e]):∀ us:List Value,us.length=5->p us:=fun us hl=>by
 cases us with
 | nil=>cases hl
 | cons a t=>exact len_4 (p:=fun t=>p (a::t)) (h a) t (Nat.succ.inj hl)
theorem mkDf {K:Frag}{h:Heap}{mg:Str->Option Value} (X:K.In h) (G:h.Ns mainGlobals mg) {x:Str}{st:Stmt}{ps:List Str}{f:Addr}{oc:Value}{od an:Option Addr}{osl:Array (Option Value)}{kV doc pm cdv ct:Value} (a:nsIn K mainGlobals x=some (some (.ref f))) (l:K.lookup f=some ⟨oc,od,.func (fnOf x x (Qh st) (qM st) (qe st) .none kV doc pm an cdv ct),osl⟩) (c:codeIn K cdv x=true) (k:keepIn K (.ref f)=true) (hb:∀ (kV doc pm:Value) (an:Option Addr) (cdv ct:Value) (us:List Value),us.length=ps.length->bindArgs (fnOf x x (Qh st) (qM st) (qe st) .none kV doc pm an cdv ct) ⟨us,[]⟩=pure (ps.zip us)):Df K mg x st ps f (fnOf x x (Qh st) (qM st) (qe st) .none kV doc pm an cdv ct):=⟨qdy l c k,(qdy l c k).binds hb,PySem.W.mg_of X G a,k⟩
theorem mkDm {K:Frag}{C:Addr}{x q:Str}{st:Stmt}{ps:List Str}{f:Addr}{oc:Value}{od an:Option Addr}{osl:Array (Option Value)}{kV doc pm cdv ct:Value} (m:qf5 K C x f) (l:K.lookup f=some ⟨oc,od,.func (fnOf x q (Qh st) (qM st) (qe st) .none kV doc pm an cdv ct),osl⟩) (c:codeIn K cdv q=true) (k:keepIn K (.ref f)=true) (hb:∀ (kV doc pm:Value) (an:Option Addr) (cdv ct:Value) (us:List Value),us.length=ps.length->bindArgs (fnOf x q (Qh st) (qM st) (qe st) .none kV doc pm an cdv ct) ⟨us,[]⟩=pure (ps.zip us)):DfM K C x q st ps f (fnOf x q (Qh st) (qM st) (qe st) .none kV doc pm an cdv ct):=⟨qdy l c k,(qdy l c k).binds hb,m⟩
theorem all2 {l:PySem.W.OpenLaw}{w:World}{K:Frag}{h:Heap}{mg:Str->Option Value}{fa:Addr} (X:K.In h) (G:h.Ns mainGlobals mg) (hfa:mg "law"=some (.ref fa)) {a:Ad} (T:Txt K mg a)
   : ∃ fd:FuncData,(∀ (s:Shared) (v:Value),BindsTo s fd ⟨[v],[]⟩ [("_law_script",v)])∧∀ base:Heap,K.In base->base.Ns mainGlobals mg->qch mg base->qx l.prog w K mg base CX0 11 fa fd ["_law_script"] (qgk K a.t_on_days a.t_daily a.t_opposite a.t_Lsieve a.t_Lnoting):=by
 have e:=hfa.symm.trans T.d_aa.m;obtain⟨oc,od,kV,doc,pm,an,cdv,ct,osl,e2,lk,hcd⟩:=T.d_aa.F.ex;cases e;exact⟨a.fd_aa,fun s v=>by rw[e2];exact .of_eq rfl,fun base _ _ hB=>qjM T hB⟩
theorem walk {l:PySem.W.OpenLaw}{q:Program}{loose:List Str}{XP:(Str->Option Value)->Heap->Prop}{YP:World->Heap->Prop}{d:DefRec}{K:Params->Frag}{t0 t1 t2 t3 t4:Addr} (hn:l.most=some 63) (hdf:d.params.defaults=[])
   (hY:∀ (w:World) (h:Heap),YP w h->(K w.params).In h∧(∀ u∈[t0,t1,t2,t3,t4],h.get? u=some (PySem.W.tabObj #[]))∧(∀ u∈[t0,t1,t2,t3,t4],isCodeTable h u)∧∀ u∈[t0,t1,t2,t3,t4],(K w.params).lookup u=none)
   (F:∀ (w:World) (mg:Str->Option Value) (fa:Addr) (h:Heap),(K w.params).In h->h.Ns mainGlobals mg->mg d.name=some (.ref fa) ->
     ∃ fd:FuncData,(∀ (s:Shared) (u:Value),BindsTo s fd ⟨[u],[]⟩ [("_law_script",u)])∧∀ base:Heap,(K w.params).In base->base.Ns mainGlobals mg->qch mg base->qx l.prog w (K w.params) mg base CX0 11 fa fd ["_law_script"] (qgk (K w.params) t0 t1 t2 t3 t4)) :
   PySem.W.WalkO q loose XP YP l.row.toRowW d [] (fun f vs=>PySem.call f vs) :=
 L2.walk_ofT (ts:=[t0,t1,t2,t3,t4]) (n:=63) (k:=11) (x:="_law_script") (CX:=fun _=>CX0) (sp:=fun w=>qgk (K w.params) t0 t1 t2 t3 t4) hn (by decide) hdf ⟨rfl,by decide,by decide,rfl⟩ hY F (fun _ _ a ns hl _ hT hS=>⟨a,ns,rfl,hS,hl,⟨qji (hT t0 (by simp)),qji (hT t1 (by simp)),qji (hT t2 (by simp)),qji (hT t3 (by simp)),qji (hT t4 (by simp))⟩,fun _=>rfl⟩) fun _ _ _ _ _ z=>z
end K33
open PySem PySem.W PyProof.Rows
namespace PySem.W.Fast
def tw8325360525698410706:=0
def tw16166038291381307546:=0
def tw15253267715183730045:=0
def tw3041711303730553794:=0
def tw11757371302380511798:=0
def tw4557132547205058972:=0
def tw8415857237303186940:=0
def tw3549299061967359618:=0
def tw12555265162093311550:=0
def tw1026105201583568741:=0
def tw10230901315370923959:=0
def tw6639555222650470176:=0
def tw14845240409023065083:=0
def tw5719051119648111138:=0
def tw5601478219485936830:=0
def tw7507401481861332539:=0
def tw6152876251172295760:=0
def tw15181337684508145375:=0
def tw1152268134547954943:=0
def tw13041819555604839861:=0
def tw5163819303607241761:=0
def tw2572884628807440104:=0
def tw11409099499543988214:=0
def tw14390000613172050572:=0
def tw15438831766943023915:=0
def tw7261101571682554779:=0
def tw1595400155285757835:=0
def tw1010119231946780117:=0
def tw538980437912552217:=0
def tw14545044544396726756:=0
def tw6689665057684630821:=0
def tw11181139274224366250:=0
def tw2108278675636028293:=0
def tw294632714020621402:=0
def tw4771321508849883441:=0
def tw17159251076870502706:=0
def tw3684343014400559294:=0
def tw6124892879164478887:=0
def tw6998926179760223132:=0
def tw420583492363987689:=0
def tw656954968043971053:=0
def tw11540940837098386037:=0
def tw8325168415695576736:=0
def tw17499841603950184285:=0
def tw2490626759606175342:=0
def tw9650712606038225708:=0
def tw15358581824392676677:=0
def tw13561244604891538662:=0
def tw7953792419313466553:=0
def tw2262721514203642854:=0
def tw13633045870220590641:=0
def tw5704150456601893011:=0
def tw15423079051839222588:=0
def tw9619170966410864448:=0
def tw11068972539857299067:=0
def tw5214311007509845811:=0
def tw15589425353309427974:=0
def tw10399893441763746812:=0
def tw9343576139522991014:=0
def tw5697628649850780956:=0
def tw543273292278399681:=0
def tw2436629139050657378:=0
def tw10414026107319123269:=0
def tw1074018078768618537:=0
def tw1105728394180068379:=0
def tw10841892445585980040:=0
def tw13143813821998139796:=0
def tw8242373668714376592:=0
def tw15379404826617739411:=0
def tw12431437392526918763:=0
def tw7395829807282392208:=0
def tw18133790307020568020:=0
def tw10965403938943782114:=0
def tw1994219501586702371:=0
def tw10405744034676984541:=0
def tw12466299194087207353:=0
def tw302581040802690585:=0
def tw18278795462109730905:=0
def tw4941050765807499954:=0
def tw5031249338228963954:=0
def tw10872324869296025721:=0
def tw8851102597219657629:=0
def tw5132700974892358082:=0
def tw9231146340201781004:=0
def tw17551904867011219237:=0
def tw4945802005130079215:=0
def tw14468337420678176594:=0
def tw2568020520385532948:=0
def tw16391824548252867811:=0
def tw10285585600779852698:=0
def tw15775567097924458136:=0
def tw8079004689495415514:=0
def tw8597247524126405472:=0
def tw6323871661852175896:=0
def tw17779692044150767443:=0
def tw9080363967792492914:=0
def tw8617927020490095636:=0
def tw12232590395665152089:=0
def tw9340425179378871994:=0
def tw17356410292740876187:=0
def tw6443356656243404261:=0
def tw16212835623679720603:=0
def tw550485602858468003:=0
def tw15951042362816105448:=0
def tw2123540195573529706:=0
def tw17526832050292075674:=0
def tw13043810422193508587:=0
def tw11022691471019063133:=0
def tw190677095833793839:=0
def tw13273339007987469000:=0
def tw14872619719026610584:=0
def tw8912381491617722131:=0
def tw2296675662673219650:=0
def tw1563026516137415173:=0
def tw6292839532045769523:=0
def tw8962023144081119046:=0
def tw16822952718009101982:=0
def tw15406237866903489223:=0
def tw6135518144565609574:=0
def tw12151262039163556129:=0
def tw4295328718538575231:=0
def tw18146133328150830817:=0
def tw18086132113132956719:=0
def tw9850683401089403442:=0
def tw4898262234758159750:=0
def tw3801478327706808863:=0
def tw13256429907936636916:=0
def tw2252759317829013027:=0
def tw13897514018771672512:=0
def tw13930442221540875956:=0
def tw1466260560592088399:=0
def tw11211976030980774213:=0
def tw5803968003592249709:=0
def tw4607370169456434554:=0
def tw12923545054967409996:=0
def tw6970569061114668271:=0
def tw60670589045916045:=0
def tw3391214324042773153:=0
def tw5913327288971205723:=0
def tw2998241257573907307:=0
def tw7453406006073752929:=0
def tw10009365130866739560:=0
def tw1801318591488821755:=0
def tw1763989810782751375:=0
def tw5411465450264231807:=0
def tw2614504183397126690:=0
def tw12021352315195543020:=0
def tw14326864496865645162:=0
def tw1352632678559832446:=0
def tw4401216354638179690:=0
def tw9509025366987967629:=0
def tw7860650505785557784:=0
def tw16017455460890179783:=0
def tw10882695442182780136:=0
def tw885735741840668141:=0
def tw7991504995512301970:=0
def tw6896941777569822358:=0
def tw16142585631483197145:=0
def tw10712186624121601757:=0
def tw6042261444053288018:=0
def tw2180915462278559094:=0
def tw13808031750538956991:=0
def tw986692108426221695:=0
def tw8711853954698781682:=0
def tw18051122407846509167:=0
def tw9289801006507824583:=0
def tw12253897320657408233:=0
def tw15790882402718577560:=0
def tw8264004499884707335:=0
def tw4892100846882785573:=0
def tw6327354028320277991:=0
def tw5109729204319109821:=0
def tw3345188701925360414:=0
def tw17977531825979529523:=0
def tw13864035919611061979:=0
def tw1714422432871778787:=0
def tw15163162151712207277:=0
def tw8264474015804815683:=0
def tw11886040235595584761:=0
def tw10522045488974619550:=0
def tw17293262505680267722:=0
def tw17743447729132751180:=0
def tw16804174215561455881:=0
def tw14905134896247098533:=0
def tw7556770976409553514:=0
def tw2940375169320230011:=0
def tw7079671417276861383:=0
def tw14440019787037460531:=0
def tw7394113239836032771:=0
def tw4950267344807865311:=0
def tw7493243510252697115:=0
def tw5599534944183212779:=0
def tw7162414687476225452:=0
def tw14553564411982853782:=0
def tw13749738459466506602:=0
def tw8152885572836959350:=0
def tw13314103971531425258:=0
def tw16166850635776889060:=0
def tw14460503688599866405:=0
def tw8752657164509828157:=0
def tw7238454935161404640:=0
def tw4816039629747783146:=0
def tw15482719488755590969:=0
def tw4967846466271977592:=0
def tw2154254672180417812:=0
def tw2242304830597664340:=0
def tw10501055332972094263:=0
def tw7522471275925258084:=0
def tw5226151020888347469:=0
def tw15333411061817569881:=0
def tw1276750865778702802:=0
def tw12431637333621990670:=0
def tw9619530069307531101:=0
def tw6900365775732346876:=0
def tw16012261758225068030:=0
def tw17348369830782274310:=0
def tw842628011548014561:=0
def tw3047595908477477136:=0
def tw794813669944428261:=0
def tw8599727331702719986:=0
def tw5583792749742252606:=0
def tw4969544265764563905:=0
def tw3251885452836765236:=0
def tw2435374060846690065:=0
def tw1902844580857145336:=0
def tw18117647949878768999:=0
def tw1735100991476061414:=0
def tw15513585700906512766:=0
def tw3379487223852657417:=0
def tw15351999836504006756:=0
def tw15944062920761569111:=0
def tw13787781092418748991:=0
def tw563092466919835986:=0
def tw3938518214575562565:=0
def tw11593230634456782641:=0
def tw4799996860887174710:=0
def tw9064268325052992719:=0
def tw9251108098916460608:=0
def tw9604415660586714214:=0
def tw3996489274173780918:=0
def tw6786341835105682545:=0
def tw13313758796241282259:=0
def tw12692051272756125709:=0
def tw13817987083360475029:=0
def tw8862838296302567495:=0
def tw9530967125775482458:=0
end PySem.W.Fast
set_option maxHeartbeats 0 in
theorem PySem.Challenge.cw_foldlog_k33_sifted_entries_holds : PySem.Challenge.rw_foldlog_k33_sifted_entries.Holds := by
 w_on;o_law;km_head;(case hw=>w_witness2)
 k_fill
 refine K33.walk (t0:=485) (t1:=492) (t2:=499) (t3:=695) (t4:=702) (l:=PySem.Challenge.rw_foldlog_k33_sifted_entries) rfl rfl (fun w h Y=>by
   refine⟨PySem.W.km_in_of Y,fun u m=>?_,fun u m=>?_,fun u m=>?_⟩<;>simp only[List.mem_cons,List.not_mem_nil,or_false]at m<;>rcases m with rfl|rfl|rfl|rfl|rfl
   · exact PySem.W.km_tabs_of Y 485 (by decide)
   · exact PySem.W.km_tabs_of Y 492 (by decide)
   · exact PySem.W.km_tabs_of Y 499 (by decide)
   · exact PySem.W.km_tabs_of Y 695 (by decide)
   · exact PySem.W.km_tabs_of Y 702 (by decide)
   · exact((PySem.W.codeHd_of_K (c:=489) (PySem.W.km_in_of Y) (by kernel_rfl)).tab (PySem.W.km_tabs_of Y 485 (by decide))).isCodeTable
   · exact((PySem.W.codeHd_of_K (c:=496) (PySem.W.km_in_of Y) (by kernel_rfl)).tab (PySem.W.km_tabs_of Y 492 (by decide))).isCodeTable
   · exact((PySem.W.codeHd_of_K (c:=503) (PySem.W.km_in_of Y) (by kernel_rfl)).tab (PySem.W.km_tabs_of Y 499 (by decide))).isCodeTable
   · exact((PySem.W.codeHd_of_K (c:=699) (PySem.W.km_in_of Y) (by kernel_rfl)).tab (PySem.W.km_tabs_of Y 695 (by decide))).isCodeTable
   · exact((PySem.W.codeHd_of_K (c:=706) (PySem.W.km_in_of Y) (by kernel_rfl)).tab (PySem.W.km_tabs_of Y 702 (by decide))).isCodeTable
   · kernel_rfl
   · kernel_rfl
   · kernel_rfl
   · kernel_rfl
   · kernel_rfl) ?F
 case F =>
   intro w mg fa h KX G hmg;refine' K33.all2 KX G hmg (a:=⟨489,485,496,492,503,499,699,695,706,702,_,_,_,_,_,_,_,_,_,_,_,_,_,_,_,_,_,_,_,_,_,_,_,_,_,_,_,_,_,_,_,_,_,_,_,_,_,_,_,_,_,_,_,_,_,_,_,_,_,_,_,_,_,_,_,_,_,_,_,_,_,_,_,_,_,_,_,_,_,_,_,_,_,_,_,_,_,_,_,_,_,_,_,_,_,_,_,_,_,_,_,_,_,_,_,_,_,_,_,_,_,_,_,_,_,_,_,_,_,_,_,_,_,_,_,_,_,_,_,_,_,_,_,_,_,_,_,_,_,_,_,_,_,_,_,_,_,_,_,_,_,_,_,_⟩) ?T
   case T =>
     constructor
     all_goals try dsimp only
     all_goals try refine' PySem.W.mg_of KX G ?_
     all_goals try refine' PySem.W.mg_none_of KX G ?_
     all_goals try refine' ⟨_,PySem.W.mg_of KX G ?_⟩
     all_goals try k_is
     all_goals try refine' K33.mkDf KX G ?_ ?_ ?_ ?_ (fun _ _ _ _ _ _=>by first|exact K33.len_0 rfl|exact K33.len_1 fun _=>rfl|exact K33.len_2 fun _ _=>rfl|exact K33.len_3 fun _ _ _=>rfl|exact K33.len_4 fun _ _ _ _=>rfl|exact K33.len_5 fun _ _ _ _ _=>rfl)
     all_goals try refine' K33.mkDm ⟨?_,?_,?_⟩ ?_ ?_ ?_ (fun _ _ _ _ _ _=>by first|exact K33.len_0 rfl|exact K33.len_1 fun _=>rfl|exact K33.len_2 fun _ _=>rfl|exact K33.len_3 fun _ _ _=>rfl|exact K33.len_4 fun _ _ _ _=>rfl|exact K33.len_5 fun _ _ _ _ _=>rfl)
     all_goals try refine' L2.xIsa_of ?_ ?_ ?_
     all_goals try refine' L2.XMro.of ?_ ?_
     all_goals try refine' L2.xIn_of ?_ ?_
     all_goals try refine' ⟨⟨L2.xIn_of ?_ ?_,?_,?_,?_,?_,?_,?_⟩,?_,?_,?_⟩
     all_goals try refine' ⟨⟨?_,?_,?_,?_⟩,?_,?_,?_,?_⟩
     all_goals try refine' ⟨?_,?_,?_,?_⟩
     all_goals try refine' ⟨?_,?_,?_⟩
     all_goals try refine' ⟨?_,?_⟩
     all_goals try (first|k_is|rfl)
     all_goals try (first|k_is|rfl)
     all_goals try (first|k_is|rfl)
     all_goals decide
