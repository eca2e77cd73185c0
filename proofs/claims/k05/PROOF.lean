import PyProof.Rows.All
import OpenK.KLine
import Wide.FinOn
import KE.KSortTup
import KE.KDictOf
import KE.LcSums
import KE.KIntText
import KE.KRevSl
import KE.KFromBytes
import KE.KItemsList
import KE.KIsAll
import KE.KEqDict
import KE.KRevIter
import PySem.Challenge.RW_foldlog_k05_either_both_less
set_option maxHeartbeats 4000000
set_option Elab.async false
set_option linter.all false
set_option maxRecDepth 100000
namespace L2
open PySem PySem.Spec PyProof.Rows
open PySem.W (instObj methodObj Frag lookIn plainGet findIn kia_one kitx_list kitx_dict fnOf)
abbrev Key:=Sum Int Str
def JP:Key->Value->Bool
 | .inl k,v=>Value.isInt k v
 | .inr x,v=>Value.isStrOf x v
def qeG (w:World):Key->Int
 | .inl k=>hashInt k
 | .inr x=>hashStr w x
theorem qG:∀ {k:Key}{v:Value},JP k v=true->(∃ i t,k=Sum.inl i∧v=Value.int i t)∨(∃ x t,k=Sum.inr x∧v=Value.str x t)
 | .inl i,v,h=>by
   obtain⟨t,e⟩:=Value.isInt_shape (k:=i) (v:=v) h;exact .inl ⟨i,t,rfl,e⟩
 | .inr x,v,h=>by
   obtain⟨t,e⟩:=Value.isStrOf_shape (x:=x) (v:=v) h;exact .inr ⟨x,t,rfl,e⟩
theorem qaB (i:Int) (t:Tok):JP (.inl i) (.int i t)=true:=by simp[JP,Value.isInt]
theorem qaA (x:Str) (t:Tok):JP (.inr x) (.str x t)=true:=by simp[JP,Value.isStrOf]
theorem qdr (a b:Int):decide ((Sum.inl a:Key)=Sum.inl b)=(a == b):=by
 by_cases e:a=b
 · subst e;simp
 · have h:¬ (Sum.inl a:Key)=Sum.inl b:=fun q=>e (Sum.inl.inj q);rw[decide_eq_false h];exact(beq_eq_false_iff_ne.mpr e).symm
theorem qdo (a b:Str):decide ((Sum.inr a:Key)=Sum.inr b)=decide (a=b):=by
 by_cases e:a=b
 · subst e;simp
 · have h:¬ (Sum.inr a:Key)=Sum.inr b:=fun q=>e (Sum.inr.inj q);rw[decide_eq_false h,decide_eq_false e]
theorem qdq (a:Int) (b:Str):decide ((Sum.inl a:Key)=Sum.inr b)=false:=decide_eq_false (fun q=>nomatch q)
theorem qdp (a:Str) (b:Int):decide ((Sum.inr a:Key)=Sum.inl b)=false:=decide_eq_false (fun q=>nomatch q)
def qL (prog:Program) (w:World):PySem.KeyKind prog w Key where
 is:=JP
 hash:=qeG w
 inj:=fun v a b ha hb=>by
   rcases qG ha with ⟨i,t,rfl,rfl⟩|⟨x,t,rfl,rfl⟩
   · rcases qG hb with ⟨j,u,rfl,e⟩|⟨y,u,rfl,e⟩
     · injection e with e1 _;rw[e1]
     · exact nomatch e
   · rcases qG hb with ⟨j,u,rfl,e⟩|⟨y,u,rfl,e⟩
     · exact nomatch e
     · injection e with e1 _;rw[e1]
 byValue:=fun k v h=>by
   rcases qG h with ⟨i,t,rfl,rfl⟩|⟨x,t,rfl,rfl⟩<;>rfl
 pyHash:=fun hv h=>by
   rcases qG hv with ⟨i,t,rfl,rfl⟩|⟨x,t,rfl,rfl⟩
   · exact wpAny_pyHash_int h
   · exact wpAny_pyHash_str h
 eqBool:=fun hu hv h=>by
   rcases qG hu with ⟨i,t,rfl,rfl⟩|⟨x,t,rfl,rfl⟩
   · rcases qG hv with ⟨j,u,rfl,rfl⟩|⟨y,u,rfl,rfl⟩
     · rw[qdr]at h;exact wpAny_eqBool_int h
     · rw[qdq]at h;exact SeqAt.EqAt.int_str i t y u _ _ _ _ h
   · rcases qG hv with ⟨j,u,rfl,rfl⟩|⟨y,u,rfl,rfl⟩
     · rw[qdp]at h;exact SeqAt.EqAt.str_int x t j u _ _ _ _ h
     · rw[qdo]at h;exact wpAny_eqBool_str h
 «strs»:=fun k x t v h=>by
   rcases qG h with ⟨i,u,rfl,e⟩|⟨y,u,rfl,e⟩
   · exact nomatch e
   · injection e with e1 _;subst e1;cases v<;>rfl
theorem jK (prog:Program) (w:World) (i:Int) (t:Tok):(qL prog w).is (.inl i) (.int i t)=true:=qaB i t
theorem jJ (prog:Program) (w:World) (x:Str) (t:Tok):(qL prog w).is (.inr x) (.str x t)=true:=qaA x t
inductive V where
 | non|bl (b:Bool)|int (i:Int)|str (x:Str)|byt (b:Array UInt8)|flt (b:UInt64)|ref (a:Addr)|ty (n:String)
 deriving DecidableEq
def RelV:V->Value->Prop
 | .non,u=>u=Value.none
 | .bl b,u=>u=Value.bool b
 | .int i,u=>∃ t,u=Value.int i t
 | .str x,u=>∃ t,u=Value.str x t
 | .byt b,u=>∃ t,u=Value.bytes b t
 | .flt b,u=>∃ t,u=Value.float b t
 | .ref a,u=>u=Value.ref a
 | .ty n,u=>u=Value.type n
abbrev Vals:List V->List Value->Prop:=Paired RelV
theorem Vals.length {xs:List V}{us:List Value} (r:Vals xs us):xs.length=us.length:=Paired.length r
theorem Vals.get:∀ {xs:List V}{us:List Value}{i:Nat}{x:V},Vals xs us->xs[i]?=some x->∃ u,us[i]?=some u∧RelV x u
 | _,_,_,_,.nil,e=>by simp at e
 | _,_,0,_,.cons r _,e=>by simp at e;subst e;exact⟨_,rfl,r⟩
 | _,_,i+1,x,.cons _ t,e=>by
   obtain⟨u,h1,h2⟩:=Vals.get (i:=i) (x:=x) t (by simpa using e);exact⟨u,by simpa using h1,h2⟩
theorem Vals.set {x:V}{u:Value} (r:RelV x u):∀ {xs:List V}{us:List Value} (i:Nat),Vals xs us->Vals (xs.set i x) (us.set i u)
 | _,_,_,.nil=>.nil
 | _,_,0,.cons _ t=>.cons r t
 | _,_,i+1,.cons q t=>.cons q (Vals.set r i t)
theorem Vals.append:∀ {xs ys:List V}{us ws:List Value},Vals xs us->Vals ys ws->Vals (xs++ys) (us++ws)
 | _,_,_,_,.nil,s=>s
 | _,_,_,_,.cons r t,s=>.cons r (Vals.append t s)
theorem Vals.take:∀ {xs:List V}{us:List Value} (n:Nat),Vals xs us->Vals (xs.take n) (us.take n)
 | _,_,0,_=>.nil
 | _,_,_+1,.nil=>.nil
 | _,_,n+1,.cons r t=>.cons r (Vals.take n t)
theorem Vals.drop:∀ {xs:List V}{us:List Value} (n:Nat),Vals xs us->Vals (xs.drop n) (us.drop n)
 | _,_,0,r=>r
 | _,_,_+1,.nil=>.nil
 | _,_,n+1,.cons _ t=>Vals.drop n t
def RelO:Option V->Option Value->Prop
 | some v,some u=>RelV v u
 | none,none=>True
 | _,_=>False
def KV {κ:Type}:List (κ×V)->List (κ×Value)->Prop:=Paired fun (p:κ×V) (q:κ×Value)=>p.1=q.1∧RelV p.2 q.2
def kV:Key->V
 | .inl i=>.int i
 | .inr x=>.str x
inductive HO where
   | lst (xs:List V)
   | tup (xs:List V)
   | dK (kvs:List (Key×V))|dT (kvs:List (List Key×V))
   | set (S:Int->Bool) (n:Nat)
   | ins (C dx:Addr) (fs:List (Str×V))
   | own (x:Addr)
   | xd (fs:List (Str×V))
   | met (f x:Addr)
   | rng (lo hi:Int)
   | frz (o:Obj) (u:HO)
   | tbl (ps:Array Value)
   | ext (φ:Heap->Prop)
abbrev Hp:=Addr->Option HO
def upd (H:Hp) (a:Addr) (o:HO):Hp:=fun b=>if b=a then some o else H b
theorem qb {H:Hp}{a:Addr}{o:HO}:upd H a o a=some o:=by unfold upd;rw[if_pos rfl]
theorem qi {H:Hp}{a b:Addr}{o:HO} (h:b≠a):upd H a o b=H b:=by unfold upd;rw[if_neg h]
theorem qck {H:Hp}{a:Addr}{o u:HO}:upd (upd H a o) a u=upd H a u:=by
 funext b;unfold upd;split<;>rfl
theorem je {H:Hp}{a b:Addr}{o u:HO} (h:H a=some o) (h':H b=some u) (d:o≠u):a≠b:=by
 intro e;subst e;rw[h]at h';exact d (Option.some.inj h')
theorem qf {H:Hp}{a b:Addr}{o:HO} (h:H a=some o) (h':H b=none):a≠b:=by
 intro e;subst e;rw[h]at h';cases h'
section
variable (P:Program) (w:World)
def ObjOk (H:Hp) (h:Heap) (a:Addr):HO->Prop
 | .lst xs=>xs.length≤sizeLine∧∃ (its:List Value) (n:Nat),Vals xs its∧h.get? a=some { cls:=.type "list",data:=.seq its.toArray n }
 | .tup xs=>xs.length≤sizeLine∧∃ its:List Value,Vals xs its∧IsTup h a its.toArray
 | .dK kvs=>kvs.length≤sizeLine∧(a == sysModules)=false∧∃ vs,KV kvs vs∧h.DictOf (qL P w) a vs
 | .dT kvs=>kvs.length≤sizeLine∧(a == sysModules)=false∧∃ xs:List (List Key×Addr×Value),
     Paired (fun (p:List Key×V) (q:List Key×Addr×Value)=>p.1=q.1∧H q.2.1=some (.tup (p.1.map kV))∧RelV p.2 q.2.2) kvs xs ∧
     ∃ o es ep,h.get? a=some o∧o.ExactDict∧o.data=.dict es ep∧es.toList=xs.map (entryOfKey (tupleKind (qL P w)))∧(xs.map (·.1)).Nodup
 | .set S n=>h.SetOf (intKind P w) a S n
 | .ins C dx fs=>H dx=some (.own a)∧fs.length≤1000∧dx≠a∧h.get? a=some (instObj C dx) ∧
     ∃ mA,h.Ns1 dx mA∧(∀ f,RelO (fs.lookup f) (mA f))∧PySem.Within mA (fs.map (·.1))
 | .own _=>∃ o,h.get? a=some o
 | .xd fs=>∃ mA,h.Ns1 a mA∧∀ f,RelO (fs.lookup f) (mA f)
 | .rng lo hi=>∃ t u v,h.get? a=some { cls:=.type "range",data:=.fields #[.int lo t,.int hi u,.int 1 v] }
 | .frz o u=>h.get? a=some o∧ObjOk H h a u
 | .tbl ps=>h.get? a=some { cls:=.none,data:=.fields ps }
 | .met f x=>h.get? a=some (methodObj (.ref f) (.ref x))
 | .ext φ=>φ h∧(∃ o,h.get? a=some o)∧∀ h1 h2:Heap,φ h1->(∀ o,h1.get? a=some o->h2.get? a=some o)->φ h2
def HOk (H:Hp) (h:Heap):Prop:=∀ a o,H a=some o->ObjOk P w H h a o
end
section
variable {P:Program}{w:World}{H H':Hp}{h h':Heap}{a:Addr}{o:HO}
theorem ObjOk.lt (x:ObjOk P w H h a o):a < h.objs.size:=by
 cases o with
 | lst xs=>obtain⟨_,_,_,_,e⟩:=x;exact Heap.lt_size e
 | tup xs=>obtain⟨_,_,_,p⟩:=x;exact p.lt
 | dK kvs=>obtain⟨_,_,_,_,o,_,_,e,_⟩:=x;exact Heap.lt_size e
 | dT kvs=>obtain⟨_,_,_,_,o,_,_,e,_⟩:=x;exact Heap.lt_size e
 | set S n=>obtain⟨o,_,_,_,e,_⟩:=x;exact Heap.lt_size e
 | ins C dx fs=>obtain⟨_,_,_,e,_⟩:=x;exact Heap.lt_size e
 | own y=>obtain⟨_,e⟩:=x;exact Heap.lt_size e
 | xd fs=>obtain⟨_,⟨_,_,_,e,_⟩,_⟩:=x;exact Heap.lt_size e
 | rng lo hi=>obtain⟨_,_,_,e⟩:=x;exact Heap.lt_size e
 | frz ob u=>obtain⟨e,_⟩:=x;exact Heap.lt_size e
 | tbl ps=>exact Heap.lt_size (show h.get? a=some _ from x)
 | met f y=>exact Heap.lt_size (show h.get? a=some _ from x)
 | ext φ=>obtain⟨_,⟨_,e⟩,_⟩:=x;exact Heap.lt_size e
theorem Paired.mapP {α β:Type}{F G:α->β->Prop}:∀ {l₁:List α}{l₂:List β},Paired F l₁ l₂->(∀ a b,F a b->G a b)->Paired G l₁ l₂
 | _,_,.nil,_=>.nil
 | _,_,.cons r t,f=>.cons (f _ _ r) (Paired.mapP t f)
theorem ObjOk.stay (x:ObjOk P w H h a o) (k:∀ b u,(b=a∨H b=some (.own a))->h.get? b=some u->h'.get? b=some u)
   (ho:∀ b,H b=some (.own a)->H' b=some (.own a)) (ht:∀ b xs,H b=some (.tup xs)->H' b=some (.tup xs)):ObjOk P w H' h' a o:=by
 induction o with
 | lst xs=>obtain⟨z,its,n,r,e⟩:=x;exact⟨z,its,n,r,k _ _ (.inl rfl) e⟩
 | tup xs=>obtain⟨z,its,r,ob,e,c⟩:=x;exact⟨z,its,r,ob,k _ _ (.inl rfl) e,c⟩
 | dK kvs=>obtain⟨z,y,vs,r,ob,es,ep,e,c⟩:=x;exact⟨z,y,vs,r,ob,es,ep,k _ _ (.inl rfl) e,c⟩
 | dT kvs =>
   obtain⟨z,y,xs,r,ob,es,ep,e,c⟩:=x;exact⟨z,y,xs,Paired.mapP r fun p q z=>⟨z.1,ht _ _ z.2.1,z.2.2⟩,ob,es,ep,k _ _ (.inl rfl) e,c⟩
 | set S n=>obtain⟨ob,es,ep,t,e,c⟩:=x;exact⟨ob,es,ep,t,k _ _ (.inl rfl) e,c⟩
 | ins C dx fs =>
   obtain⟨d,z,ne,e,mA,⟨od,es,ep,e2,c⟩,r⟩:=x;exact⟨ho _ d,z,ne,k _ _ (.inl rfl) e,mA,⟨od,es,ep,k _ _ (.inr d) e2,c⟩,r⟩
 | own y=>obtain⟨ob,e⟩:=x;exact⟨ob,k _ _ (.inl rfl) e⟩
 | xd fs=>obtain⟨mA,⟨od,es,ep,e,c⟩,r⟩:=x;exact⟨mA,⟨od,es,ep,k _ _ (.inl rfl) e,c⟩,r⟩
 | rng lo hi=>obtain⟨t,u,v,e⟩:=x;exact⟨t,u,v,k _ _ (.inl rfl) e⟩
 | frz ob u ih=>obtain⟨e,q⟩:=x;exact⟨k _ _ (.inl rfl) e,ih q⟩
 | tbl ps =>
   have e:h.get? a=some { cls:=.none,data:=.fields ps }:=x;show h'.get? a=some { cls:=.none,data:=.fields ps };exact k a _ (.inl rfl) e
 | met f y =>
   have e:h.get? a=some (methodObj (.ref f) (.ref y)):=x;show h'.get? a=some (methodObj (.ref f) (.ref y));exact k a _ (.inl rfl) e
 | ext φ=>obtain⟨p,⟨o,e⟩,st⟩:=x;exact⟨st _ _ p fun o q=>k _ _ (.inl rfl) q,⟨o,k _ _ (.inl rfl) e⟩,st⟩
theorem HOk.lt (x:HOk P w H h) (e:H a=some o):a < h.objs.size:=(x a o e).lt
theorem HOk.fresh (x:HOk P w H h) (e:h.objs.size≤a):H a=none:=by
 cases q:H a with
 | none=>rfl
 | some u=>exact absurd (Nat.lt_of_lt_of_le (x.lt q) e) (Nat.lt_irrefl _)
theorem HOk.kept (x:HOk P w H h) (k:∀ b u,h.get? b=some u->h'.get? b=some u):HOk P w H h':=fun a o e =>
 (x a o e).stay (fun b u _ q=>k b u q) (fun _ q=>q) fun _ _ q=>q
theorem HOk.laid (x:HOk P w H h) (k:∀ b u,h.get? b=some u->h'.get? b=some u) (hp:h.objs.size≤a) (new:ObjOk P w (upd H a o) h' a o):HOk P w (upd H a o) h':=fun b u e=>by
 have hn:=x.fresh hp;by_cases hb:b=a
 · subst hb;rw[qb]at e;cases e;exact new
 · rw[qi hb]at e;exact(x b u e).stay (fun c v _ q=>k c v q) (fun c q=>by rw[qi (qf q hn)];exact q) fun c xs q=>by rw[qi (qf q hn)];exact q
end
def Rd (H:Hp) (a:Addr) (u:HO):Prop:=H a=some u∨∃ o,H a=some (.frz o u)
theorem Rd.ok {P:Program}{w:World}{H:Hp}{h:Heap}{a:Addr}{u:HO} (r:Rd H a u) (x:HOk P w H h):ObjOk P w H h a u:=by
 rcases r with r|⟨o,r⟩
 · exact x a u r
 · obtain⟨_,q⟩:=x a _ r;exact q
def Mut:Option HO->Prop
 | some (.lst _)=>True
 | some (.dK _)=>True
 | some (.dT _)=>True
 | some (.set _ _)=>True
 | some (.ins _ _ _)=>True
 | some (.ext _)=>True
 | _=>False
section
variable {P:Program}{w:World}{H:Hp}{h h':Heap}{x e:Addr}{o':HO}
theorem HOk.write (ok:HOk P w H h) (mu:Mut (H x)) (he:e=x∨H e=some (.own x)) (k:∀ b u,b≠e->h.get? b=some u->h'.get? b=some u) (heo:∃ u,h'.get? e=some u)
   (new:ObjOk P w (upd H x o') h' x o'):HOk P w (upd H x o') h':=fun b u q=>by
 have nown:∀ c y,H c=some (.own y)->c≠x:=fun c y r z=>by subst z;rw[r]at mu;exact mu
 have ntup:∀ c xs,H c=some (.tup xs)->c≠x:=fun c xs r z=>by subst z;rw[r]at mu;exact mu
 by_cases hb:b=x
 · subst hb;rw[qb]at q;cases q;exact new
 · rw[qi hb]at q;by_cases hbe:b=e
   · have q':H b=some (.own x):=by
       rcases he with z|z
       · exact absurd (hbe.trans z) hb
       · rw[hbe];exact z
     rw[q]at q';cases q';obtain⟨v,hv⟩:=heo;exact⟨v,by rw[hbe];exact hv⟩
   · refine(ok b u q).stay (fun c v hc r=>k c v ?_ r) (fun c r=>by rw[qi (nown c b r)];exact r) fun c xs r=>by rw[qi (ntup c xs r)];exact r
     rcases hc with rfl|hc
     · exact hbe
     · rintro rfl;rcases he with z|z
       · exact nown c b hc z
       · rw[hc]at z;cases z;exact hb rfl
end
structure Un (fs ex:List Addr) (H H':Hp) (h h':Heap):Prop where
 keep:∀ b o,h.get? b=some o->H b=none->b∉fs->b∉ex->h'.get? b=some o
 slot:∀ b o,h.get? b=some o->H b=none->b∈fs->b∉ex->∃ sl,h'.get? b=some { o with slots:=sl }
 free:∀ b o,h.get? b=some o->H b=none->b∉ex->H' b=none
 there:∀ b o,h.get? b=some o->b∉ex->∃ o',h'.get? b=some o'
 tups:∀ b xs,H b=some (.tup xs)->H' b=some (.tup xs)
 frzs:∀ b o u,H b=some (.frz o u)->H' b=some (.frz o u)
 tbls:∀ b ps,H b=some (.tbl ps)->∃ more,H' b=some (.tbl (ps++more))
section
variable {fs fs' ex ex':List Addr}{H H1 H2:Hp}{h h1 h2 h':Heap}{a x e:Addr}{o:HO}
theorem Un.any (u:Un fs ex H H1 h h1) {b:Addr}{ob:Obj} (q:h.get? b=some ob) (n:H b=none) (hx:b∉ex):∃ sl,h1.get? b=some { ob with slots:=sl }:=by
 by_cases hb:b∈fs
 · exact u.slot b ob q n hb hx
 · exact⟨ob.slots,u.keep b ob q n hb hx⟩
theorem Un.kept (k:∀ b u,h.get? b=some u->h'.get? b=some u):Un fs ex H H h h' :=
 ⟨fun b ob q _ _ _=>k b ob q,fun b ob q _ _ _=>⟨ob.slots,k b ob q⟩,fun _ _ _ n _=>n,fun b ob q _=>⟨ob,k b ob q⟩,fun _ _ q=>q,fun _ _ _ q=>q,fun _ ps q=>⟨#[],by rw[q];simp⟩⟩
theorem Un.refl:Un fs ex H H h h:=Un.kept fun _ _ q=>q
theorem Un.laid (k:∀ b u,h.get? b=some u->h'.get? b=some u) (hp:h.objs.size≤a) (hn:H a=none):Un fs ex H (upd H a o) h h' where
 keep:=fun b u q _ _ _=>k b u q
 slot:=fun b u q _ _ _=>⟨u.slots,k b u q⟩
 free:=fun b u q n _=>by rw[qi (Nat.ne_of_lt (Nat.lt_of_lt_of_le (Heap.lt_size q) hp))];exact n
 there:=fun b u q _=>⟨u,k b u q⟩
 tups:=fun b xs q=>by rw[qi (qf q hn)];exact q
 frzs:=fun b u xs q=>by rw[qi (qf q hn)];exact q
 tbls:=fun b ps q=>⟨#[],by rw[qi (qf q hn),q];simp⟩
theorem Un.write (mu:Mut (H x)) (he:e=x∨H e=some (.own x)) (k:∀ b u,b≠e->h.get? b=some u->h'.get? b=some u) (heo:∃ u,h'.get? e=some u):Un fs ex H (upd H x o) h h':=by
 have hx:∀ b,H b=none->b≠x:=fun b n z=>by subst z;rw[n]at mu;exact mu
 have hb:∀ b,H b=none->b≠e:=fun b n z=>by
   subst z;rcases he with r|r
   · exact hx b n r
   · rw[n]at r;cases r
 have hm:∀ b u,H b=some u->¬ Mut (some u)->b≠x:=fun b u q nm z=>by subst z;rw[q]at mu;exact nm mu
 refine⟨fun b u q n _ _=>k b u (hb b n) q,fun b u q n _ _=>⟨u.slots,k b u (hb b n) q⟩,fun b u q n _=>by rw[qi (hx b n)];exact n,fun b u q _=>?_,
   fun b xs q=>by rw[qi (hm b _ q fun z=>z)];exact q,fun b u xs q=>by rw[qi (hm b _ q fun z=>z)];exact q,fun b ps q=>⟨#[],by rw[qi (hm b _ q fun z=>z),q];simp⟩⟩
 by_cases hbe:b=e
 · subst hbe;exact heo
 · exact⟨u,k b u hbe q⟩
end
def trk (h:Heap) (H:Hp):List Addr:=(List.range h.objs.size).filter fun a=>(H a).isSome
def qbx (h:Heap) (H:Hp):Heap:=PySem.W.hideAll h (trk h H)
theorem qaL (h:Heap) (H:Hp):(qbx h H).objs.size=h.objs.size:=PySem.W.hideAll_size _ _
theorem qbw {h:Heap}{H:Hp}{b:Addr}{o:Obj} (e:h.get? b=some o) (n:H b=none):(qbx h H).get? b=some o :=
 PySem.W.hideAll_get _ e fun hm=>by
   have q:(H b).isSome=true:=(List.mem_filter.mp hm).2;rw[n]at q;simp at q
theorem qcD {h:Heap}{H:Hp}{b:Addr}{o:Obj} (e:(qbx h H).get? b=some o):h.get? b=some o∧H b=none:=by
 have e':h.get? b=some o:=PySem.W.of_hideAll (trk h H) e;refine⟨e',?_⟩
 cases q:H b with
 | none=>rfl
 | some x =>
   have hm:b∈trk h H:=List.mem_filter.mpr ⟨List.mem_range.mpr (Heap.lt_size e'),by simp[q]⟩;have z:(qbx h H).get? b=none:=PySem.W.hideAll_none (trk h H) hm;rw[z]at e;cases e
structure Mod (K:Frag) (mg:Str->Option Value) (base:Heap):Prop where
 kin:K.In base
 glob:base.Ns mainGlobals mg
 blt:∃ mb,base.Ns builtinsNs mb∧∀ x:Str,x≠"__name__"->mb x=bootBuiltins x
 nolimit:base.NoLimit
structure Cx where
 prog:Program
 w:World
 K:Frag
 mg:Str->Option Value
 base:Heap
 A:Around
 N:List Str
 s₀:Shared
 H₀:Hp
 env:Env
 outer:List Env
 stack:List Env
 ex:List Addr
 fn:Str->Bool
 calm:Bool
 pn:List (Addr×Obj)
 xe:Value->Shared->Prop
def frs (l:List Env):List Addr:=l.filterMap (·.frame)
abbrev Cx.fs (X:Cx):List Addr:=frs X.outer
def Vis (sc:Scope) (x:Str):Prop:=sc.names.lookup x=some .local∨sc.names.lookup x=some .cell∨sc.names.lookup x=some .free
def Loc (sc:Scope) (x:Str):Prop:=sc.names.lookup x=some .local∨sc.names.lookup x=some .cell
def qeM (env:Env) (h:Heap) (m:Str->Option Value) (x:Str) (u:Value):Prop :=
 (env.kindOf x=some .local∧m x=some u)∨((env.kindOf x=some .cell∨env.kindOf x=some .free)∧∃ c,env.cells.lookup x=some c∧h.IsCell c (some u))
structure Cx.Ok (X:Cx):Prop where
 mod:Mod X.K X.mg X.base
 kind:X.env.scope.kind=.function
 glob:X.env.globals=mainGlobals
 blt:X.env.builtins=builtinsNs
 above:X.s₀.heap.objs.size≤X.env.locals
 inj:∀ x y c,X.env.cells.lookup x=some c->X.env.cells.lookup y=some c->x=y
 has:∀ x,(X.env.kindOf x=some .cell∨X.env.kindOf x=some .free)->∃ c,X.env.cells.lookup x=some c
 cab:∀ x c,X.fn x=true->X.env.cells.lookup x=some c->X.s₀.heap.objs.size≤c
 hd:X.calm=true->X.A.handled=none
 frames:X.A.frames=some X.stack
 stk:X.stack=X.outer∨(X.stack=X.env::X.outer∧X.env.frame=some X.env.locals)
 exf:∀ b∈X.ex,b≠X.env.locals∧∀ x c,X.env.cells.lookup x=some c->c≠b
 bs:∀ b o,X.base.get? b=some o->X.s₀.heap.get? b=some o∧X.H₀ b=none
 bsz:X.base.objs.size≤X.s₀.heap.objs.size
 noex:∀ b o,X.base.get? b=some o->b∉X.ex
 exfs:∀ b∈X.ex,b∉X.fs
 funs:X.s₀.heap.FunFrames X.base X.outer
 frf:∀ b∈X.fs,X.H₀ b=none
structure Inv (X:Cx) (pins:List (Addr×Obj)) (σ:List (Option V)) (H:Hp) (s:Shared):Prop where
 ok:X.Ok
 os:s.os=X.s₀.os
 bare:AllBare s.gens
 base:Un X.fs X.ex X.H₀ H X.s₀.heap s.heap
 loc:∃ m,s.heap.Ns X.env.locals m∧∀ (i:Nat) (x:Str) (v:V),X.N[i]?=some x->σ[i]?=some (some v)->Vis X.env.scope x->∃ u,RelV v u∧qeM X.env s.heap m x u
 cell:∀ x c,X.env.cells.lookup x=some c->∃ v,s.heap.IsCell c v
 free:H X.env.locals=none
 freeC:∀ x c,X.env.cells.lookup x=some c->H c=none
 pin:∀ p∈X.pn++pins,s.heap.get? p.1=some p.2∧H p.1=none∧p.1≠X.env.locals∧p.1∉X.fs∧∀ v,p.2.data≠.cell v
 hok:HOk X.prog X.w H s.heap
 len:σ.length=X.N.length
section
variable {X:Cx}{pins:List (Addr×Obj)}{σ:List (Option V)}{H H':Hp}{s:Shared}{h':Heap}
theorem Cx.Ok.nofr (ok:X.Ok) {b:Addr}{o:Obj} (e:X.base.get? b=some o):b∉X.fs:=fun hb=>by
 have:=(ok.funs.mem hb).1
 rw[e]at this;cases this
theorem Inv.bs (I:Inv X pins σ H s):∀ b o,X.base.get? b=some o->s.heap.get? b=some o∧H b=none:=fun b o e =>
 ⟨I.base.keep b o (I.ok.bs b o e).1 (I.ok.bs b o e).2 (I.ok.nofr e) (I.ok.noex b o e),I.base.free b o (I.ok.bs b o e).1 (I.ok.bs b o e).2 (I.ok.noex b o e)⟩
theorem Inv.bk (I:Inv X pins σ H s):∀ b o,X.base.get? b=some o->s.heap.get? b=some o:=fun b o e=>(I.bs b o e).1
theorem Inv.mod (I:Inv X pins σ H s):Mod X.K X.mg X.base:=I.ok.mod
theorem Inv.kIn (I:Inv X pins σ H s):X.K.In s.heap:=I.ok.mod.kin.keeps I.bk
theorem Inv.fr (I:Inv X pins σ H s):∃ m,Fr X.base X.env.locals s.heap m :=
 let ⟨m,hn,_⟩:=I.loc
 ⟨m,hn,I.bk,Nat.le_trans I.ok.bsz I.ok.above⟩
theorem Inv.lt (I:Inv X pins σ H s):X.env.locals < s.heap.objs.size:=let ⟨_,hn,_⟩:=I.loc;hn.lt
theorem Inv.sz (I:Inv X pins σ H s):X.s₀.heap.objs.size≤s.heap.objs.size:=Nat.le_trans I.ok.above (Nat.le_of_lt I.lt)
theorem Inv.nofs (I:Inv X pins σ H s) {a:Addr} (h:s.heap.objs.size≤a):a∉X.fs:=fun hb=>by
 obtain⟨_,o,ho,_⟩:=I.ok.funs.mem hb;exact absurd (Nat.lt_of_lt_of_le (Heap.lt_size ho) (Nat.le_trans I.sz h)) (Nat.lt_irrefl _)
theorem Inv.cne (I:Inv X pins σ H s):∀ x c,X.env.cells.lookup x=some c->c≠X.env.locals:=fun x c e z=>by
 obtain⟨v,o,ho,hd⟩:=I.cell x c e;obtain⟨m,⟨o',es,ep,ho',hd',_⟩,_⟩:=I.loc;rw[z,ho']at ho;cases ho;rw[hd']at hd;cases hd
theorem Inv.funs (I:Inv X pins σ H s):s.heap.FunFrames X.base X.outer:=by
 have all:∀ (l:List Env),(∀ b∈frs l,b∈X.fs)->X.s₀.heap.FunFrames X.base l->s.heap.FunFrames X.base l:=by
   intro l
   induction l with
   | nil=>intro _ _;trivial
   | cons env r ih =>
     intro hs hl;obtain⟨hk,⟨L,o,hf,hn,ho,hd⟩,hr⟩:=hl;have hL:L∈X.fs:=hs L (by unfold frs;rw[List.filterMap_cons,hf];exact List.mem_cons_self);obtain⟨sl,e⟩:=I.base.slot L o ho (I.ok.frf L hL) hL fun z=>I.ok.exfs L z hL;exact⟨hk,⟨L,_,hf,hn,e,hd⟩,ih (fun b hb=>hs b (by unfold frs;rw[List.filterMap_cons,hf];exact List.mem_cons_of_mem _ hb)) hr⟩
 exact all X.outer (fun _ hb=>hb) I.ok.funs
theorem Inv.stack (I:Inv X pins σ H s):s.heap.FunFrames X.base X.stack:=by
 rcases I.ok.stk with e|⟨e,hf⟩
 · rw[e];exact I.funs
 · rw[e];obtain⟨m,hn,_⟩:=I.loc;refine .cons (by rw[I.ok.kind];decide) hf hn ?_ I.funs;exact Heap.get?_none_of_le (Nat.le_trans I.ok.bsz I.ok.above)
theorem Inv.stkSub (I:Inv X pins σ H s):∀ b∈frs X.stack,b∈X.env.locals::X.fs:=fun b hb=>by
 rcases I.ok.stk with e|⟨e,hf⟩
 · rw[e]at hb;exact List.mem_cons_of_mem _ hb
 · rw[e]at hb;unfold frs at hb;rw[List.filterMap_cons,hf]at hb;exact hb
theorem Inv.stkFree (I:Inv X pins σ H s):∀ b∈frs X.stack,H b=none:=fun b hb=>by
 rcases List.mem_cons.mp (I.stkSub b hb) with e|hb
 · rw[e];exact I.free
 · obtain⟨_,o,ho,_⟩:=I.ok.funs.mem hb;exact I.base.free b o ho (I.ok.frf b hb) fun z=>I.ok.exfs b z hb
theorem Inv.step {g':Array GenState}{t':Nat}{d':Drawn}{ch:List Addr} (I:Inv X pins σ H s)
   (hch:∀ b∈ch,(b∈X.ex∨X.s₀.heap.objs.size≤b)∧b≠X.env.locals∧(∀ x c,X.env.cells.lookup x=some c->c≠b)∧∀ p∈X.pn++pins,p.1≠b)
   (keep:∀ b o,b≠X.env.locals->b∉X.fs->b∉ch->s.heap.get? b=some o->H b=none->h'.get? b=some o)
   (slot:∀ b o,b≠X.env.locals->b∈X.fs->b∉ch->s.heap.get? b=some o->H b=none->∃ sl,h'.get? b=some { o with slots:=sl }) (free:∀ b o,b∉ch->s.heap.get? b=some o->H b=none->H' b=none)
   (there:∀ b o,b∉ch->s.heap.get? b=some o->∃ o',h'.get? b=some o')
   (tups:∀ b xs,H b=some (.tup xs)->H' b=some (.tup xs)) (frzs:∀ b o u,H b=some (.frz o u)->H' b=some (.frz o u)) (tbls:∀ b ps,H b=some (.tbl ps)->∃ more,H' b=some (.tbl (ps++more)))
   (ns:∀ m,s.heap.Ns X.env.locals m->h'.Ns X.env.locals m) (hok:HOk X.prog X.w H' h') (hg:AllBare g') :
   Inv X pins σ H' { s with heap:=h',gens:=g',drawn:=d',toks:=t' }:=by
 have neL:∀ b o,X.s₀.heap.get? b=some o->b≠X.env.locals:=fun b o e=>Nat.ne_of_lt (Nat.lt_of_lt_of_le (Heap.lt_size e) I.ok.above)
 have neC:∀ b o,X.s₀.heap.get? b=some o->b∉X.ex->b∉ch:=fun b o e hx hb=>by
   rcases (hch b hb).1 with z|z
   · exact hx z
   · exact absurd (Nat.lt_of_lt_of_le (Heap.lt_size e) z) (Nat.lt_irrefl _)
 have cellK:∀ x c,X.env.cells.lookup x=some c->∀ v,s.heap.IsCell c v->h'.IsCell c v:=fun x c e v ⟨o,ho,hd⟩=>by
   have nch:c∉ch:=fun z=>(hch c z).2.2.1 x c e rfl;by_cases hc:c∈X.fs
   · obtain⟨sl,q⟩:=slot c o (I.cne x c e) hc nch ho (I.freeC x c e);exact⟨_,q,hd⟩
   · exact⟨o,keep c o (I.cne x c e) hc nch ho (I.freeC x c e),hd⟩
 refine⟨I.ok,I.os,hg,⟨fun b o e n hb hx=>?_,fun b o e n hb hx=>?_,fun b o e n hx=>?_,fun b o e hx=>?_,fun b xs e=>tups b xs (I.base.tups b xs e),fun b o xs e=>frzs b o xs (I.base.frzs b o xs e),fun b ps e=>?_⟩,?_,fun x c e=>?_,?_,fun x c e=>?_,fun p hp=>?_,hok,I.len⟩
 · exact keep b o (neL b o e) hb (neC b o e hx) (I.base.keep b o e n hb hx) (I.base.free b o e n hx)
 · obtain⟨sl,e1⟩:=I.base.slot b o e n hb hx;obtain⟨sl',e2⟩:=slot b _ (neL b o e) hb (neC b o e hx) e1 (I.base.free b o e n hx);exact⟨sl',e2⟩
 · obtain⟨o',e1⟩:=I.base.there b o e hx;exact free b o' (neC b o e hx) e1 (I.base.free b o e n hx)
 · obtain⟨o',e1⟩:=I.base.there b o e hx;exact there b o' (neC b o e hx) e1
 · obtain⟨m1,e1⟩:=I.base.tbls b ps e;obtain⟨m2,e2⟩:=tbls b _ e1;exact⟨m1++m2,by rw[e2,Array.append_assoc]⟩
 · obtain⟨m,hn,hl⟩:=I.loc;refine⟨m,ns m hn,fun i x v e1 e2 e3=>?_⟩;obtain⟨u,r,l⟩:=hl i x v e1 e2 e3;refine⟨u,r,?_⟩;rcases l with l|⟨k,c,e,z⟩
   · exact .inl l
   · exact .inr ⟨k,c,e,cellK x c e _ z⟩
 · obtain⟨v,z⟩:=I.cell x c e;exact⟨v,cellK x c e v z⟩
 · obtain⟨m,⟨o,_,_,ho,_⟩,_⟩:=I.loc;exact free _ o (fun z=>(hch _ z).2.1 rfl) ho I.free
 · obtain⟨v,o,ho,hd⟩:=I.cell x c e;exact free c o (fun z=>(hch c z).2.2.1 x c e rfl) ho (I.freeC x c e)
 · obtain⟨e,n,ne,nf,d⟩:=I.pin p hp;have nch:p.1∉ch:=fun z=>(hch p.1 z).2.2.2 p hp rfl;exact⟨keep p.1 p.2 ne nf nch e n,free p.1 p.2 nch e n,ne,nf,d⟩
theorem Inv.un {t':Nat} (I:Inv X pins σ H s) (u:Un X.fs [] H H' s.heap h') (hok:HOk X.prog X.w H' h'):Inv X pins σ H' { s with heap:=h',toks:=t' }:=by
 obtain⟨m,⟨o,es,ep,ho,r⟩,_⟩:=id I.loc;obtain⟨sl,hL⟩:=u.any ho I.free (by simp)
 exact I.step (g':=s.gens) (d':=s.drawn) (ch:=[]) (fun _ z=>nomatch z) (fun b o _ hb _ e n=>u.keep b o e n hb (by simp)) (fun b o _ hb _ e n=>u.slot b o e n hb (by simp)) (fun b o _ e n=>u.free b o e n (by simp)) (fun b o _ e=>u.there b o e (by simp)) u.tups u.frzs u.tbls (fun m' hm=>by
   obtain⟨o',es',ep',ho',r'⟩:=hm;rw[ho]at ho';cases ho'
   exact⟨_,es',ep',hL,r'⟩) hok I.bare
theorem Inv.call {g':Array GenState}{t':Nat}{d':Drawn}{ch:List Addr} (I:Inv X pins σ H s) (u:Un (frs X.stack) ch H H' s.heap h') (hok:HOk X.prog X.w H' h') (hg:AllBare g')
   (hch:∀ b∈ch,(b∈X.ex∨X.s₀.heap.objs.size≤b)∧b≠X.env.locals∧(∀ x c,X.env.cells.lookup x=some c->c≠b)∧∀ p∈X.pn++pins,p.1≠b) :
   Inv X pins σ H' { s with heap:=h',gens:=g',drawn:=d',toks:=t' }:=by
 obtain⟨m,⟨o,es,ep,ho,r⟩,_⟩:=id I.loc;obtain⟨sl,hL⟩:=u.any ho I.free fun z=>(hch _ z).2.1 rfl
 exact I.step (ch:=ch) hch (fun b o hL hb hc e n=>u.keep b o e n (fun z=>(List.mem_cons.mp (I.stkSub b z)).elim hL hb) hc) (fun b o _ _ hc e n=>u.any e n hc) (fun b o hc e n=>u.free b o e n hc) (fun b o hc e=>u.there b o e hc) u.tups u.frzs u.tbls (fun m' hm=>by
   obtain⟨o',es',ep',ho',r'⟩:=hm;rw[ho]at ho';cases ho'
   exact⟨_,es',ep',hL,r'⟩) hok hg
theorem Inv.turned {t':Nat}{it:Addr} (I:Inv X pins σ H s) (k:∀ b o,b≠it->s.heap.get? b=some o->h'.get? b=some o) (hn:H it=none) (hL:it≠X.env.locals)
   (h1:it∈X.ex∨X.s₀.heap.objs.size≤it) (h2:∀ x c,X.env.cells.lookup x=some c->c≠it) (h3:∀ p∈X.pn++pins,p.1≠it):Inv X pins σ H { s with heap:=h',toks:=t' }:=by
 have nit:∀ b u,H b=some u->b≠it:=fun b u e z=>by rw[z,hn]at e;cases e
 refine I.step (g':=s.gens) (d':=s.drawn) (ch:=[it]) (fun b hb=>?_) (fun b o _ _ hc e _=>k b o (fun z=>hc (by simp[z])) e) (fun b o _ _ hc e _=>⟨o.slots,k b o (fun z=>hc (by simp[z])) e⟩) (fun _ _ _ _ n=>n)
   (fun b o hc e=>⟨o,k b o (fun z=>hc (by simp[z])) e⟩) (fun _ _ e=>e) (fun _ _ _ e=>e) (fun b ps e=>⟨#[],by rw[e];simp⟩) (fun m hm=>?_) (fun b u e=>?_) I.bare
 · have e:b=it:=by simpa using hb
   subst e;exact⟨h1,hL,h2,h3⟩
 · obtain⟨o,es,ep,ho,r⟩:=hm;exact⟨o,es,ep,k _ o (Ne.symm hL) ho,r⟩
 · refine(I.hok b u e).stay (fun c v hc q=>k c v ?_ q) (fun _ q=>q) fun _ _ q=>q;rcases hc with z|z
   · rw[z];exact nit b u e
   · exact nit c _ z
theorem Inv.tok (I:Inv X pins σ H s) (t:Nat):Inv X pins σ H { s with toks:=t }:=I.un (h':=s.heap) (t':=t) Un.refl I.hok
theorem Inv.kept {t':Nat} (I:Inv X pins σ H s) (k:∀ b u,s.heap.get? b=some u->h'.get? b=some u):Inv X pins σ H { s with heap:=h',toks:=t' }:=I.un (Un.kept k) (I.hok.kept k)
theorem Inv.laid {a:Addr}{o:HO}{t':Nat} (I:Inv X pins σ H s) (k:∀ b u,s.heap.get? b=some u->h'.get? b=some u) (hp:s.heap.objs.size≤a) (new:ObjOk X.prog X.w (upd H a o) h' a o) :
   Inv X pins σ (upd H a o) { s with heap:=h',toks:=t' }:=I.un (Un.laid k hp (I.hok.fresh hp)) (I.hok.laid k hp new)
theorem Inv.write {x e:Addr}{o:HO}{t':Nat} (I:Inv X pins σ H s) (mu:Mut (H x)) (he:e=x∨H e=some (.own x)) (k:∀ b u,b≠e->s.heap.get? b=some u->h'.get? b=some u) (heo:∃ u,h'.get? e=some u)
   (new:ObjOk X.prog X.w (upd H x o) h' x o):Inv X pins σ (upd H x o) { s with heap:=h',toks:=t' }:=I.un (Un.write mu he k heo) (I.hok.write mu he k heo new)
theorem Inv.pins_of {pins':List (Addr×Obj)} (I:Inv X pins σ H s) (h:∀ p∈pins',s.heap.get? p.1=some p.2∧H p.1=none∧p.1≠X.env.locals∧p.1∉X.fs∧∀ v,p.2.data≠.cell v):Inv X pins' σ H s :=
 ⟨I.ok,I.os,I.bare,I.base,I.loc,I.cell,I.free,I.freeC,fun p hp=>(List.mem_append.mp hp).elim (fun z=>I.pin p (List.mem_append_left _ z)) (h p),I.hok,I.len⟩
theorem Js {N:List Str} (hN:N.Nodup) {i j:Nat}{x:Str} (a:N[i]?=some x) (b:N[j]?=some x):i=j:=by
 obtain⟨h1,e1⟩:=List.getElem?_eq_some_iff.mp a;obtain⟨h2,e2⟩:=List.getElem?_eq_some_iff.mp b;exact(List.getElem_inj hN).mp (e1.trans e2.symm)
theorem J6 {M:Model}{A:Around}{E:Value->Shared->Prop}{i:Nat}{x:Str}{v:V}{u:Value}{Q:Unit->Shared->Prop} (I:Inv X pins σ H s) (hN:X.N.Nodup) (hi:X.N[i]?=some x) (hx:Loc X.env.scope x) (r:RelV v u)
   (h:∀ s',Inv X pins (σ.set i (some v)) H s'->(∃ a,Heap.SameBut a s.heap s'.heap∧(a=X.env.locals∨X.env.cells.lookup x=some a))->Q () s') (hf:X.fn x=true∨X.env.scope.names.lookup x=some .local:=by first|exact .inl rfl|exact .inr rfl|assumption):wpAny M A (storeName X.env x u) Q E s:=by
 obtain⟨m,hn,hl⟩:=id I.loc;have hcls:(X.env.scope.kind == .class || (X.env.scope.kind == .module && X.env.locals != X.env.globals))=false:=by rw[I.ok.kind];rfl
 have hiσ:i < σ.length:=by rw[I.len];exact(List.getElem?_eq_some_iff.mp hi).1
 have cne:=I.cne
 have tracked:∀ {a:Addr}{h':Heap},(∃ o,s.heap.get? a=some o∧H a=none)->Heap.SameBut a s.heap h'->HOk X.prog X.w H h':=fun {a h'} ha hs b ob e=>by
   obtain⟨_,_,hfree⟩:=ha;refine(I.hok b ob e).stay (fun c w' hc q=>(hs.2 c ?_).trans q) (fun _ q=>q) fun _ _ q=>q;rintro rfl;rcases hc with rfl|hc
   · rw[hfree]at e;cases e
   · rw[hfree]at hc;cases hc
 rcases hx with hk|hk
 · refine wpAny_storeName_local hk hn (fun h' hn' hs=>?_) hcls;obtain⟨oL,_,_,hoL,_⟩:=id hn;refine h _ ⟨I.ok,I.os,I.bare,⟨fun b o e n hb hx=>?_,fun b o e n hb hx=>?_,I.base.free,fun b o e hx=>?_,I.base.tups,I.base.frzs,I.base.tbls⟩,⟨_,hn',fun j y v' e1 e2 e3=>?_⟩,fun y c e=>?_,I.free,I.freeC,fun p hp=>?_,tracked ⟨oL,hoL,I.free⟩ hs,by simpa using I.len⟩ ⟨_,hs,.inl rfl⟩
   · exact(hs.2 b (Nat.ne_of_lt (Nat.lt_of_lt_of_le (Heap.lt_size e) I.ok.above))).trans (I.base.keep b o e n hb hx)
   · obtain⟨sl,e1⟩:=I.base.slot b o e n hb hx;exact⟨sl,(hs.2 b (Nat.ne_of_lt (Nat.lt_of_lt_of_le (Heap.lt_size e) I.ok.above))).trans e1⟩
   · obtain⟨o',e1⟩:=I.base.there b o e hx;exact⟨o',(hs.2 b (Nat.ne_of_lt (Nat.lt_of_lt_of_le (Heap.lt_size e) I.ok.above))).trans e1⟩
   · by_cases hj:j=i
     · subst hj;rw[hi]at e1;cases e1;rw[List.getElem?_set_self hiσ]at e2;cases e2;exact⟨u,r,.inl ⟨hk,by simp⟩⟩
     · rw[List.getElem?_set_ne (Ne.symm hj)]at e2;obtain⟨u',r',q⟩:=hl j y v' e1 e2 e3;refine⟨u',r',?_⟩;rcases q with ⟨k,e⟩|⟨k,c,e,z⟩
       · refine .inl ⟨k,?_⟩
         have:y≠x:=fun e=>hj (Js hN e1 (e▸hi))
         simp[this,e]
       · exact .inr ⟨k,c,e,z.sameBut hs (cne y c e)⟩
   · obtain⟨w',z⟩:=I.cell y c e;exact⟨w',z.sameBut hs (cne y c e)⟩
   · obtain⟨e,n,ne,nf,d⟩:=I.pin p hp;exact⟨(hs.2 p.1 ne).trans e,n,ne,nf,d⟩
 · have hfn:X.fn x=true:=by
     rcases hf with z|z
     · exact z
     · rw[z]at hk;cases hk
   obtain⟨c,hc⟩:=I.ok.has x (.inl hk);obtain⟨w',z⟩:=I.cell x c hc;refine wpAny_storeName_cell I.ok.kind hk hc z (fun h' hc' hs=>?_);obtain⟨oc,hoc,hocd⟩:=id z;refine h { s with heap:=h' } ⟨I.ok,I.os,I.bare,⟨fun b o e n hb hx=>?_,fun b o e n hb hx=>?_,I.base.free,fun b o e hx=>?_,I.base.tups,I.base.frzs,I.base.tbls⟩,⟨m,hn.sameBut hs (Ne.symm (cne x c hc)),fun j y v' e1 e2 e3=>?_⟩,fun y c' e=>?_,I.free,I.freeC,fun p hp=>?_,tracked ⟨oc,hoc,I.freeC x c hc⟩ hs,by simpa using I.len⟩ ⟨c,hs,.inr hc⟩
   · exact(hs.2 b (Nat.ne_of_lt (Nat.lt_of_lt_of_le (Heap.lt_size e) (I.ok.cab x c hfn hc)))).trans (I.base.keep b o e n hb hx)
   · obtain⟨sl,e1⟩:=I.base.slot b o e n hb hx;exact⟨sl,(hs.2 b (Nat.ne_of_lt (Nat.lt_of_lt_of_le (Heap.lt_size e) (I.ok.cab x c hfn hc)))).trans e1⟩
   · obtain⟨o',e1⟩:=I.base.there b o e hx;exact⟨o',(hs.2 b (Nat.ne_of_lt (Nat.lt_of_lt_of_le (Heap.lt_size e) (I.ok.cab x c hfn hc)))).trans e1⟩
   · by_cases hj:j=i
     · subst hj;rw[hi]at e1;cases e1;rw[List.getElem?_set_self hiσ]at e2;cases e2;exact⟨u,r,.inr ⟨.inl hk,c,hc,hc'⟩⟩
     · rw[List.getElem?_set_ne (Ne.symm hj)]at e2;obtain⟨u',r',q⟩:=hl j y v' e1 e2 e3;refine⟨u',r',?_⟩;rcases q with q|⟨k,c',e,z'⟩
       · exact .inl q
       · refine .inr ⟨k,c',e,z'.sameBut hs ?_⟩;rintro rfl;exact hj (Js hN e1 (I.ok.inj _ _ _ e hc▸hi))
   · by_cases hcc:c'=c
     · subst hcc;exact⟨_,hc'⟩
     · obtain⟨w2,z2⟩:=I.cell y c' e;exact⟨w2,z2.sameBut hs hcc⟩
   · obtain⟨e,n,ne,nf,d⟩:=I.pin p hp;refine⟨(hs.2 p.1 ?_).trans e,n,ne,nf,d⟩;intro q;rw[q,hoc]at e;have q':oc=p.2:=Option.some.inj e;exact d w' (by rw[← q'];exact hocd)
theorem QC {M:Model}{A:Around}{E:Value->Shared->Prop}{i:Nat}{x:Str}{v:V}{u:Value}{Q:Unit->Shared->Prop} (I:Inv X pins σ H s) (hN:X.N.Nodup) (hi:X.N[i]?=some x) (hx:Loc X.env.scope x) (r:RelV v u)
   (h:∀ s',Inv X pins (σ.set i (some v)) H s'->Q () s') (hf:X.fn x=true∨X.env.scope.names.lookup x=some .local:=by first|exact .inl rfl|exact .inr rfl|assumption):wpAny M A (storeName X.env x u) Q E s :=
 J6 I hN hi hx r (fun s' I' _=>h s' I') hf
theorem Inv.call' {s':Shared}{ch:List Addr} (I:Inv X pins σ H s) (ho:s'.os=s.os) (u:Un (frs X.stack) ch H H' s.heap s'.heap) (hok:HOk X.prog X.w H' s'.heap) (hg:AllBare s'.gens)
   (hch:∀ b∈ch,(b∈X.ex∨X.s₀.heap.objs.size≤b)∧b≠X.env.locals∧(∀ x c,X.env.cells.lookup x=some c->c≠b)∧∀ p∈X.pn++pins,p.1≠b):Inv X pins σ H' s':=by
 obtain⟨h',g',d',t',o'⟩:=s';have e:o'=s.os:=ho;subst e;exact I.call (g':=g') (t':=t') (d':=d') u hok hg hch
end
abbrev XK:=Value->Option Addr->Hp->Prop
abbrev St:=List (Option V)
abbrev VK:=V->Hp->Prop
abbrev TE:=St->Hp->VK->Prop
abbrev TT:=St->Hp->(Bool->Hp->Prop)->Prop
abbrev TA:=St->Hp->(List V->Hp->Prop)->Prop
structure qa3 where
 nx:St->Hp->Prop
 rt:VK
 bk:St->Hp->Prop:=fun _ _=>False
 ct:St->Hp->Prop:=fun _ _=>False
abbrev TS:=qa3->St->Hp->Prop
inductive qet (X:Cx) (pins:List (Addr×Obj)) (σ:St) (Q:VK) (u:Value) (s':Shared):Prop
 | mk (v H':_) (h1:Inv X pins σ H' s') (h2:RelV v u) (h3:Q v H'):qet X pins σ Q u s'
def EP (X:Cx) (pins:List (Addr×Obj)) (σ:St) (Q:VK) (u:Value) (s':Shared):Prop:=qet X pins σ Q u s'
def TP (X:Cx) (pins:List (Addr×Obj)) (σ:St) (Q:Bool->Hp->Prop) (b:Bool) (s':Shared):Prop:=∃ H',Inv X pins σ H' s'∧Q b H'
inductive qeu (X:Cx) (pins:List (Addr×Obj)) (σ:St) (Q:List V->Hp->Prop) (us:List Value) (s':Shared):Prop
 | mk (vs H':_) (h1:Inv X pins σ H' s') (h2:Vals vs us) (h3:Q vs H'):qeu X pins σ Q us s'
def AP (X:Cx) (pins:List (Addr×Obj)) (σ:St) (Q:List V->Hp->Prop) (us:List Value) (s':Shared):Prop:=qeu X pins σ Q us s'
def SP (X:Cx) (pins:List (Addr×Obj)) (D:qa3) (f:Flow) (s':Shared):Prop :=
 match f with
 | .next=>∃ σ' H',Inv X pins σ' H' s'∧D.nx σ' H'
 | .brk=>∃ σ' H',Inv X pins σ' H' s'∧D.bk σ' H'
 | .cont=>∃ σ' H',Inv X pins σ' H' s'∧D.ct σ' H'
 | .ret u=>∃ v σ' H',Inv X pins σ' H' s'∧RelV v u∧D.rt v H'
def PE (X:Cx) (e:Expr) (t:TE):Prop :=
 ∀ (pins:List (Addr×Obj)) (s:Shared) (σ:St) (H:Hp) (Q:VK),Inv X pins σ H s->t σ H Q->wpAny (model X.prog X.w) X.A (eval e X.env) (EP X pins σ Q) X.xe s
def PT (X:Cx) (e:Expr) (t:TT):Prop :=
 ∀ (pins:List (Addr×Obj)) (s:Shared) (σ:St) (H:Hp) (Q:Bool->Hp->Prop),Inv X pins σ H s->t σ H Q->wpAny (model X.prog X.w) X.A (isTrue e X.env (eval e X.env)) (TP X pins σ Q) X.xe s
def PW (X:Cx) (e:Expr) (t:TT):Prop :=
 ∀ (whole:Sem Value) (pins:List (Addr×Obj)) (s:Shared) (σ:St) (H:Hp) (Q:Bool->Hp->Prop),Inv X pins σ H s->t σ H Q->wpAny (model X.prog X.w) X.A (isTrue e X.env whole) (TP X pins σ Q) X.xe s
theorem PW.pt {X:Cx}{e:Expr}{t:TT} (h:PW X e t):PT X e t:=h _
def PA (X:Cx) (es:List Expr) (t:TA):Prop :=
 ∀ (pos:Pos) (pins:List (Addr×Obj)) (s:Shared) (σ:St) (H:Hp) (Q:List V->Hp->Prop),Inv X pins σ H s->t σ H Q->wpAny (model X.prog X.w) X.A (spliced (backTo pos (starEach es X.env))) (AP X pins σ Q) X.xe s
def PS (X:Cx) (st:Stmt) (t:TS):Prop :=
 ∀ (pins:List (Addr×Obj)) (s:Shared) (σ:St) (H:Hp) (D:qa3),Inv X pins σ H s->t D σ H->wpAny (model X.prog X.w) X.A (exec st X.env) (SP X pins D) X.xe s
def PSs (X:Cx) (st:List Stmt) (t:TS):Prop :=
 ∀ (pins:List (Addr×Obj)) (s:Shared) (σ:St) (H:Hp) (D:qa3),Inv X pins σ H s->t D σ H->wpAny (model X.prog X.w) X.A (execs st X.env) (SP X pins D) X.xe s
theorem thn {α:Type}{t:Sem α}{Q Q':α->Shared->Prop}{M:Model}{A:Around}{E:Value->Shared->Prop}{s:Shared} (h:wpAny M A t Q E s) (hQ:∀ a s,Q a s->Q' a s):wpAny M A t Q' E s:=wpAny_mono h hQ fun _ _ x=>x
section
variable {X:Cx}
inductive qbK (i:Nat) (σ:St) (H:Hp) (Q:VK):Prop
 | mk (v:_) (h1:σ[i]?=some (some v)) (h2:Q v H):qbK i σ H Q
def qcS (i:Nat):TE:=fun σ H Q=>qbK i σ H Q
def tC (v:V):TE:=fun _ H Q=>Q v H
theorem qde {i:Nat}{x:Str}{pos:Pos} (hN:X.N[i]?=some x) (hv:Vis X.env.scope x) (hd:(x == ("__debug__":Str))=false:=by decide) (hcd:(x == ("__classdict__":Str))=false:=by decide):PE X (.Name x pos) (qcS i):=by
 intro pins s σ H Q I h;obtain⟨v,e,h⟩:=h;obtain⟨m,hn,hl⟩:=I.loc;obtain⟨u,r,l⟩:=hl i x v hN e hv;have fin:EP X pins σ Q u s:=⟨v,H,I,r,h⟩
 rcases l with ⟨hk,hm⟩|⟨hk,c,hc,hcell⟩
 · exact wpAny_Name (wpAny_loadName_local I.ok.kind hk hn hm fin) hd
 · rcases hk with hk|hk
   · exact wpAny_Name (wpAny_loadName_cell I.ok.kind hk hc hcell fin) hd
   · exact wpAny_Name (wpAny_loadName_free I.ok.kind hk hc hcell fin hcd) hd
theorem qd {i j pos}:PE X (.Constant (.int i) j pos) (tC (.int i)):=fun _ _ _ H _ I h=>wpAny_Constant_int ⟨.int i,H,I.tok _,⟨_,rfl⟩,h⟩
theorem QR {b j pos}:PE X (.Constant (.bool b) j pos) (tC (.bl b)):=fun _ _ _ H _ I h=>Constant_bool ⟨.bl b,H,I,rfl,h⟩
theorem qb2 {j pos}:PE X (.Constant .none j pos) (tC .non):=fun _ _ _ H _ I h=>Constant_none ⟨.non,H,I,rfl,h⟩
theorem zn {x j pos}:PE X (.Constant (.str x) j pos) (tC (.str x)):=fun _ _ _ H _ I h=>Calls.Constant_str ⟨.str x,H,I.tok _,⟨_,rfl⟩,h⟩
def Gl (X:Cx) (x:Str):Prop:=X.env.kindOf x=some .globalImplicit
theorem qcI {E:Value->Shared->Prop}{pins:List (Addr×Obj)}{s:Shared}{σ:St}{H:Hp}{x:Str}{u:Value}{pos:Pos}{Q:Value->Shared->Prop} (I:Inv X pins σ H s) (hg:Gl X x) (hm:X.mg x=some u) (h:Q u s)
   (hd:(x == ("__debug__":Str))=false:=by decide):wpAny (model X.prog X.w) X.A (eval (.Name x pos) X.env) Q E s :=
 Calls.Name_function_global I.ok.kind hg (Calls.loadGlobal_global (by rw[I.ok.glob];exact I.mod.glob.keeps I.bk) hm h) hd
theorem QW {E:Value->Shared->Prop}{pins:List (Addr×Obj)}{s:Shared}{σ:St}{H:Hp}{x:Str}{u:Value}{pos:Pos}{Q:Value->Shared->Prop} (I:Inv X pins σ H s) (hg:Gl X x) (hm:X.mg x=none) (hv:bootBuiltins x=some u) (h:Q u s)
   (hn:x≠"__name__":=by decide) (hd:(x == ("__debug__":Str))=false:=by decide):wpAny (model X.prog X.w) X.A (eval (.Name x pos) X.env) Q E s:=by
 obtain⟨mb,h1,h2⟩:=I.mod.blt;exact Calls.Name_function_global I.ok.kind hg (Calls.loadGlobal_builtin (by rw[I.ok.glob];exact I.mod.glob.keeps I.bk) hm (by rw[I.ok.blt];exact h1.keeps I.bk) ((h2 x hn).trans hv) h) hd
theorem zF {x:Str}{v:V}{u:Value}{pos:Pos} (hg:Gl X x) (hm:X.mg x=none) (hv:bootBuiltins x=some u) (r:RelV v u) (hn:x≠"__name__":=by decide) (hd:(x == ("__debug__":Str))=false:=by decide):PE X (.Name x pos) (tC v) :=
 fun _ _ _ H _ I h=>QW I hg hm hv ⟨v,H,I,r,h⟩ hn hd
variable {a b:Expr}{ta tb:TE}{pos:Pos}
inductive qea (Q:(Bool->Hp->Prop)) (x:V) (H1:Hp):Prop
 | mk (c:_) (h1:x=.bl c) (h2:Q c H1):qea Q x H1
def tB (t:TE):TT:=fun σ H Q=>t σ H fun x H1=>qea Q x H1
theorem zQ {e:Expr}{t:TE} (h:PE X e t) (he:∀ whole,isTrue e X.env whole=(do let v ← whole;standAt e.pos;holding [v] (truthy v)):=by intro _;rfl):PT X e (tB t):=by
 intro pins s σ H Q I hw;refine isTrue_plain (thn (h pins s σ H _ I hw) fun v s1 zz_=>?_) (he _);obtain⟨x,H1,I1,r1,q1⟩:=zz_;obtain⟨d,rfl,q⟩:=q1;cases r1;exact wpAny_truthy_bool ⟨H1,I1,q⟩
variable {tA tB':TT}{rest:List Expr}
def qeD (t u:TT):TT:=fun σ H Q=>t σ H fun c H1=>if c=true then u σ H1 Q else Q false H1
def tOr (t u:TT):TT:=fun σ H Q=>t σ H fun c H1=>if c=true then Q true H1 else u σ H1 Q
def qey (t:TT):TT:=fun σ H Q=>t σ H fun c H1=>Q (!c) H1
theorem Zy (ha:PT X a tA):PW X (.BoolOp .And [a] pos) tA:=by
 intro wh pins s σ H Q I h;refine isTrue_and (thn (ha pins s σ H Q I h) fun c s1 e=>?_)
 cases c with
 | true=>exact isTrue_and_nil e
 | false=>exact e
theorem Zg (ha:PT X a tA):PW X (.BoolOp .Or [a] pos) tA:=by
 intro wh pins s σ H Q I h;refine isTrue_or (thn (ha pins s σ H Q I h) fun c s1 e=>?_)
 cases c with
 | false=>exact isTrue_or_nil e
 | true=>exact e
theorem Jk (ha:PT X a tA) (hb:PW X (.BoolOp .And (b::rest) pos) tB'):PW X (.BoolOp .And (a::b::rest) pos) (qeD tA tB'):=by
 intro wh pins s σ H Q I h;refine isTrue_and (thn (ha pins s σ H _ I h) fun c s1 zz_=>?_);obtain⟨H1,I1,q1⟩:=zz_
 cases c with
 | true=>exact hb wh pins s1 σ H1 Q I1 q1
 | false=>exact⟨H1,I1,q1⟩
theorem Z7 (ha:PT X a tA) (hb:PW X (.BoolOp .Or (b::rest) pos) tB'):PW X (.BoolOp .Or (a::b::rest) pos) (tOr tA tB'):=by
 intro wh pins s σ H Q I h;refine isTrue_or (thn (ha pins s σ H _ I h) fun c s1 zz_=>?_);obtain⟨H1,I1,q1⟩:=zz_
 cases c with
 | true=>exact⟨H1,I1,q1⟩
 | false=>exact hb wh pins s1 σ H1 Q I1 q1
theorem zR (ha:PT X a tA):PT X (.UnaryOp .Not a pos) (qey tA):=by
 intro pins s σ H Q I h;exact isTrue_not (ha pins s σ H (fun c H1=>Q (!c) H1) I h)
def qdO (ta tb:TE):TE:=fun σ H Q=>ta σ H fun x H1=>∃ c,x=.bl c∧if c=true then tb σ H1 Q else Q (.bl false) H1
def qex (ta tb:TE):TE:=fun σ H Q=>ta σ H fun x H1=>∃ c,x=.bl c∧if c=true then Q (.bl true) H1 else tb σ H1 Q
inductive J4 (Q:VK) (x:V) (H1:Hp):Prop
 | mk (c:_) (h1:x=.bl c) (h2:Q (.bl (!c)) H1):J4 Q x H1
def qdF (ta:TE):TE:=fun σ H Q=>ta σ H fun x H1=>J4 Q x H1
theorem ja {op}{t:TE} (h:PE X a t):PE X (.BoolOp op [a] pos) t:=fun pins s σ H Q I hw=>BoolOp_one (h pins s σ H Q I hw)
theorem Zi (ha:PE X a ta) (hb:PE X (.BoolOp .And (b::rest) pos) tb):PE X (.BoolOp .And (a::b::rest) pos) (qdO ta tb):=by
 intro pins s σ H Q I h;refine BoolOp_and (thn (ha pins s σ H _ I h) fun v s1 zz_=>?_);obtain⟨x,H1,I1,r1,q1⟩:=zz_;obtain⟨c,rfl,q1⟩:=q1;cases r1;refine wpAny_truthy_bool ?_
 cases c with
 | true=>exact hb pins s1 σ H1 Q I1 q1
 | false=>exact⟨.bl false,H1,I1,rfl,q1⟩
theorem qdT (ha:PE X a ta) (hb:PE X (.BoolOp .Or (b::rest) pos) tb):PE X (.BoolOp .Or (a::b::rest) pos) (qex ta tb):=by
 intro pins s σ H Q I h;refine BoolOp_or (thn (ha pins s σ H _ I h) fun v s1 zz_=>?_);obtain⟨x,H1,I1,r1,q1⟩:=zz_;obtain⟨c,rfl,q1⟩:=q1;cases r1;refine wpAny_truthy_bool ?_
 cases c with
 | false=>exact hb pins s1 σ H1 Q I1 q1
 | true=>exact⟨.bl true,H1,I1,rfl,q1⟩
theorem qb1 (ha:PE X a ta):PE X (.UnaryOp .Not a pos) (qdF ta):=by
 intro pins s σ H Q I h;refine UnaryOp_ (thn (ha pins s σ H _ I h) fun v s1 zz_=>?_);obtain⟨x,H1,I1,r1,q1⟩:=zz_;obtain⟨c,rfl,q1⟩:=q1;cases r1;exact not_of (wpAny_truthy_bool ⟨.bl (!c),H1,I1,rfl,q1⟩)
end
def SqL (K:Frag) (H:Hp) (a:Addr) (xs:List V):Prop :=
 Rd H a (.lst xs) ∨
   ∃ (o:Obj) (its:Array Value) (n:Nat),K.lookup a=some o∧o.cls=.type "list"∧o.dict=none∧o.data=.seq its n∧its.size≤sizeLine∧Vals xs its.toList
def SqT (K:Frag) (H:Hp) (a:Addr) (xs:List V):Prop :=
 Rd H a (.tup xs) ∨
   ∃ (o:Obj) (its:Array Value) (n:Nat),K.lookup a=some o∧o.cls=.type "tuple"∧o.data=.seq its n∧its.size≤sizeLine∧Vals xs its.toList
def qeK:Value->Option V
 | .none=>some .non
 | .bool b=>some (.bl b)
 | .int i _=>some (.int i)
 | .str x _=>some (.str x)
 | .bytes b _=>some (.byt b)
 | .float b _=>some (.flt b)
 | .ref a=>some (.ref a)
 | .type n=>some (.ty n)
 | _=>none
theorem RelV.abs {x:V}{u:Value} (r:RelV x u):qeK u=some x:=by
 cases x with
 | non=>cases r;rfl
 | bl _=>cases r;rfl
 | int _=>obtain⟨t,rfl⟩:=r;rfl
 | str _=>obtain⟨t,rfl⟩:=r;rfl
 | byt _=>obtain⟨t,rfl⟩:=r;rfl
 | flt _=>obtain⟨t,rfl⟩:=r;rfl
 | ref _=>cases r;rfl
 | ty _=>cases r;rfl
theorem RelV.inj {x y:V}{u:Value} (r:RelV x u) (q:RelV y u):x=y:=Option.some.inj (r.abs.symm.trans q.abs)
theorem Vals.inj:∀ {xs ys:List V}{us:List Value},Vals xs us->Vals ys us->xs=ys
 | _,_,_,.nil,.nil=>rfl
 | _,_,_,.cons r t,.cons r' t'=>by rw[r.inj r',Vals.inj t t']
section
variable {X:Cx}{pins:List (Addr×Obj)}{σ:St}{H:Hp}{s:Shared}{a:Addr}{xs ys:List V}
theorem SqL.of {K:Frag} (h:H a=some (.lst xs)):SqL K H a xs:=.inl (.inl h)
theorem SqT.of {K:Frag} (h:H a=some (.tup xs)):SqT K H a xs:=.inl (.inl h)
theorem Inv.list (I:Inv X pins σ H s) (h:SqL X.K H a xs):∃ its:List Value,Vals xs its∧PlainL s.heap a its.toArray∧xs.length≤sizeLine:=by
 rcases h with h|⟨o,its,n,hk,hc,hd,hs,hz,r⟩
 · obtain⟨z,its,n,r,e⟩:=h.ok I.hok;exact⟨its,r,⟨_,n,e,rfl,rfl,rfl⟩,z⟩
 · refine⟨its.toList,r,⟨o,n,I.kIn a o hk,hc,hd,by simpa using hs⟩,?_⟩;have e:=r.length;simp only[Array.length_toList]at e;omega
theorem Inv.tuple (I:Inv X pins σ H s) (h:SqT X.K H a xs):∃ its:List Value,Vals xs its∧IsTup s.heap a its.toArray∧xs.length≤sizeLine:=by
 rcases h with h|⟨o,its,n,hk,hc,hs,hz,r⟩
 · obtain⟨z,its,r,p⟩:=h.ok I.hok;exact⟨its,r,p,z⟩
 · refine⟨its.toList,r,⟨o,I.kIn a o hk,hc,n,by simpa using hs⟩,?_⟩;have e:=r.length;simp only[Array.length_toList]at e;omega
theorem Inv.list_inj (I:Inv X pins σ H s) (h:SqL X.K H a xs) (h':SqL X.K H a ys):xs=ys:=by
 obtain⟨its,r,⟨o,n,e,_,_,d⟩,_⟩:=I.list h;obtain⟨its',r',⟨o',n',e',_,_,d'⟩,_⟩:=I.list h';rw[e]at e';cases e';rw[d]at d';injection d' with d1 _
 have:its=its':=by simpa using congrArg Array.toList d1
 subst this;exact r.inj r'
theorem Inv.tuple_inj (I:Inv X pins σ H s) (h:SqT X.K H a xs) (h':SqT X.K H a ys):xs=ys:=by
 obtain⟨its,r,⟨o,e,_,n,d⟩,_⟩:=I.tuple h;obtain⟨its',r',⟨o',e',_,n',d'⟩,_⟩:=I.tuple h';rw[e]at e';cases e';rw[d]at d';injection d' with d1 _
 have:its=its':=by simpa using congrArg Array.toList d1
 subst this;exact r.inj r'
end
abbrev Cx.wish (X:Cx) (E:Value->Shared->Prop):Cx:={ X with xe:=E }
abbrev Cx.nox (X:Cx):Cx:=X.wish fun _ _=>False
theorem Cx.Ok.wish {X:Cx} (ok:X.Ok) (E:Value->Shared->Prop):(X.wish E).Ok :=
 ⟨ok.mod,ok.kind,ok.glob,ok.blt,ok.above,ok.inj,ok.has,ok.cab,ok.hd,ok.frames,ok.stk,ok.exf,ok.bs,ok.bsz,ok.noex,ok.exfs,ok.funs,ok.frf⟩
theorem Cx.Ok.unwish {X:Cx}{E:Value->Shared->Prop} (ok:(X.wish E).Ok):X.Ok :=
 ⟨ok.mod,ok.kind,ok.glob,ok.blt,ok.above,ok.inj,ok.has,ok.cab,ok.hd,ok.frames,ok.stk,ok.exf,ok.bs,ok.bsz,ok.noex,ok.exfs,ok.funs,ok.frf⟩
section
variable {X:Cx}{pins:List (Addr×Obj)}{σ:St}{H:Hp}{s:Shared}{E:Value->Shared->Prop}
theorem Inv.wish (I:Inv X pins σ H s) (E:Value->Shared->Prop):Inv (X.wish E) pins σ H s:=⟨I.ok.wish E,I.os,I.bare,I.base,I.loc,I.cell,I.free,I.freeC,I.pin,I.hok,I.len⟩
theorem Inv.unwish (I:Inv (X.wish E) pins σ H s):Inv X pins σ H s:=⟨I.ok.unwish,I.os,I.bare,I.base,I.loc,I.cell,I.free,I.freeC,I.pin,I.hok,I.len⟩
theorem SP.unwish {D:qa3}{f:Flow}{s':Shared} (h:SP (X.wish E) pins D f s'):SP X pins D f s':=by
 cases f with
 | next=>obtain⟨σ',H',I,q⟩:=h;exact⟨σ',H',I.unwish,q⟩
 | brk=>obtain⟨σ',H',I,q⟩:=h;exact⟨σ',H',I.unwish,q⟩
 | cont=>obtain⟨σ',H',I,q⟩:=h;exact⟨σ',H',I.unwish,q⟩
 | ret u=>obtain⟨v,σ',H',I,r,q⟩:=h;exact⟨v,σ',H',I.unwish,r,q⟩
theorem PSs.nox {st:List Stmt}{t:TS} (h:PSs X.nox st t):PSs X st t:=fun pins s σ H D I hw =>
 wpAny_mono (h pins s σ H D (I.wish _) hw) (fun _ _ q=>q.unwish) fun _ _ z=>False.elim z
end
section
variable {X:Cx}{st:Stmt}{rest:List Stmt}{t u:TS}{e:Expr}{te:TE}{pos:Pos}
def qJ:TS:=fun D σ H=>D.nx σ H
def qdD (t u:TS):TS:=fun D σ H=>t { D with nx:=u D } σ H
theorem qI:PSs X [] qJ:=fun _ _ σ H _ I h=>wpAny_execs_nil ⟨σ,H,I,h⟩
theorem qe (h1:PS X st t) (h2:PSs X rest u):PSs X (st::rest) (qdD t u):=by
 intro pins s σ H D I h;refine wpAny_execs_cons (thn (h1 pins s σ H { D with nx:=u D } I h) fun f s1 q=>?_)
 cases f with
 | next =>
   obtain⟨σ',H',I',q⟩:=q;exact h2 pins s1 σ' H' D I' q
 | ret v=>exact q
 | brk=>exact q
 | cont=>exact q
theorem qg (h1:PS X st t):PSs X [st] t:=by
 intro pins s σ H D I h;refine wpAny_execs_cons (thn (h1 pins s σ H D I h) fun f s1 q=>?_)
 cases f with
 | next=>exact wpAny_execs_nil q
 | ret v=>exact q
 | brk=>exact q
 | cont=>exact q
theorem Inv.quiet {pins:List (Addr×Obj)}{σ:St}{H:Hp}{s:Shared} (I:Inv X pins σ H s):interactive X.env=false:=by simp[interactive,I.ok.kind]
def qdJ (te:TE):TS:=fun D σ H=>te σ H fun _ H1=>D.nx σ H1
theorem Qk (he:PE X e te) (hs:swapsWith e none pos.line X.env=pure false:=by rfl):PS X (.Expr e pos) (qdJ te):=by
 intro pins s σ H D I h;exact wpAny_Expr_any (thn (he pins s σ H _ I h) fun v s1 ⟨x,H1,I1,r1,q1⟩=>⟨σ,H1,I1,q1⟩) I.quiet hs
def qcT (te:TE):TS:=fun D σ H=>te σ H D.rt
theorem qy (he:PE X e te):PS X (.Return (some e) pos) (qcT te):=by
 intro pins s σ H D I h;exact wpAny_Return_some (thn (he pins s σ H _ I h) fun v s1 ⟨x,H1,I1,r1,q1⟩=>⟨x,σ,H1,I1,r1,q1⟩)
def qdH (c:TT) (t u:TS):TS:=fun D σ H=>c σ H fun b H1=>if b=true then t D σ H1 else u D σ H1
theorem zi {c:Expr}{a b:List Stmt}{tc:TT} (hc:PT X c tc) (ha:PSs X a t) (hb:PSs X b u):PS X (.If c a b pos) (qdH tc t u):=by
 intro pins s σ H D I h;refine wpAny_If (thn (hc pins s σ H _ I h) fun d s1 zz_=>?_);obtain⟨H1,I1,q1⟩:=zz_
 cases d with
 | true=>exact ha pins s1 σ H1 D I1 q1
 | false=>exact hb pins s1 σ H1 D I1 q1
def qcZ:TS:=fun _ _ _=>False
theorem Jm:PS X st qcZ:=fun _ _ _ _ _ _ h=>h.elim
end
abbrev TG:=V->St->Hp->(St->Hp->Prop)->Prop
abbrev TGs:=List V->St->Hp->(St->Hp->Prop)->Prop
def PG (X:Cx) (target:Expr) (t:TG):Prop :=
 ∀ (pins:List (Addr×Obj)) (s:Shared) (σ:St) (H:Hp) (v:V) (u:Value) (Q:St->Hp->Prop),Inv X pins σ H s->RelV v u->t v σ H Q ->
   wpAny (model X.prog X.w) X.A (assign target X.env u) (fun _ s'=>∃ σ' H',Inv X pins σ' H' s'∧Q σ' H') X.xe s
def PGs (X:Cx) (ts:List Expr) (t:TGs):Prop :=
 ∀ (pins:List (Addr×Obj)) (s:Shared) (σ:St) (H:Hp) (vs:List V) (us:List Value) (Q:St->Hp->Prop),Inv X pins σ H s->Vals vs us->t vs σ H Q ->
   wpAny (model X.prog X.w) X.A (assignInOrder ((assignEach ts X.env).map (·.2)) us) (fun _ s'=>∃ σ' H',Inv X pins σ' H' s'∧Q σ' H') X.xe s
abbrev qd7:=V->V->V->Hp->(Hp->Prop)->Prop
def qer (X:Cx) (t:qd7):Prop :=
 ∀ (pins:List (Addr×Obj)) (s:Shared) (σ:St) (H:Hp) (o i v:V) (ov iv u:Value) (Q:Hp->Prop),Inv X pins σ H s->RelV o ov->RelV i iv->RelV v u->t o i v H Q ->
   wpAny (model X.prog X.w) X.A (setItem ov iv u) (fun _ s'=>∃ H',Inv X pins σ H' s'∧Q H') X.xe s
abbrev TIp:=V->V->Hp->VK->Prop
def PIp (X:Cx) (op:Operator) (t:TIp):Prop :=
 ∀ (pins:List (Addr×Obj)) (s:Shared) (σ:St) (H:Hp) (x y:V) (v u:Value) (Q:VK),Inv X pins σ H s->RelV x v->RelV y u->t x y H Q ->
   wpAny (model X.prog X.w) X.A (inplaceOp op v u) (EP X pins σ Q) X.xe s
section
variable {X:Cx}{pos:Pos}
def qbz (i:Nat):TG:=fun v σ H Q=>Q (σ.set i (some v)) H
theorem qt {i:Nat}{x:Str} (hN:X.N.Nodup) (hi:X.N[i]?=some x) (hx:Loc X.env.scope x) (hf:X.fn x=true∨X.env.scope.names.lookup x=some .local:=by first|exact .inl rfl|exact .inr rfl|assumption):PG X (.Name x pos) (qbz i):=by
 intro pins s σ H v u Q I r h;exact wpAny_assign_Name (QC I hN hi hx r (fun s' I'=>⟨_,H,I',h⟩) hf)
def qeJ:TGs:=fun vs σ H Q=>vs=[]∧Q σ H
inductive qaM (t:TG) (u:TGs) (vs:List V) (σ:St) (H:Hp) (Q:(St->Hp->Prop)):Prop
 | mk (v r:_) (h1:vs=v::r) (h2:t v σ H fun σ' H'=>u r σ' H' Q):qaM t u vs σ H Q
def qd2 (t:TG) (u:TGs):TGs:=fun vs σ H Q=>qaM t u vs σ H Q
theorem zD:PGs X [] qeJ:=by
 intro pins s σ H vs us Q I r h;obtain⟨e,h⟩:=h;subst e;cases r;exact assignInOrder_nil ⟨σ,H,I,h⟩
theorem qE {e:Expr}{es:List Expr}{t:TG}{u:TGs} (h1:PG X e t) (h2:PGs X es u)
   (hs:(assignEach (e::es) X.env).map (·.2)=assign e X.env::(assignEach es X.env).map (·.2):=by rfl):PGs X (e::es) (qd2 t u):=by
 intro pins s σ H vs us Q I r h;obtain⟨v,vr,e1,h⟩:=h;subst e1
 cases r with
 | cons r rr =>
   rw[hs];refine assignInOrder_cons (thn (h1 pins s σ H _ _ _ I r h) fun _ s1 zz_=>?_);obtain⟨σ1,H1,I1,q1⟩:=zz_;exact h2 pins s1 σ1 H1 _ _ Q I1 rr q1
inductive qb8 (K:Frag) (n:Nat) (t:TGs) (v:V) (σ:St) (H:Hp) (Q:(St->Hp->Prop)):Prop
 | mk (a xs:_) (h1:v=.ref a) (h2:SqT K H a xs) (h3:xs.length=n) (h4:t xs σ H Q):qb8 K n t v σ H Q
def qd1 (K:Frag) (n:Nat) (t:TGs):TG:=fun v σ H Q=>qb8 K n t v σ H Q
theorem Qv {es:List Expr}{k:Nat}{t:TGs}{n:Nat} (hc:X.calm=true) (h:PGs X es t)
   (hn:(assignEach es X.env).length=n:=by rfl) (hst:(assignEach es X.env).findIdx? (·.1)=none:=by rfl):PG X (.Tuple es k pos) (qd1 X.K n t):=by
 intro pins s σ H v u Q I r hw;obtain⟨a,xs,e1,hq,hl,hw⟩:=hw;subst e1;cases r;obtain⟨its,rv,ht,hz⟩:=I.tuple hq;refine assign_Tuple_tuple (I.ok.hd hc) ht (by simp[hn,← hl,rv.length]) hst fun h' hx=>?_;have I1:Inv X pins σ H { s with heap:=h' }:=I.kept (t':=s.toks) fun b o e=>hx b o (Nat.ne_of_lt (Heap.lt_size e)) e;exact h pins _ σ H xs _ Q I1 (by simpa using rv) hw
def qeI (to ti:TE) (t:qd7):TG:=fun v σ H Q=>to σ H fun o H1=>ti σ H1 fun i H2=>t o i v H2 fun H3=>Q σ H3
theorem qdd {o i:Expr}{to ti:TE}{t:qd7} (ho:PE X o to) (hi:PE X i ti) (hs:qer X t)
   (ha:∀ v,assign (.Subscript o i pos) X.env v=(do
     let ov ← holding [v] (eval o X.env);let iv ← holding [v,ov] (eval i X.env)
     standAt pos
     holding [v,ov,iv] (setItem ov iv v)
     release [v,ov,iv] []):=by intro _;rfl):PG X (.Subscript o i pos) (qeI to ti t):=by
 intro pins s σ H v u Q I r h;rw[ha];refine wpAny_bind (wpAny_holding (thn (ho pins s σ H _ I h) fun ov s1 zz_=>?_));obtain⟨x,H1,I1,r1,q1⟩:=zz_;refine wpAny_bind (wpAny_holding (thn (hi pins s1 σ H1 _ I1 q1) fun iv s2 zz_=>?_));obtain⟨y,H2,I2,r2,q2⟩:=zz_;refine wpAny_bind (wpAny_standAt (wpAny_bind (wpAny_holding (thn (hs pins s2 σ H2 x y v ov iv u _ I2 r1 r2 r q2) fun _ s3 zz_=>?_))));obtain⟨H3,I3,q3⟩:=zz_;exact wpAny_release ⟨σ,H3,I3,q3⟩
def qc2 (te:TE) (g:TG):TS:=fun D σ H=>te σ H fun x H1=>g x σ H1 D.nx
theorem qak {tg e:Expr}{te:TE}{g:TG} (he:PE X e te) (hg:PG X tg g) (hs:swapsWithSole [tg] e pos.line X.env=pure false:=by rfl) (hw:swappedStores [tg] e X.env=pure none:=by rfl)
   (h1:(assignEach [tg] X.env).map (·.2)=[assign tg X.env]:=by rfl):PS X (.Assign [tg] e pos) (qc2 te g):=by
 intro pins s σ H D I h;refine wpAny_Assign_stores (thn (he pins s σ H _ I h) fun v s1 zz_=>?_) hs hw;obtain⟨x,H1,I1,r1,q1⟩:=zz_;rw[h1];exact thn (hg pins s1 σ H1 x v _ I1 r1 q1) fun _ s2 q=>q
theorem qx {i:Nat}{x:Str}{e:Expr}{te:TE}{pos':Pos} (hN:X.N.Nodup) (hi:X.N[i]?=some x) (hx:Loc X.env.scope x) (he:PE X e te) (hs:swapsWith e (some (.Name x pos')) pos.line X.env=pure false:=by rfl) (hf:X.fn x=true∨X.env.scope.names.lookup x=some .local:=by first|exact .inl rfl|exact .inr rfl|assumption) :
   PS X (.Assign [.Name x pos'] e pos) (qc2 te (qbz i)):=by
 intro pins s σ H D I h;refine wpAny_Assign_Name (thn (he pins s σ H _ I h) fun v s1 zz_=>?_) hs;obtain⟨y,H1,I1,r1,q1⟩:=zz_;exact QC I1 hN hi hx r1 (fun s2 I2=>⟨_,H1,I2,q1⟩) hf
def qeC (i:Nat) (te:TE) (ti:TIp):TS:=fun D σ H=>∃ x,σ[i]?=some (some x)∧te σ H fun y H1=>ti x y H1 fun z H2=>D.nx (σ.set i (some z)) H2
theorem qb0 {i:Nat}{x:Str}{e:Expr}{te:TE}{op:Operator}{ti:TIp}{pos':Pos} (hN:X.N.Nodup) (hi:X.N[i]?=some x) (hx:Loc X.env.scope x) (he:PE X e te) (ho:PIp X op ti) (hf:X.fn x=true∨X.env.scope.names.lookup x=some .local:=by first|exact .inl rfl|exact .inr rfl|assumption) :
   PS X (.AugAssign (.Name x pos') op e pos) (qeC i te ti):=by
 intro pins s σ H D I h;obtain⟨v,e1,h⟩:=h;obtain⟨m,hn,hl⟩:=I.loc;have vis:Vis X.env.scope x:=by rcases hx with k|k;exact .inl k;exact .inr (.inl k)
 obtain⟨u,r,l⟩:=hl i x v hi e1 vis;refine wpAny_AugAssign_Name ?_
 have go:wpAny (model X.prog X.w) X.A (eval e X.env) (fun w s₂=>wpAny (model X.prog X.w) X.A (inplaceOp op u w) (fun r s₃=>wpAny (model X.prog X.w) X.A (storeName X.env x r) (fun _=>SP X pins D .next) X.xe s₃) X.xe s₂) X.xe s:=by
   refine thn (he pins s σ H _ I h) fun w s1 zz_=>?_;obtain⟨y,H1,I1,r1,q1⟩:=zz_;refine thn (ho pins s1 σ H1 v y u w _ I1 r r1 q1) fun z s2 zz_=>?_;obtain⟨zv,H2,I2,r2,q2⟩:=zz_;exact QC I2 hN hi hx r2 (fun s3 I3=>⟨_,H2,I3,q2⟩) hf
 rcases l with ⟨hk,hm⟩|⟨hk,c,hc,hcell⟩
 · exact wpAny_loadName_local I.ok.kind hk hn hm go
 · rcases hk with hk|hk
   · exact wpAny_loadName_cell I.ok.kind hk hc hcell go
   · rcases hx with k|k
     · have:X.env.scope.names.lookup x=some .free:=hk
       rw[k]at this;cases this
     · have:X.env.scope.names.lookup x=some .free:=hk
       rw[k]at this;cases this
def ipI (f:Int->Int->Int):TIp:=fun x y H Q=>∃ i j,x=.int i∧y=.int j∧Q (.int (f i j)) H
theorem qb6:PIp X .Add (ipI fun i j=>i+j):=by
 intro pins s σ H x y v u Q I r1 r2 h;obtain⟨i,j,e1,e2,q⟩:=h;subst e1;subst e2;obtain⟨t,rfl⟩:=r1;obtain⟨t',rfl⟩:=r2;exact iadd_int ⟨.int _,H,I.tok _,⟨_,rfl⟩,q⟩
def qbJ (c:TT) (tb:TS):TS:=fun D σ H=>∃ W:Nat->St->Hp->Prop,(∃ m,W m σ H)∧∀ m σ H,W m σ H ->
 c σ H fun b H1=>if b=true then ∃ N:St->Hp->Prop,(∀ σ' H',N σ' H'->∃ m',m' < m∧W m' σ' H')∧tb { D with nx:=N,ct:=N,bk:=D.nx } σ H1 else D.nx σ H1
theorem qbi {c:Expr}{body:List Stmt}{tc:TT}{tb:TS} (hp:PassesOwn (model X.prog X.w) X.A X.env X.xe) (hc:PT X c tc) (hb:PSs X body tb):PS X (.While c body [] pos) (qbJ tc tb):=by
 intro pins s σ H D I h;obtain⟨W,⟨m0,w0⟩,turn⟩:=h;refine wpAny_While (codeAny_whileLoop (fun n s'=>∃ σ' H',Inv X pins σ' H' s'∧W n σ' H') ?_ m0 ⟨σ,H,I,w0⟩);rintro n s1 ⟨σ1,H1,I1,w1⟩;refine wpAny_passesOwn hp (thn (hc pins s1 σ1 H1 _ I1 (turn n σ1 H1 w1)) fun b s2 zz_=>?_);obtain⟨H2,I2,q2⟩:=zz_
 cases b with
 | true =>
   obtain⟨N,hN,q2⟩:=q2;rw[if_pos rfl];refine wpAny_passesOwn hp (thn (hb pins s2 σ1 H2 _ I2 q2) fun f s3 q3=>?_)
   cases f with
   | next =>
     obtain⟨σ3,H3,I3,n3⟩:=q3;obtain⟨m',hm,w3⟩:=hN σ3 H3 n3;exact⟨m',hm,σ3,H3,I3,w3⟩
   | cont =>
     obtain⟨σ3,H3,I3,n3⟩:=q3;obtain⟨m',hm,w3⟩:=hN σ3 H3 n3;exact⟨m',hm,σ3,H3,I3,w3⟩
   | brk=>exact q3
   | ret v=>exact q3
 | false =>
   rw[if_neg Bool.false_ne_true];exact wpAny_execs_nil ⟨σ1,H2,I2,q2⟩
end
structure It where
 go:Nat->Hp->Prop
 yld:Nat->Hp->V->Hp->Prop
 stop:Nat->Hp->Prop
def JC (X:Cx) (pins:List (Addr×Obj)) (H:Hp) (b:Addr):Prop :=
 H b=none∧b≠X.env.locals∧b∉X.fs∧(b∈X.ex∨X.s₀.heap.objs.size≤b)∧(∀ x c,X.env.cells.lookup x=some c->c≠b)∧∀ p∈X.pn++pins,p.1≠b
theorem Inv.fpOk {X:Cx}{pins:List (Addr×Obj)}{σ:St}{H H':Hp}{s:Shared}{b:Addr} (I:Inv X pins σ H s) (hb:s.heap.objs.size≤b) (hn:H' b=none):JC X pins H' b:=by
 refine⟨hn,Nat.ne_of_gt (Nat.lt_of_lt_of_le I.lt hb),I.nofs hb,.inr (Nat.le_trans I.sz hb),fun x c e z=>?_,fun p hp z=>?_⟩
 · obtain⟨v,q⟩:=I.cell x c e;exact absurd (Nat.lt_of_lt_of_le q.lt (by rw[z];exact hb)) (Nat.lt_irrefl _)
 · exact absurd (Nat.lt_of_lt_of_le (Heap.lt_size (I.pin p hp).1) (by rw[z];exact hb)) (Nat.lt_irrefl _)
structure qdx (P:Program) (w:World) (K:Frag) (tg:Expr) (J:It) (fp:List Addr) (it:Addr) (tn:Nat->Heap->Prop):Prop where
 mem:it∈fp
 obj:∀ i h,tn i h->∀ b∈fp,∃ o,h.get? b=some o∧∀ v,o.data≠.cell v
 keep:∀ i h h',tn i h->(∀ b∈fp,∀ o,h.get? b=some o->h'.get? b=some o)->tn i h'
 item:∀ (X:Cx),X.prog=P->X.w=w->X.K=K->X.calm=true->∀ (i:Nat) (pins:List (Addr×Obj)) (s:Shared) (σ:St) (H:Hp) (E:Value->Shared->Prop),Inv X pins σ H s->(∀ b∈fp,JC X pins H b)->tn i s.heap->J.go i H ->
   wpAny (model P w) X.A (pyNext (.ref it)) (fun r s1=>∃ u,r=some u ∧
     wpAny (model P w) X.A (letOwnedTupleGo tg (.ref it) u) (fun _ s2=>∃ x H',Inv X pins σ H' s2∧RelV x u∧J.yld i H x H'∧tn (i+1) s2.heap∧∀ b∈fp,H' b=none) E s1) E s
 done:∀ (X:Cx),X.prog=P->X.w=w->X.K=K->X.calm=true->∀ (i:Nat) (pins:List (Addr×Obj)) (s:Shared) (σ:St) (H:Hp) (E:Value->Shared->Prop),Inv X pins σ H s->(∀ b∈fp,JC X pins H b)->tn i s.heap->J.stop i H ->
   wpAny (model P w) X.A (pyNext (.ref it)) (fun r s1=>r=none∧Inv X pins σ H s1) E s
 self:∀ (A:Around) (i:Nat) (s:Shared) (Q:Value->Shared->Prop) (E:Value->Shared->Prop),tn i s.heap->Q (.ref it) s->wpAny (model P w) A (pyIter (.ref it)) Q E s
abbrev TI:=St->Hp->(It->Hp->Prop)->Prop
def PIE (X:Cx) (pins:List (Addr×Obj)) (σ:St) (tg:Expr) (R:It->Hp->Prop) (itv:Value) (s2:Shared):Prop :=
 ∃ (it:Addr) (fp:List Addr) (tn:Nat->Heap->Prop) (J:It) (H':Hp),itv=.ref it∧Inv X pins σ H' s2∧qdx X.prog X.w X.K tg J fp it tn∧tn 0 s2.heap∧(∀ b∈fp,JC X pins H' b)∧R J H'
def PI (X:Cx) (tg iter:Expr) (wi:TI):Prop :=
 ∀ (pins:List (Addr×Obj)) (s:Shared) (σ:St) (H:Hp) (R:It->Hp->Prop),Inv X pins σ H s->wi σ H R ->
   wpAny (model X.prog X.w) X.A (eval iter X.env) (fun v s1=>wpAny (model X.prog X.w) X.A (pyIter v) (PIE X pins σ tg R) X.xe s1) X.xe s
theorem qcK {M:Model}{A:Around}{E:Value->Shared->Prop}{s:Shared}{tg:Expr}{it:Addr}{u:Value}{o:Obj}{n:String}{vs:Array Value}{Q:Unit->Shared->Prop} (ho:s.heap.get? it=some o) (hc:o.cls=.type n) (hd:o.data=.fields vs)
   (hn:["enumerate","zip","dict_itemiterator","dict_reverseitemiterator","odict_iterator","itertools.zip_longest","itertools.pairwise"].contains n=false) (hQ:Q () s):wpAny M A (letOwnedTupleGo tg (.ref it) u) Q E s:=by
 unfold letOwnedTupleGo;cases tg<;>first
   | exact wpAny_pure hQ
   | (cases u<;>first
       | exact wpAny_pure hQ
       | (refine wpAny_bind (wpAny_load ho ?_)
          rw[hc,hd];show wpAny M A (if (["enumerate","zip","dict_itemiterator","dict_reverseitemiterator","odict_iterator","itertools.zip_longest","itertools.pairwise"].contains n && vs[0]? == some (rawInt _))=true then _ else _) Q E s;rw[if_neg (by intro h;rw[hn,Bool.false_and]at h;cases h)]
          exact wpAny_pure hQ))
def Itl (K:Frag) (a:Addr):It :=
 ⟨fun i H=>∃ xs x,SqL K H a xs∧xs[i]?=some x,fun i H x H'=>H'=H∧∀ xs,SqL K H a xs->xs[i]?=some x,fun i H=>∃ xs,SqL K H a xs∧xs.length≤i⟩
def Itt (K:Frag) (a:Addr):It :=
 ⟨fun i H=>∃ xs x,SqT K H a xs∧xs[i]?=some x,fun i H x H'=>H'=H∧∀ xs,SqT K H a xs->xs[i]?=some x,fun i H=>∃ xs,SqT K H a xs∧xs.length≤i⟩
def Itr (lo:Int) (n:Nat):It:=⟨fun i _=>i < n,fun i H x H'=>H'=H∧x=.int (lo+i),fun i _=>n≤i⟩
theorem JX {P:Program}{w:World}{K:Frag}{tg:Expr} (a it:Addr):qdx P w K tg (Itl K a) [it] it (fun i h=>h.IsListIter it a i) where
 mem:=by simp
 obj:=fun i h st b hb=>by
   have e:b=it:=by simpa using hb
   subst e;obtain⟨o,e,c,d⟩:=st;exact⟨o,e,fun v z=>by rw[d]at z;cases z⟩
 keep:=fun i h h' st k=>st.at fun o e=>k it (by simp) o e
 item:=by
   intro X hP hw hK hc i pins s σ H E I hf st hg;subst hP hw hK;obtain⟨xs,x,hq,hx⟩:=hg;obtain⟨its,rv,p,hz⟩:=I.list hq;obtain⟨u,hu,ru⟩:=rv.get hx;obtain⟨f0,f1,f2,f3,f4,f5⟩:=hf it (by simp);refine wpAny_pyNext_list_item st p.isList (x:=u) (by simpa using hu) fun h' st' sb=>?_;have I1:Inv X pins σ H { s with heap:=h' }:=I.turned (t':=s.toks) (fun b o hb e=>(sb.2 b hb).trans e) f0 f1 f3 f4 f5;obtain⟨o,e,c,d⟩:=id st';exact⟨u,rfl,qcK (s:={ s with heap:=h' }) e c d (by decide) ⟨x,H,I1,ru,⟨rfl,fun ys hy=>by rw[I.list_inj hy hq];exact hx⟩,st',fun b hb=>(hf b hb).1⟩⟩
 done:=by
   intro X hP hw hK hc i pins s σ H E I hf st hg;subst hP hw hK;obtain⟨xs,hq,hx⟩:=hg;obtain⟨its,rv,p,hz⟩:=I.list hq;obtain⟨f0,f1,f2,f3,f4,f5⟩:=hf it (by simp);have hl:=rv.length;exact wpAny_pyNext_list_end (I.ok.hd hc) st p.isList (by simp;omega) fun h' eb=>⟨rfl,I.turned (t':=s.toks) (fun b o hb e=>eb b o hb e) f0 f1 f3 f4 f5⟩
 self:=fun _ _ _ _ _ st h=>wpAny_pyIter_listiter st h
theorem JE {P:Program}{w:World}{K:Frag}{tg:Expr} (a it:Addr):qdx P w K tg (Itt K a) [it] it (fun i h=>h.IsTupleIter it a i) where
 mem:=by simp
 obj:=fun i h st b hb=>by
   have e:b=it:=by simpa using hb
   subst e;obtain⟨o,e,c,d⟩:=st;exact⟨o,e,fun v z=>by rw[d]at z;cases z⟩
 keep:=fun i h h' st k=>st.at fun o e=>k it (by simp) o e
 item:=by
   intro X hP hw hK hc i pins s σ H E I hf st hg;subst hP hw hK;obtain⟨xs,x,hq,hx⟩:=hg;obtain⟨its,rv,p,hz⟩:=I.tuple hq;obtain⟨u,hu,ru⟩:=rv.get hx;obtain⟨f0,f1,f2,f3,f4,f5⟩:=hf it (by simp);refine wpAny_pyNext_tuple_item st (show s.heap.IsTuple a its.toArray from p) (x:=u) (by simpa using hu) fun h' st' sb=>?_;have I1:Inv X pins σ H { s with heap:=h' }:=I.turned (t':=s.toks) (fun b o hb e=>(sb.2 b hb).trans e) f0 f1 f3 f4 f5;obtain⟨o,e,c,d⟩:=id st';exact⟨u,rfl,qcK (s:={ s with heap:=h' }) e c d (by decide) ⟨x,H,I1,ru,⟨rfl,fun ys hy=>by rw[I.tuple_inj hy hq];exact hx⟩,st',fun b hb=>(hf b hb).1⟩⟩
 done:=by
   intro X hP hw hK hc i pins s σ H E I hf st hg;subst hP hw hK;obtain⟨xs,hq,hx⟩:=hg;obtain⟨its,rv,p,hz⟩:=I.tuple hq;obtain⟨f0,f1,f2,f3,f4,f5⟩:=hf it (by simp);have hl:=rv.length;exact wpAny_pyNext_tuple_end (I.ok.hd hc) st (show s.heap.IsTuple a its.toArray from p) (by simp;omega) fun h' eb=>⟨rfl,I.turned (t':=s.toks) (fun b o hb e=>eb b o hb e) f0 f1 f3 f4 f5⟩
 self:=fun _ _ _ _ _ st h=>wpAny_pyIter_tupleiter st h
theorem JF {P:Program}{w:World}{K:Frag}{tg:Expr} (it:Addr) (lo:Int) (n:Nat):qdx P w K tg (Itr lo n) [it] it (fun i h=>IsRangeIter h it (lo+(i:Nat) * 1) ((n:Int) - (i:Nat)) 1) where
 mem:=by simp
 obj:=fun i h st b hb=>by
   have e:b=it:=by simpa using hb
   subst e
   exact⟨_,st,fun v z=>by
     have z':Data.fields _=Data.cell v:=z
     cases z'⟩
 keep:=fun i h h' st k=>k it (by simp) _ st
 item:=by
   intro X hP hw hK hc i pins s σ H E I hf st hg;subst hP hw hK;obtain⟨f0,f1,f2,f3,f4,f5⟩:=hf it (by simp);have W:=Walks.range (prog:=X.prog) (w:=X.w) (I.ok.hd hc) it lo 1 n;refine W.item i s _ _ hg st fun v h' tk hv st' kk=>?_;obtain⟨t,rfl⟩:=hv;have I1:Inv X pins σ H { s with heap:=h',toks:=tk }:=I.turned (fun b o hb e=>kk b o (by simpa using hb) e) f0 f1 f3 f4 f5;refine⟨_,rfl,qcK (s:={ s with heap:=h',toks:=tk }) (n:="range_iterator") st' rfl rfl (by decide) ⟨.int (lo+i),H,I1,⟨t,?_⟩,⟨rfl,rfl⟩,st',fun b hb=>(hf b hb).1⟩⟩;rw[Int.mul_one]
 done:=by
   intro X hP hw hK hc i pins s σ H E I hf st hg;subst hP hw hK;obtain⟨f0,f1,f2,f3,f4,f5⟩:=hf it (by simp);exact wpAny_pyNext_range_end (I.ok.hd hc) st (by have:n≤i:=hg;omega) fun h' eb=>⟨rfl,I.turned (t':=s.toks) (fun b o hb e=>eb b o hb e) f0 f1 f3 f4 f5⟩
 self:=fun _ _ _ _ _ st h=>wpAny_pyIter_rangeiter st h
section
variable {X:Cx}{tg:Expr}
inductive qaJ (K:Frag) (R:(It->Hp->Prop)) (x:V) (H1:Hp):Prop
 | mk (a:_) (h1:x=.ref a) (h2:(∃ xs,SqL K H1 a xs)) (h3:R (Itl K a) H1):qaJ K R x H1
def qdX (K:Frag) (tl:TE):TI:=fun σ H R=>tl σ H fun x H1=>qaJ K R x H1
def qeH (K:Frag) (tl:TE):TI:=fun σ H R=>tl σ H fun x H1=>∃ a,x=.ref a∧(∃ xs,SqT K H1 a xs)∧R (Itt K a) H1
theorem qM {l:Expr}{tl:TE} (hl:PE X l tl):PI X tg l (qdX X.K tl):=by
 intro pins s σ H R I h;refine thn (hl pins s σ H _ I h) fun v s1 zz_=>?_;obtain⟨x,H1,I1,r1,q1⟩:=zz_;obtain⟨a,e,⟨xs,hq⟩,q⟩:=q1;subst e;cases r1;obtain⟨its,rv,p,hz⟩:=I1.list hq;refine wpAny_pyIter_list p.isList ?_;refine⟨s1.heap.objs.size,[s1.heap.objs.size],_,_,H1,rfl,I1.kept (t':=s1.toks) fun b o e=>Heap.get?_push_of_some _ e,JX a _,⟨_,Heap.get?_push_size _ rfl,rfl,rfl⟩,fun b hb=>?_,q⟩;have e:b=s1.heap.objs.size:=by simpa using hb
 subst e;exact I1.fpOk (Nat.le_refl _) (I1.hok.fresh (Nat.le_refl _))
theorem qdc {l:Expr}{tl:TE} (hl:PE X l tl):PI X tg l (qeH X.K tl):=by
 intro pins s σ H R I h;refine thn (hl pins s σ H _ I h) fun v s1 zz_=>?_;obtain⟨x,H1,I1,r1,q1⟩:=zz_;obtain⟨a,e,⟨xs,hq⟩,q⟩:=q1;subst e;cases r1;obtain⟨its,rv,p,hz⟩:=I1.tuple hq;refine wpAny_pyIter_tuple (show s1.heap.IsTuple a its.toArray from p) ?_;refine⟨s1.heap.objs.size,[s1.heap.objs.size],_,_,H1,rfl,I1.kept (t':=s1.toks) fun b o e=>Heap.get?_push_of_some _ e,JE a _,⟨_,Heap.get?_push_size _ rfl,rfl,rfl⟩,fun b hb=>?_,q⟩;have e:b=s1.heap.objs.size:=by simpa using hb
 subst e;exact I1.fpOk (Nat.le_refl _) (I1.hok.fresh (Nat.le_refl _))
theorem qbd {pins:List (Addr×Obj)}{σ:St}{H:Hp}{s:Shared}{R:It->Hp->Prop}{E:Value->Shared->Prop}{lo hi:Int}{t u v:Tok}{tk:Nat} (I:Inv X pins σ H s) (h1:-(2 ^ 62)≤lo) (h2:lo < 2 ^ 62) (h3:-(2 ^ 62)≤hi) (h4:hi < 2 ^ 62)
   (q:R (Itr lo (hi - lo).toNat) H):wpAny (model X.prog X.w) X.A (pyIter (.ref s.heap.objs.size)) (PIE X pins σ tg R) E { s with heap:=s.heap.push { cls:=.type "range",data:=.fields #[.int lo t,.int hi u,.int 1 v] },toks:=tk }:=by
 refine wpAny_pyIter_range (IsRange.new ..) (small_one h1 h2 h3 h4) ?_;have I1:Inv X pins σ H { s with heap:=s.heap.push { cls:=.type "range",data:=.fields #[.int lo t,.int hi u,.int 1 v] },toks:=tk }:=I.kept fun b o e=>Heap.get?_push_of_some _ e
 refine⟨(s.heap.push { cls:=.type "range",data:=.fields #[.int lo t,.int hi u,.int 1 v] }).objs.size,[(s.heap.push { cls:=.type "range",data:=.fields #[.int lo t,.int hi u,.int 1 v] }).objs.size],_,_,H,rfl,
   I1.kept (t':=tk) fun b o e=>Heap.get?_push_of_some _ e,JF _ lo (hi - lo).toNat,?_,fun b hb=>?_,q⟩
 · have e1:lo+((0:Nat):Int) * 1=lo:=by simp
   have e2:(((hi - lo).toNat:Nat):Int) - ((0:Nat):Int)=Builtin.Range.rangeSize lo hi 1:=by rw[rangeSize_one];split<;>omega
   show IsRangeIter _ _ (lo+((0:Nat):Int) * 1) ((((hi - lo).toNat:Nat):Int) - ((0:Nat):Int)) 1;rw[e1,e2];exact Heap.get?_push_size _ rfl
 · have e:b=(s.heap.push { cls:=.type "range",data:=.fields #[.int lo t,.int hi u,.int 1 v] }).objs.size:=by simpa using hb
   subst e;exact I1.fpOk (Nat.le_refl _) (I1.hok.fresh (Nat.le_refl _))
inductive qaI (R:(It->Hp->Prop)) (vs:List V) (H1:Hp):Prop
 | mk (j:Int) (h1:vs=[.int j]) (h2:-(2 ^ 62)≤j) (h3:j < 2 ^ 62) (h4:R (Itr 0 j.toNat) H1):qaI R vs H1
def qdW (ta:TA):TI:=fun σ H R=>ta σ H fun vs H1=>qaI R vs H1
theorem Z9 {a:Expr}{ta:TA}{p pos:Pos} (hg:Gl X "range") (hm:X.mg "range"=none) (ha:PA X [a] ta) (hs:starEach [a] X.env=[(false,eval a X.env)]:=by rfl):PI X tg (.Call (.Name "range" p) [a] [] pos) (qdW ta):=by
 intro pins s σ H R I h;refine Call_ (QW I hg hm boot_range (PyProof.Rows.callWith_type1 (thn (ha pos pins s σ H _ I h) fun us s1 zz_=>?_) hs rfl));obtain⟨vs,H1,I1,r1,q1⟩:=zz_;obtain⟨j,e,q1,q2,q⟩:=q1;subst e
 cases r1 with
 | cons r rr =>
   cases rr;obtain⟨t,rfl⟩:=r;exact call_range_1 (qbd I1 (by omega) (by omega) q1 q2 (by simpa using q))
def qdI (wi:TI) (g:TG) (tb:TS):TS:=fun D σ H=>wi σ H fun J H1=>∃ W:Nat->Nat->St->Hp->Prop,(∃ m,W 0 m σ H1)∧∀ i m σ H,W i m σ H ->
 (J.stop i H∧D.nx σ H)∨(J.go i H∧∃ N:St->Hp->Prop,(∀ σ' H',N σ' H'->∃ m',m' < m∧W (i+1) m' σ' H')∧∀ x H',J.yld i H x H'->g x σ H' fun σ2 H2=>tb { D with nx:=N,ct:=N,bk:=D.nx } σ2 H2)
def Zh (fp:List Addr) (h:Heap):List (Addr×Obj):=fp.filterMap fun b=>(h.get? b).map fun o=>(b,o)
theorem qO {fp:List Addr}{h:Heap}{b:Addr}{o:Obj} (hb:b∈fp) (e:h.get? b=some o):(b,o)∈Zh fp h:=List.mem_filterMap.mpr ⟨b,hb,by rw[e];rfl⟩
theorem qav {fp:List Addr}{h:Heap}{p:Addr×Obj} (hp:p∈Zh fp h):p.1∈fp∧h.get? p.1=some p.2:=by
 obtain⟨b,hb,e⟩:=List.mem_filterMap.mp hp
 cases q:h.get? b with
 | none=>rw[q]at e;cases e
 | some o =>
   rw[q]at e;have e':(b,o)=p:=Option.some.inj e;subst e';exact⟨hb,q⟩
theorem Inv.pinned {pins:List (Addr×Obj)}{σ:St}{H:Hp}{s:Shared}{fp:List Addr} (I:Inv X pins σ H s) (hf:∀ b∈fp,JC X pins H b) (ho:∀ b∈fp,∃ o,s.heap.get? b=some o∧∀ v,o.data≠.cell v):Inv X (pins++Zh fp s.heap) σ H s :=
 I.pins_of fun p hp=>(List.mem_append.mp hp).elim (fun z=>I.pin p (List.mem_append_right _ z)) fun z=>by
   obtain⟨hb,e⟩:=qav z;obtain⟨f0,f1,f2,_⟩:=hf p.1 hb;obtain⟨o,e',d⟩:=ho p.1 hb;rw[e]at e';cases e';exact⟨e,f0,f1,f2,d⟩
theorem Inv.unpinned {pins pl:List (Addr×Obj)}{σ:St}{H:Hp}{s:Shared} (I:Inv X (pins++pl) σ H s):Inv X pins σ H s:=I.pins_of fun p hp=>I.pin p (List.mem_append_right _ (List.mem_append_left _ hp))
theorem Qa {iter:Expr}{body:List Stmt}{wi:TI}{g:TG}{tb:TS}{pos:Pos} (hp:PassesOwn (model X.prog X.w) X.A X.env X.xe) (hc:X.calm=true) (hi:PI X tg iter wi) (hg:PG X tg g) (hb:PSs X body tb)
   (hs:∀ x,foldedSetIterable iter X.env x=pure x:=by intro _;rfl):PS X (.For tg iter body [] pos) (qdI wi g tb):=by
 intro pins s σ H D I h;refine wpAny_For (thn (hi pins s σ H _ I h) fun v s1 h1=>thn h1 fun itv s2 h2=>?_) hs;obtain⟨it,fp,tn,J,H2,e,I2,T,st2,f2,W,⟨m0,w0⟩,turn⟩:=h2;subst e
 -- what stays true of the iterator's objects through the loop
 have stat:∀ {H':Hp},(∀ b∈fp,H' b=none)->∀ b∈fp,JC X pins H' b:=fun hn b hb=>⟨hn b hb,(f2 b hb).2⟩
 refine codeAny_forLoop_any (fun n s'=>∃ i σ' H',Inv X pins σ' H' s'∧tn i s'.heap∧(∀ b∈fp,H' b=none)∧W i n σ' H') ?_ m0 ⟨0,σ,H2,I2,st2,fun b hb=>(f2 b hb).1,w0⟩;rintro n s3 ⟨i,σ3,H3,I3,st3,fr3,w3⟩;rcases turn i n σ3 H3 w3 with ⟨stop,qn⟩|⟨go,N,hN,step⟩
 · refine wpAny_passesOwn hp (thn (T.done X rfl rfl rfl hc i pins s3 σ3 H3 X.xe I3 (stat fr3) st3 stop) fun r s4 ⟨hr,I4⟩=>?_);subst hr;exact wpAny_execs_nil ⟨σ3,H3,I4,qn⟩
 · refine wpAny_passesOwn hp (thn (T.item X rfl rfl rfl hc i pins s3 σ3 H3 X.xe I3 (stat fr3) st3 go) fun r s4 ⟨u,hr,h4⟩=>?_);subst hr;refine wpAny_passesOwn hp (thn h4 fun _ s5 zz_=>?_);obtain⟨x,H5,I5,r5,y5,st5,fr5⟩:=zz_;have I5':=I5.pinned (stat fr5) (T.obj _ _ st5);refine wpAny_passesOwn hp (thn (hg _ s5 σ3 H5 x u _ I5' r5 (step x H5 y5)) fun _ s6 zz_=>?_);obtain⟨σ6,H6,I6,q6⟩:=zz_;refine wpAny_passesOwn hp (thn (hb _ s6 σ6 H6 _ I6 q6) fun f s7 q7=>?_)
   have again:∀ {σ7:St}{H7:Hp},Inv X (pins++Zh fp s5.heap) σ7 H7 s7->N σ7 H7->∃ m,m < n∧∃ i σ' H',Inv X pins σ' H' s7∧tn i s7.heap∧(∀ b∈fp,H' b=none)∧W i m σ' H':=fun {σ7 H7} I7 n7=>by
     obtain⟨m',hm,w7⟩:=hN σ7 H7 n7;refine⟨m',hm,i+1,σ7,H7,I7.unpinned,T.keep _ _ _ st5 fun b hb o e=>(I7.pin (b,o) (List.mem_append_right _ (List.mem_append_right _ (qO hb e)))).1,fun b hb=>?_,w7⟩;obtain⟨o,e,d⟩:=T.obj _ _ st5 b hb;exact(I7.pin (b,o) (List.mem_append_right _ (List.mem_append_right _ (qO hb e)))).2.1
   cases f with
   | next=>obtain⟨σ7,H7,I7,n7⟩:=q7;exact again I7 n7
   | cont=>obtain⟨σ7,H7,I7,n7⟩:=q7;exact again I7 n7
   | brk=>obtain⟨σ7,H7,I7,q7⟩:=q7;exact⟨σ7,H7,I7.unpinned,q7⟩
   | ret v=>obtain⟨x7,σ7,H7,I7,r7,q7⟩:=q7;exact⟨x7,σ7,H7,I7.unpinned,r7,q7⟩
end
theorem zO {K:Frag}{a:Addr}{xs:List V}{g:TG}{tb:TS}{D:qa3}{σ:St}{H:Hp} (Pv:Nat->St->Hp->Prop) (h0:Pv 0 σ H) (hl:∀ i σ H,i≤xs.length->Pv i σ H->SqL K H a xs)
   (hs:∀ i x σ H,xs[i]?=some x->Pv i σ H->g x σ H fun σ2 H2=>tb { D with nx:=Pv (i+1),ct:=Pv (i+1),bk:=D.nx } σ2 H2) (hd:∀ σ H,Pv xs.length σ H->D.nx σ H) :
   ∃ W:Nat->Nat->St->Hp->Prop,(∃ m,W 0 m σ H)∧∀ i m σ H,W i m σ H ->
     ((Itl K a).stop i H∧D.nx σ H)∨((Itl K a).go i H∧∃ N:St->Hp->Prop,(∀ σ' H',N σ' H'->∃ m',m' < m∧W (i+1) m' σ' H')∧∀ x H',(Itl K a).yld i H x H'->g x σ H' fun σ2 H2=>tb { D with nx:=N,ct:=N,bk:=D.nx } σ2 H2):=by
 refine⟨fun i m σ H=>m=xs.length - i∧i≤xs.length∧Pv i σ H,⟨xs.length,by simp,Nat.zero_le _,h0⟩,?_⟩;rintro i m σ H ⟨rfl,hi,p⟩;have q:=hl i σ H hi p;by_cases hlt:i < xs.length
 · refine .inr ⟨⟨xs,xs[i],q,by simp[hlt]⟩,Pv (i+1),fun σ' H' p'=>⟨xs.length - (i+1),by omega,rfl,hlt,p'⟩,fun x H' y=>?_⟩;obtain⟨e,y⟩:=y;subst e;exact hs i x σ _ (y xs q) p
 · have e:i=xs.length:=by omega
   subst e;exact .inl ⟨⟨xs,q,Nat.le_refl _⟩,hd σ H p⟩
theorem jk {lo:Int}{n:Nat}{g:TG}{tb:TS}{D:qa3}{σ:St}{H:Hp} (Pv:Nat->St->Hp->Prop) (h0:Pv 0 σ H)
   (hs:∀ i σ H,i < n->Pv i σ H->g (.int (lo+i)) σ H fun σ2 H2=>tb { D with nx:=Pv (i+1),ct:=Pv (i+1),bk:=D.nx } σ2 H2) (hd:∀ σ H,Pv n σ H->D.nx σ H) :
   ∃ W:Nat->Nat->St->Hp->Prop,(∃ m,W 0 m σ H)∧∀ i m σ H,W i m σ H ->
     ((Itr lo n).stop i H∧D.nx σ H)∨((Itr lo n).go i H∧∃ N:St->Hp->Prop,(∀ σ' H',N σ' H'->∃ m',m' < m∧W (i+1) m' σ' H')∧∀ x H',(Itr lo n).yld i H x H'->g x σ H' fun σ2 H2=>tb { D with nx:=N,ct:=N,bk:=D.nx } σ2 H2):=by
 refine⟨fun i m σ H=>m=n - i∧i≤n∧Pv i σ H,⟨n,by simp,Nat.zero_le _,h0⟩,?_⟩;rintro i m σ H ⟨rfl,hi,p⟩;by_cases hlt:i < n
 · refine .inr ⟨hlt,Pv (i+1),fun σ' H' p'=>⟨n - (i+1),by omega,rfl,hlt,p'⟩,fun x H' y=>?_⟩;obtain⟨e,y⟩:=y;subst e y;exact hs i σ _ hlt p
 · have e:i=n:=by omega
   subst e;exact .inl ⟨Nat.le_refl _,hd σ H p⟩
abbrev R2:=V->V->Hp->VK->Prop
def OpR (X:Cx) (f:Value->Value->Sem Value) (r:R2):Prop :=
 ∀ (pins:List (Addr×Obj)) (s:Shared) (σ:St) (H:Hp) (x y:V) (v u:Value) (Q:VK),Inv X pins σ H s->RelV x v->RelV y u->r x y H Q ->
   wpAny (model X.prog X.w) X.A (f v u) (EP X pins σ Q) X.xe s
def UnR (X:Cx) (f:Value->Sem Value) (r:V->Hp->VK->Prop):Prop :=
 ∀ (pins:List (Addr×Obj)) (s:Shared) (σ:St) (H:Hp) (x:V) (v:Value) (Q:VK),Inv X pins σ H s->RelV x v->r x H Q ->
   wpAny (model X.prog X.w) X.A (f v) (EP X pins σ Q) X.xe s
def CallR (X:Cx) (f:Value) (r:List V->Hp->VK->Prop):Prop :=
 ∀ (pins:List (Addr×Obj)) (s:Shared) (σ:St) (H:Hp) (xs:List V) (us:List Value) (Q:VK),Inv X pins σ H s->Vals xs us->r xs H Q ->
   wpAny (model X.prog X.w) X.A (call f us) (EP X pins σ Q) X.xe s
def qeL (X:Cx) (r:V->Hp->(Bool->Hp->Prop)->Prop):Prop :=
 ∀ (pins:List (Addr×Obj)) (s:Shared) (σ:St) (H:Hp) (x:V) (v:Value) (Q:Bool->Hp->Prop),Inv X pins σ H s->RelV x v->r x H Q ->
   wpAny (model X.prog X.w) X.A (truthy v) (TP X pins σ Q) X.xe s
def tOp (r:R2) (ta tb:TE):TE:=fun σ H Q=>ta σ H fun x H1=>tb σ H1 fun y H2=>r x y H2 Q
def tUn (r:V->Hp->VK->Prop) (ta:TE):TE:=fun σ H Q=>ta σ H fun x H1=>r x H1 Q
inductive qej (C:Int->Int->Prop) (g:Int->Int->V) (x:V) (y:V) (H:Hp) (Q:VK):Prop
 | mk (i j:_) (h1:x=.int i) (h2:y=.int j) (h3:C i j) (h4:Q (g i j) H):qej C g x y H Q
def rI (C:Int->Int->Prop) (g:Int->Int->V):R2:=fun x y H Q=>qej C g x y H Q
inductive qc8 (g:Int->Int->V) (x:V) (y:V) (H:Hp) (Q:VK):Prop
 | mk (i j:_) (h1:x=.int i) (h2:y=.int j) (h3:Q (g i j) H):qc8 g x y H Q
def rI0 (g:Int->Int->V):R2:=fun x y H Q=>qc8 g x y H Q
inductive qec (g:Int->V) (x:V) (H:Hp) (Q:VK):Prop
 | mk (i:_) (h1:x=.int i) (h2:Q (g i) H):qec g x H Q
def rU (g:Int->V):V->Hp->VK->Prop:=fun x H Q=>qec g x H Q
section
variable {X:Cx}{a b c:Expr}{ta tb tc:TE}{pos:Pos}
theorem qd6 (ha:PE X a ta) (hb:PE X b tb) {pins:List (Addr×Obj)}{s:Shared}{σ:St}{H:Hp}{R:V->V->Hp->Prop} (I:Inv X pins σ H s)
   (h:ta σ H fun x H1=>tb σ H1 fun y H2=>R x y H2) {Q:Value->Shared->Prop}{f:Value->Value->Sem Value}
   (hf:∀ v u s2 x y H2,Inv X pins σ H2 s2->RelV x v->RelV y u->R x y H2->wpAny (model X.prog X.w) X.A (f v u) Q X.xe s2) :
   wpAny (model X.prog X.w) X.A (eval a X.env) (fun v s₁=>wpAny (model X.prog X.w) X.A (eval b X.env) (fun u s₂=>wpAny (model X.prog X.w) X.A (f v u) Q X.xe s₂) X.xe s₁) X.xe s:=by
 refine thn (ha pins s σ H _ I h) fun v s1 zz_=>?_;obtain⟨x,H1,I1,r1,q1⟩:=zz_;refine thn (hb pins s1 σ H1 _ I1 q1) fun u s2 zz_=>?_;obtain⟨y,H2,I2,r2,q2⟩:=zz_;exact hf v u s2 x y H2 I2 r1 r2 q2
theorem qu {op:Operator}{r:R2} (ho:OpR X (binaryOp op) r) (ha:PE X a ta) (hb:PE X b tb):PE X (.BinOp a op b pos) (tOp r ta tb):=by
 intro pins s σ H Q I h;exact wpAny_BinOp (qd6 ha hb I h fun v u s2 x y H2 I2 rx ry q=>ho pins s2 σ H2 x y v u Q I2 rx ry q)
theorem JI {op:UnaryOp}{r:V->Hp->VK->Prop} (ho:UnR X (unaryOp op) r) (ha:PE X a ta):PE X (.UnaryOp op a pos) (tUn r ta):=by
 intro pins s σ H Q I h;exact UnaryOp_ (thn (ha pins s σ H _ I h) fun v s1 ⟨x,H1,I1,r1,q1⟩=>ho pins s1 σ H1 x v Q I1 r1 q1)
theorem opI {f:Value->Value->Sem Value}{C:Int->Int->Prop}{g:Int->Int->Int}
   (rule:∀ (i j:Int) (t u:Tok) (s:Shared) (Q:Value->Shared->Prop) (E:Value->Shared->Prop),C i j->Q (.int (g i j) s.toks) { s with toks:=s.toks+1 }->wpAny (model X.prog X.w) X.A (f (.int i t) (.int j u)) Q E s) :
   OpR X f (rI C fun i j=>.int (g i j)):=by
 intro pins s σ H x y v u Q I rx ry h;obtain⟨i,j,rfl,rfl,hc,q⟩:=h;obtain⟨t,rfl⟩:=rx;obtain⟨t',rfl⟩:=ry;exact rule i j t t' s _ _ hc ⟨.int (g i j),H,I.tok _,⟨_,rfl⟩,q⟩
theorem qen {f:Value->Value->Sem Value}{g:Int->Int->Int}
   (rule:∀ (i j:Int) (t u:Tok) (s:Shared) (Q:Value->Shared->Prop) (E:Value->Shared->Prop),Q (.int (g i j) s.toks) { s with toks:=s.toks+1 }->wpAny (model X.prog X.w) X.A (f (.int i t) (.int j u)) Q E s) :
   OpR X f (rI0 fun i j=>.int (g i j)):=by
 intro pins s σ H x y v u Q I rx ry h;obtain⟨i,j,rfl,rfl,q⟩:=h;obtain⟨t,rfl⟩:=rx;obtain⟨t',rfl⟩:=ry;exact rule i j t t' s _ _ ⟨.int (g i j),H,I.tok _,⟨_,rfl⟩,q⟩
theorem qdU {f:Value->Value->Sem Value}{g:Int->Int->Bool}
   (rule:∀ (i j:Int) (t u:Tok) (s:Shared) (Q:Value->Shared->Prop) (E:Value->Shared->Prop),Q (.bool (g i j)) s->wpAny (model X.prog X.w) X.A (f (.int i t) (.int j u)) Q E s) :
   OpR X f (rI0 fun i j=>.bl (g i j)):=by
 intro pins s σ H x y v u Q I rx ry h;obtain⟨i,j,rfl,rfl,q⟩:=h;obtain⟨t,rfl⟩:=rx;obtain⟨t',rfl⟩:=ry;exact rule i j t t' s _ _ ⟨.bl (g i j),H,I,rfl,q⟩
def qeP (i j:Int):Prop:=0 < j∧j < 1073741824
def qeO (i j:Int):Prop:=0≤j∧j≤1000000∧i.natAbs < 2 ^ 64
def CMul (i j:Int):Prop:=(-(2 ^ 64) < i∧i < 2 ^ 64)∨(-(2 ^ 64) < j∧j < 2 ^ 64)
theorem CMul.ok {i j:Int} (h:CMul i j):IntMulOk i j:=by
 rcases h with ⟨h1,h2⟩|⟨h1,h2⟩
 · exact .of_left (intBits_le_64 h1 h2)
 · exact .of_right (intBits_le_64 h1 h2)
theorem op_add:OpR X (binaryOp .Add) (rI0 fun i j=>.int (i+j)):=qen fun _ _ _ _ _ _ _ q=>add_int q
theorem Qw:OpR X (binaryOp .Sub) (rI0 fun i j=>.int (i - j)):=qen fun _ _ _ _ _ _ _ q=>sub_int q
theorem Zj:OpR X (binaryOp .Mult) (rI CMul fun i j=>.int (i * j)):=opI fun _ _ _ _ _ _ _ hc q=>mul_int q hc.ok
theorem jH:OpR X (binaryOp .FloorDiv) (rI qeP fun i j=>.int (i / j)):=opI fun i j _ _ _ _ _ hc q=>by
 have h1:(0:Int) < j:=hc.1;have h2:j < 1073741824:=hc.2;exact floordiv_int (by omega) (by rw[Int.fdiv_eq_ediv_of_nonneg i (by omega)];exact q) (.inl (PyProof.noPylong_small (by omega)))
theorem QS:OpR X (binaryOp .Mod) (rI (fun _ j=>0 < j) fun i j=>.int (i % j)):=opI fun i j _ _ _ _ _ hc q=>by
 have h1:(0:Int) < j:=hc;exact mod_int' (by omega) (by rw[Int.fmod_eq_emod_of_nonneg i (by omega)];exact q)
theorem jb:OpR X (binaryOp .Pow) (rI qeO fun i j=>.int (i ^ j.toNat)):=opI fun _ _ _ _ _ _ _ hc q=>pow_int_small hc.1 hc.2.1 hc.2.2 q
theorem unI {f:Value->Sem Value}{g:Int->Int}
   (rule:∀ (i:Int) (t:Tok) (s:Shared) (Q:Value->Shared->Prop) (E:Value->Shared->Prop),Q (.int (g i) s.toks) { s with toks:=s.toks+1 }->wpAny (model X.prog X.w) X.A (f (.int i t)) Q E s) :
   UnR X f (rU fun i=>.int (g i)):=by
 intro pins s σ H x v Q I rx h;obtain⟨i,rfl,q⟩:=h;obtain⟨t,rfl⟩:=rx;exact rule i t s _ _ ⟨.int (g i),H,I.tok _,⟨_,rfl⟩,q⟩
theorem Q8:UnR X (unaryOp .USub) (rU fun i=>.int (-i)):=unI fun _ _ _ _ _ q=>neg_int q
end
def qeb:V->V->Bool
 | .non,.non=>true|.non,.int _=>true|.int _,.non=>true|.non,.bl _=>true|.bl _,.non=>true|.non,.str _=>true|.str _,.non=>true
 | .int _,.int _=>true|.bl _,.bl _=>true|.str _,.str _=>true|.byt _,.byt _=>true
 | .int _,.str _=>true|.str _,.int _=>true|.bl _,.str _=>true|.str _,.bl _=>true
 | _,_=>false
def rEq:R2:=fun x y H Q=>qeb x y=true∧Q (.bl (decide (x=y))) H
def rNe:R2:=fun x y H Q=>qeb x y=true∧Q (.bl (!decide (x=y))) H
theorem qaP {i j:Int}:decide (V.int i=V.int j)=(i == j):=by
 rw[Bool.eq_iff_iff];simp
theorem qcb {i j:Bool}:decide (V.bl i=V.bl j)=(i == j):=by
 rw[Bool.eq_iff_iff];simp
theorem qaO {i j:Str}:decide (V.str i=V.str j)=(i == j):=by
 rw[Bool.eq_iff_iff];simp
theorem qaQ {i j:Array UInt8}:decide (V.byt i=V.byt j)=(i.toList == j.toList):=by
 rw[Bool.eq_iff_iff];cases i;cases j;simp
section
variable {X:Cx}{a b c:Expr}{ta tb tc:TE}{pos:Pos}
theorem qz {pins:List (Addr×Obj)}{σ:St}{H:Hp}{s:Shared}{Q:VK}{k k':Bool} (I:Inv X pins σ H s) (q:Q (.bl k) H) (e:k=k'):EP X pins σ Q (.bool k') s:=by
 subst e;exact⟨.bl k,H,I,rfl,q⟩
theorem op_eq:OpR X (compareOp .Eq) rEq:=by
 intro pins s σ H x y v u Q I rx ry h;obtain⟨hs,q⟩:=h
 cases x with
 | non =>
   cases rx
   cases y with
   | non=>cases ry;exact PySem.EqNone.eq_none_none (qz I q (by simp))
   | bl j=>cases ry;exact PySem.EqNone.eq_none_bool (qz I q (by simp))
   | int j=>obtain⟨t',rfl⟩:=ry;exact PySem.EqNone.eq_none_int (qz I q (by simp))
   | str j=>obtain⟨t',rfl⟩:=ry;exact PySem.EqNone.eq_none_str (qz I q (by simp))
   | _=>exact absurd (show false=true from hs) Bool.false_ne_true
 | bl i =>
   cases rx
   cases y with
   | non=>cases ry;exact PySem.EqNone.eq_bool_none (qz I q (by simp))
   | bl j=>cases ry;exact eq_bool (qz I q qcb)
   | str j=>obtain⟨t',rfl⟩:=ry;exact PySem.EqMixed.eq_bool_str (qz I q (by simp))
   | _=>exact absurd (show false=true from hs) Bool.false_ne_true
 | int i =>
   obtain⟨t,rfl⟩:=rx
   cases y with
   | non=>cases ry;exact PySem.EqNone.eq_int_none (qz I q (by simp))
   | int j=>obtain⟨t',rfl⟩:=ry;exact eq_int (qz I q qaP)
   | str j=>obtain⟨t',rfl⟩:=ry;exact PySem.EqMixed.eq_int_str (qz I q (by simp))
   | _=>exact absurd (show false=true from hs) Bool.false_ne_true
 | str i =>
   obtain⟨t,rfl⟩:=rx
   cases y with
   | non=>cases ry;exact PySem.EqNone.eq_str_none (qz I q (by simp))
   | bl j=>cases ry;exact PySem.EqMixed.eq_str_bool (qz I q (by simp))
   | int j=>obtain⟨t',rfl⟩:=ry;exact PySem.EqMixed.eq_str_int (qz I q (by simp))
   | str j=>obtain⟨t',rfl⟩:=ry;exact eq_str (qz I q qaO)
   | _=>exact absurd (show false=true from hs) Bool.false_ne_true
 | byt i =>
   obtain⟨t,rfl⟩:=rx
   cases y with
   | byt j=>obtain⟨t',rfl⟩:=ry;exact PySem.W.eq_bytes (qz I q qaQ)
   | _=>exact absurd (show false=true from hs) Bool.false_ne_true
 | _=>cases y<;>exact absurd (show false=true from hs) Bool.false_ne_true
theorem op_ne:OpR X (compareOp .NotEq) rNe:=by
 intro pins s σ H x y v u Q I rx ry h;obtain⟨hs,q⟩:=h
 cases x with
 | non =>
   cases rx
   cases y with
   | non=>cases ry;exact PySem.EqNone.ne_none_none (qz I q (by simp))
   | bl j=>cases ry;exact PySem.EqNone.ne_none_bool (qz I q (by simp))
   | int j=>obtain⟨t',rfl⟩:=ry;exact PySem.EqNone.ne_none_int (qz I q (by simp))
   | str j=>obtain⟨t',rfl⟩:=ry;exact PySem.EqNone.ne_none_str (qz I q (by simp))
   | _=>exact absurd (show false=true from hs) Bool.false_ne_true
 | bl i =>
   cases rx
   cases y with
   | non=>cases ry;exact PySem.EqNone.ne_bool_none (qz I q (by simp))
   | bl j=>cases ry;exact ne_bool (qz I q (congrArg not qcb))
   | str j=>obtain⟨t',rfl⟩:=ry;exact PySem.EqMixed.ne_bool_str (qz I q (by simp))
   | _=>exact absurd (show false=true from hs) Bool.false_ne_true
 | int i =>
   obtain⟨t,rfl⟩:=rx
   cases y with
   | non=>cases ry;exact PySem.EqNone.ne_int_none (qz I q (by simp))
   | int j=>obtain⟨t',rfl⟩:=ry;exact ne_int (qz I q (congrArg not qaP))
   | str j=>obtain⟨t',rfl⟩:=ry;exact PySem.EqMixed.ne_int_str (qz I q (by simp))
   | _=>exact absurd (show false=true from hs) Bool.false_ne_true
 | str i =>
   obtain⟨t,rfl⟩:=rx
   cases y with
   | non=>cases ry;exact PySem.EqNone.ne_str_none (qz I q (by simp))
   | bl j=>cases ry;exact PySem.EqMixed.ne_str_bool (qz I q (by simp))
   | int j=>obtain⟨t',rfl⟩:=ry;exact PySem.EqMixed.ne_str_int (qz I q (by simp))
   | str j=>obtain⟨t',rfl⟩:=ry;exact ne_str (qz I q (congrArg not qaO))
   | _=>exact absurd (show false=true from hs) Bool.false_ne_true
 | byt i =>
   obtain⟨t,rfl⟩:=rx
   cases y with
   | byt j=>obtain⟨t',rfl⟩:=ry;exact PySem.W.ne_bytes (qz I q (congrArg not qaQ))
   | _=>exact absurd (show false=true from hs) Bool.false_ne_true
 | _=>cases y<;>exact absurd (show false=true from hs) Bool.false_ne_true
theorem JK:OpR X (compareOp .Lt) (rI0 fun i j=>.bl (decide (i < j))):=qdU fun _ _ _ _ _ _ _ q=>lt_int q
theorem JL:OpR X (compareOp .LtE) (rI0 fun i j=>.bl (decide (i≤j))):=qdU fun _ _ _ _ _ _ _ q=>le_int q
theorem qdh:OpR X (compareOp .Gt) (rI0 fun i j=>.bl (decide (j < i))):=qdU fun _ _ _ _ _ _ _ q=>gt_int q
theorem qcB:OpR X (compareOp .IsNot) (fun x y H Q=>y=.non∧Q (.bl (!decide (x=.non))) H):=by
 intro pins s σ H x y v u Q I rx ry h;obtain⟨rfl,q⟩:=h;cases ry;refine isnot_none_gen (qz I q ?_);cases x<;>first
   | (cases rx;rfl)
   | (obtain⟨t,rfl⟩:=rx;rfl)
theorem OpR.or {f:Value->Value->Sem Value}{r r':R2} (h:OpR X f r) (h':OpR X f r'):OpR X f (fun x y H Q=>r x y H Q∨r' x y H Q):=by
 intro pins s σ H x y v u Q I rx ry q;rcases q with q|q
 · exact h pins s σ H x y v u Q I rx ry q
 · exact h' pins s σ H x y v u Q I rx ry q
theorem qD (b:Expr) {op:CmpOp} (h:op≠.In:=by decide) (h2:op≠.NotIn:=by decide):behindInMarks op b=false:=by
 have e1:(op == CmpOp.In)=false:=by cases op<;>first|rfl|exact absurd rfl h
 have e2:(op == CmpOp.NotIn)=false:=by cases op<;>first|rfl|exact absurd rfl h2
 cases b<;>simp[behindInMarks,e1,e2]
theorem jG {op:CmpOp}{r:R2} (ho:OpR X (compareOp op) r) (ha:PE X a ta) (hb:PE X b tb) (hm:behindInMarks op b=false):PE X (.Compare a [op] [b] pos) (tOp r ta tb):=by
 intro pins s σ H Q I h;exact wpAny_Compare1 (qd6 ha hb I h fun v u s2 x y H2 I2 rx ry q=>ho pins s2 σ H2 x y v u Q I2 rx ry q) hm
inductive J1 (Q:(Bool->Hp->Prop)) (x:V) (H':Hp):Prop
 | mk (k:_) (h1:x=.bl k) (h2:Q k H'):J1 Q x H'
def qcY (t:TE):TT:=fun σ H Q=>t σ H fun x H'=>J1 Q x H'
theorem qv {op:CmpOp}{r:R2} (ho:OpR X (compareOp op) r) (ha:PE X a ta) (hb:PE X b tb) (hm:behindInMarks op b=false):PT X (.Compare a [op] [b] pos) (qcY (tOp r ta tb)):=by
 intro pins s σ H Q I h
 refine wpAny_isTrue_Compare1 (thn (ha pins s σ H _ I h) fun v s1 ⟨x,H1,I1,r1,q1⟩=>thn (hb pins s1 σ H1 _ I1 q1) fun u s2 ⟨y,H2,I2,r2,q2⟩ =>
   thn (ho pins s2 σ H2 x y v u _ I2 r1 r2 q2) fun c s3 ⟨z,H3,I3,r3,k,e,q3⟩=>?_) hm
 subst e;cases r3;exact wpAny_truthy_bool ⟨H3,I3,q3⟩
def qc1 (r r':R2) (ta tb tc:TE):TE:=fun σ H Q=>ta σ H fun x H1=>tb σ H1 fun y H2=>r x y H2 fun z H3=>∃ k,z=.bl k ∧
 (if k=true then tc σ H3 fun w' H4=>r' y w' H4 Q else Q (.bl false) H3)
theorem qbh {op op':CmpOp}{r r':R2} (ho:OpR X (compareOp op) r) (ho':OpR X (compareOp op') r') (ha:PE X a ta) (hb:PE X b tb) (hc:PE X c tc)
   (hm:lastMarks [op,op'] [b,c]=false:=by with_unfolding_all rfl):PT X (.Compare a [op,op'] [b,c] pos) (qcY (qc1 r r' ta tb tc)):=by
 intro pins s σ H Q I h
 refine isTrue_chain (thn (ha pins s σ H _ I h) fun v s1 ⟨x,H1,I1,r1,q1⟩=>test_link (thn (hb pins s1 σ H1 _ I1 q1) fun u s2 ⟨y,H2,I2,r2,q2⟩ =>
   thn (ho pins s2 σ H2 x y v u _ I2 r1 r2 q2) fun d s3 ⟨z,H3,I3,r3,k,e,q3⟩=>?_)) hm
 subst e;cases r3;refine wpAny_truthy_bool ?_
 cases k with
 | false =>
   obtain⟨k',e',q'⟩:=q3;cases e';exact ite_ff ⟨H3,I3,q'⟩
 | true =>
   refine ite_tt (test_last (thn (hc pins s3 σ H3 _ I3 q3) fun w' s4 ⟨z',H4,I4,r4,q4⟩=>thn (ho' pins s4 σ H4 y z' u w' _ I4 r2 r4 q4) fun d' s5 zz_=>?_));obtain⟨z2,H5,I5,r5,k2,e2,q5⟩:=zz_;subst e2;cases r5;exact wpAny_truthy_bool ⟨H5,I5,q5⟩
def qep (K:Frag) (x:V) (H:Hp) (k:Bool):Prop :=
 match x with
 | .non=>k=false
 | .bl b=>k=b
 | .int i=>k=(i != 0)
 | .str y=>y.length≤sizeLine∧k=((y.length:Int) != 0)
 | .byt y=>y.size≤sizeLine∧k=((y.size:Int) != 0)
 | .ref p=>(∃ xs,SqL K H p xs∧k=!xs.isEmpty)∨(∃ xs,SqT K H p xs∧k=!xs.isEmpty)∨∃ kvs,H p=some (.dK kvs)∧k=!kvs.isEmpty
 | _=>False
theorem JQ {κ:Type}{kvs:List (κ×V)}{vs:List (κ×Value)} (r:KV kvs vs):(!vs.isEmpty)=!kvs.isEmpty:=by
 cases r<;>rfl
theorem Zl {xs:List V}{its:List Value} (r:Vals xs its):(!its.toArray.isEmpty)=!xs.isEmpty:=by
 cases r<;>simp
theorem Zk:(sizeLine:Nat) < 2 ^ 63:=by rw[sizeLine_eq];decide
theorem qcX:qeL X (fun x H Q=>∃ k,qep X.K x H k∧Q k H):=by
 intro pins s σ H x v Q I rx h;obtain⟨k,e,q⟩:=h;have hl:=Zk;have hs:sizeLine=16777216:=sizeLine_eq
 cases x with
 | non =>
   cases rx;have e':k=false:=e;subst e';exact truthy_none ⟨H,I,q⟩
 | bl b =>
   cases rx;have e':k=b:=e;subst e';exact wpAny_truthy_bool ⟨H,I,q⟩
 | int i =>
   obtain⟨t,rfl⟩:=rx;have e':k=(i != 0):=e;subst e';exact PySem.P.truthy_int ⟨H,I,q⟩
 | str y =>
   obtain⟨t,rfl⟩:=rx;obtain⟨hy,e'⟩:y.length≤sizeLine∧k=((y.length:Int) != 0):=e;subst e';exact PySem.P.truthy_str (by omega) ⟨H,I.tok _,q⟩
 | byt y =>
   obtain⟨t,rfl⟩:=rx;obtain⟨hy,e'⟩:y.size≤sizeLine∧k=((y.size:Int) != 0):=e;subst e';exact PySem.W.truthy_bytes (by omega) ⟨H,I.tok _,q⟩
 | ref p =>
   cases rx;have e':(∃ xs,SqL X.K H p xs∧k=!xs.isEmpty)∨(∃ xs,SqT X.K H p xs∧k=!xs.isEmpty)∨∃ kvs,H p=some (.dK kvs)∧k=!kvs.isEmpty:=e;rcases e' with ⟨xs,hx,e'⟩|⟨xs,hx,e'⟩|⟨kvs,hx,e'⟩
   · subst e';obtain⟨its,r,pl,hz⟩:=I.list hx;have hlen:=r.length;exact wpAny_truthy_list pl.isList (by simp only[List.size_toArray];omega) ⟨H,I.tok _,by rw[Zl r];exact q⟩
   · subst e';obtain⟨its,r,pl,hz⟩:=I.tuple hx;have hlen:=r.length;exact truthy_tuple pl (by simp only[List.size_toArray];omega) ⟨H,I.tok _,by rw[Zl r];exact q⟩
   · subst e';obtain⟨hz,hS,vs,r,m⟩:kvs.length≤sizeLine∧(p == sysModules)=false∧∃ vs,KV kvs vs∧s.heap.DictOf (qL X.prog X.w) p vs:=I.hok p _ hx;have hlen:kvs.length=vs.length:=Paired.length r;exact wpAny_truthy_dict hS m (by omega) ⟨H,I.tok _,by rw[JQ r];exact q⟩
 | _=>exact(show False from e).elim
theorem Jl (ha:PE X a ta) (he:∀ whole,isTrue a X.env whole=(do let v ← whole;standAt a.pos;holding [v] (truthy v))) :
   PT X a (fun σ H Q=>ta σ H fun x H'=>∃ k,qep X.K x H' k∧Q k H'):=by
 intro pins s σ H Q I h;exact isTrue_plain (thn (ha pins s σ H _ I h) fun v s1 ⟨x,H1,I1,r1,q1⟩=>qcX pins s1 σ H1 x v Q I1 r1 q1) (he _)
theorem JM:OpR X (binaryOp .Add) (fun x y H Q=>∃ i j,x=.str i∧y=.str j∧i.length+j.length≤sizeLine∧Q (.str (i++j)) H):=by
 intro pins s σ H x y v u Q I rx ry h;obtain⟨i,j,rfl,rfl,hz,q⟩:=h;obtain⟨t,rfl⟩:=rx;obtain⟨t',rfl⟩:=ry;exact add_str (fun t' tk=>⟨.str (i++j),H,I.tok _,⟨_,rfl⟩,q⟩) hz
theorem JD {x:V}{us:List Value} (r:Vals [x] us):∃ u,us=[u]∧RelV x u:=by
 cases r with
 | cons r1 r2=>cases r2;exact⟨_,rfl,r1⟩
theorem qa6 {x y:V}{us:List Value} (r:Vals [x,y] us):∃ u w',us=[u,w']∧RelV x u∧RelV y w':=by
 cases r with
 | cons r1 r2 =>
   cases r2 with
   | cons r3 r4=>cases r4;exact⟨_,_,rfl,r1,r3⟩
theorem zH (hc:X.calm=true):CallR X (.builtin "max") (fun xs H Q=>∃ i j,xs=[.int i,.int j]∧Q (.int (if j > i then j else i)) H):=by
 intro pins s σ H xs us Q I r h;obtain⟨i,j,rfl,q⟩:=h;obtain⟨u,w',rfl,⟨t,rfl⟩,⟨t',rfl⟩⟩:=qa6 r;refine max_two_ints (I.ok.hd hc) fun h' tk k=>⟨_,H,I.kept k,?_,q⟩
 by_cases hj:j > i
 · rw[if_pos hj,if_pos hj];exact⟨_,rfl⟩
 · rw[if_neg hj,if_neg hj];exact⟨_,rfl⟩
theorem jm (hc:X.calm=true):CallR X (.builtin "min") (fun xs H Q=>∃ i j,xs=[.int i,.int j]∧Q (.int (if j < i then j else i)) H):=by
 intro pins s σ H xs us Q I r h;obtain⟨i,j,rfl,q⟩:=h;obtain⟨u,w',rfl,⟨t,rfl⟩,⟨t',rfl⟩⟩:=qa6 r;refine min_two_ints (I.ok.hd hc) fun h' tk k=>⟨_,H,I.kept k,?_,q⟩
 by_cases hj:j < i
 · rw[if_pos hj,if_pos hj];exact⟨_,rfl⟩
 · rw[if_neg hj,if_neg hj];exact⟨_,rfl⟩
def qeN (K:Frag) (x:V) (H:Hp) (n:Nat):Prop :=
 match x with
 | .str y=>y.length≤sizeLine∧n=y.length
 | .byt y=>y.size≤sizeLine∧n=y.size
 | .ref p=>(∃ xs,SqL K H p xs∧n=xs.length)∨∃ xs,SqT K H p xs∧n=xs.length
 | _=>False
theorem zk:CallR X (.builtin "len") (fun xs H Q=>∃ x n,xs=[x]∧qeN X.K x H n∧Q (.int n) H):=by
 intro pins s σ H xs us Q I r h;obtain⟨x,n,rfl,e,q⟩:=h;obtain⟨u,rfl,rx⟩:=JD r;have hl:=Zk;have hs:sizeLine=16777216:=sizeLine_eq
 cases x with
 | str y =>
   obtain⟨t,rfl⟩:=rx;obtain⟨hy,e'⟩:y.length≤sizeLine∧n=y.length:=e;subst e';exact len_str (by omega) ⟨.int _,H,I.tok _,⟨_,rfl⟩,q⟩
 | byt y =>
   obtain⟨t,rfl⟩:=rx;obtain⟨hy,e'⟩:y.size≤sizeLine∧n=y.size:=e;subst e';exact PySem.W.len_bytes (by omega) ⟨.int _,H,I.tok _,⟨_,rfl⟩,q⟩
 | ref p =>
   cases rx;have e':(∃ xs,SqL X.K H p xs∧n=xs.length)∨∃ xs,SqT X.K H p xs∧n=xs.length:=e;rcases e' with ⟨xs,hx,e'⟩|⟨xs,hx,e'⟩
   · subst e';obtain⟨its,r',pl,hz⟩:=I.list hx;have hlen:=r'.length;exact Calls.call_len_list pl.isList (by simp only[List.size_toArray];omega) ⟨.int xs.length,H,I.tok _,⟨_,by simp only[List.size_toArray];rw[hlen]⟩,q⟩
   · subst e';obtain⟨its,r',pl,hz⟩:=I.tuple hx;have hlen:=r'.length;exact len_tuple pl (by simp only[List.size_toArray];omega) ⟨.int xs.length,H,I.tok _,⟨_,by simp only[List.size_toArray];rw[hlen]⟩,q⟩
 | _=>exact(show False from e).elim
end
structure ObjM (h:Heap) (x dx C:Addr) (mA:Str->Option Value):Prop where
 obj:h.get? x=some (instObj C dx)
 ns:h.Ns1 dx mA
 ne:dx≠x
theorem qay {h:Heap}{dx:Addr}{mA:Str->Option Value} (n:h.Ns1 dx mA):∃ od,h.get? dx=some od∧∀ name,lookIn name od=some (mA name):=by
 obtain⟨o,es,ep,ho,hd,hk,_,hm⟩:=n;refine⟨o,ho,fun name=>?_⟩;have e:=hm name;unfold nsFind findBy at e;rw[← Array.find?_toList]at e;unfold lookIn;rw[hd];dsimp only;split
 · rename_i y q
   rw[q]at e;exact congrArg some e
 · rename_i q
   rw[q]at e
   have a:es.toList.any (·.refKey)=false:=by
     rw[List.any_eq_false];intro y hy;obtain⟨z,t,hkey⟩:=hk y (Array.mem_toList_iff.mp hy);simp[DictEntry.refKey,hkey]
   have a':¬ es.toList.any (·.refKey)=true:=by rw[a];exact Bool.false_ne_true
   rw[if_neg a'];exact congrArg some e
theorem ObjM.look {h:Heap}{x dx C:Addr}{mA:Str->Option Value} (I:ObjM h x dx C mA):∃ od,PySem.W.InstAt h x (instObj C dx) C (some od)∧∀ name,lookIn name od=some (mA name) :=
 let ⟨od,ho,hl⟩:=qay I.ns
 ⟨od,⟨I.obj,rfl,rfl,ho⟩,hl⟩
theorem RelO.some_of {v:V}{o:Option Value} (r:RelO (some v) o):∃ u,o=some u∧RelV v u:=by
 cases o with
 | none=>exact(show False from r).elim
 | some u=>exact⟨u,rfl,r⟩
section
variable {P:Program}{w:World}{H H':Hp}{h h':Heap}{a C dx:Addr}{fs fs':List (Str×V)}
theorem qcJ (hok:HOk P w H h) (e:H a=some (.ins C dx fs)):∃ mA,ObjM h a dx C mA∧(∀ f,RelO (fs.lookup f) (mA f))∧PySem.Within mA (fs.map (·.1))∧fs.length≤1000∧H dx=some (.own a):=by
 obtain⟨d,z,ne,ob,mA,n,r,q⟩:=(show ObjOk P w H h a (.ins C dx fs) from hok a _ e)
 exact⟨mA,⟨ob,n,ne⟩,r,q,z,d⟩
end
structure Cls (K:Frag) (C:Addr):Prop where
 pg:plainGet K C Str.empty=true
 hd:PySem.W.hasDictIn K C=true
 po:PySem.W.plainOver K C=true
 sa:findIn K (.ref C) "__setattr__"=some (some (.builtin "object.__setattr__"))
theorem Cls.get {K:Frag}{C:Addr} (c:Cls K C) (f:Str):plainGet K C f=true:=c.pg
section
variable {X:Cx}{pins:List (Addr×Obj)}{σ:St}{H:Hp}{s:Shared}{A:Around}{E:Value->Shared->Prop}{Q:Value->Shared->Prop}{c:Value}{b:Bool}
inductive JW (K:Frag) (H:Hp):V->Value->Prop where
 | non:JW K H .non (.type "NoneType")
 | bl (x:Bool):JW K H (.bl x) (.type "bool")
 | int (i:Int):JW K H (.int i) (.type "int")
 | str (x:Str):JW K H (.str x) (.type "str")
 | flt (x:UInt64):JW K H (.flt x) (.type "float")
 | lst {a:Addr}{xs:List V} (e:H a=some (.lst xs)):JW K H (.ref a) (.type "list")
 | frz {a:Addr}{o:Obj}{xs:List V} (e:H a=some (.frz o (.lst xs))):JW K H (.ref a) (.type "list")
 | tup {a:Addr}{xs:List V} (e:H a=some (.tup xs)):JW K H (.ref a) (.type "tuple")
 | dK {a:Addr}{kvs:List (Key×V)} (e:H a=some (.dK kvs)):JW K H (.ref a) (.type "dict")
 | dT {a:Addr}{kvs:List (List Key×V)} (e:H a=some (.dT kvs)):JW K H (.ref a) (.type "dict")
 | ins {a C dx:Addr}{fs:List (Str×V)} (e:H a=some (.ins C dx fs)) (cl:Cls K C) (ha:findIn K (.ref C) "__class__"=some (some (.builtin "object.__class__")))
     (hn:PySem.W.specialIn K (.builtin "object.__class__") "__get__"=some (some (.builtin "getset_descriptor.__get__"))) (htk:PySem.W.takesIn K (.builtin "object.__class__")=some true)
     (hm:PySem.W.mroIn K C (.type "object")=some true):JW K H (.ref a) (.ref C)
theorem qaG {x:V}{u t:Value} (I:Inv X pins σ H s) (rx:RelV x u) (ty:JW X.K H x t) (e:PySem.W.kitOne X.K t c=some b) (h:∀ tk,Q (.bool b) { s with toks:=tk }) :
   wpAny (model X.prog X.w) A (call (.builtin "isinstance") [u,c]) Q E s:=by
 cases ty with
 | non=>cases (show u=Value.none from rx);exact kia_one PySem.W.kitx_none I.kIn True.intro e (fun z=>nomatch z) h
 | bl y=>cases (show u=Value.bool y from rx);exact kia_one PySem.W.kitx_bool I.kIn True.intro e (fun z=>nomatch z) h
 | int i=>obtain⟨t,q⟩:=(show ∃ t,u=Value.int i t from rx);cases q;exact kia_one PySem.W.kitx_int I.kIn True.intro e (fun z=>nomatch z) h
 | str y=>obtain⟨t,q⟩:=(show ∃ t,u=Value.str y t from rx);cases q;exact kia_one PySem.W.kitx_str I.kIn True.intro e (fun z=>nomatch z) h
 | flt y=>obtain⟨t,q⟩:=(show ∃ t,u=Value.float y t from rx);cases q;exact kia_one PySem.W.kitx_float I.kIn True.intro e (fun z=>nomatch z) h
 | @lst a xs ea =>
   cases (show u=Value.ref a from rx);obtain⟨_,_,n,_,h1⟩:=(show ObjOk X.prog X.w H s.heap a (.lst xs) from I.hok a _ ea)
   exact kia_one kitx_list I.kIn ⟨_,h1,rfl⟩ e (fun z=>nomatch z) h
 | @frz a ob xs ea =>
   cases (show u=Value.ref a from rx);obtain⟨_,_,_,n,_,h1⟩:=(show ObjOk X.prog X.w H s.heap a (.frz ob (.lst xs)) from I.hok a _ ea)
   exact kia_one kitx_list I.kIn ⟨_,h1,rfl⟩ e (fun z=>nomatch z) h
 | @tup a xs ea =>
   cases (show u=Value.ref a from rx);obtain⟨_,_,_,p⟩:=(show ObjOk X.prog X.w H s.heap a (.tup xs) from I.hok a _ ea)
   obtain⟨o,h1,h2,_⟩:=p;exact kia_one PySem.W.kitx_tuple I.kIn ⟨o,h1,h2⟩ e (fun z=>nomatch z) h
 | @dK a kvs ea =>
   cases (show u=Value.ref a from rx);obtain⟨_,_,vs,_,p⟩:=(show ObjOk X.prog X.w H s.heap a (.dK kvs) from I.hok a _ ea)
   obtain⟨o,es,ep,h1,h2,_⟩:=p;exact kia_one kitx_dict I.kIn ⟨o,h1,h2.1⟩ e (fun z=>nomatch z) h
 | @dT a kvs ea =>
   cases (show u=Value.ref a from rx);obtain⟨_,_,xs,_,o,es,ep,h1,h2,_⟩:=(show ObjOk X.prog X.w H s.heap a (.dT kvs) from I.hok a _ ea)
   exact kia_one kitx_dict I.kIn ⟨o,h1,h2.1⟩ e (fun z=>nomatch z) h
 | @ins a C dx fs ea cl ha hn htk hm =>
   cases (show u=Value.ref a from rx);obtain⟨mA,O,_⟩:=qcJ I.hok ea;obtain⟨od,J,_⟩:=O.look;exact kia_one (PySem.W.kitx_own (cl.get _) cl.hd ha hn htk hm) I.kIn J e (fun z=>nomatch z) h
end
structure Room (k:Nat) (A:Around):Prop where
 hd:A.handled=none
 dp:A.depth+3 * k+5 < recursionLimit
 un:A.units+16 * k+200 < cLine
 gd:A.guards=some []
theorem Room.mono {j k:Nat}{A:Around} (r:Room k A) (h:j≤k):Room j A:=⟨r.hd,by have:=r.dp;omega,by have:=r.un;omega,r.gd⟩
theorem Room.deeper {k:Nat}{A:Around} (r:Room (k+1) A) (env:Env):Room k (A.deeper env) :=
 ⟨r.hd,by have:=r.dp;show A.depth+1+3 * k+5 < _;omega,by have:=r.un;show A.units+3+16 * k+200 < _;omega,r.gd⟩
theorem Room.depth {k:Nat}{A:Around} (r:Room k A):A.depth < recursionLimit:=by have:=r.dp;omega
theorem Room.units {k:Nat}{A:Around} (r:Room k A):A.units+64 < cLine:=by have:=r.un;omega
def qez:TA:=fun _ H Q=>Q [] H
def qdM (ta:TE) (tr:TA):TA:=fun σ H Q=>ta σ H fun x H1=>tr σ H1 fun xs H2=>Q (x::xs) H2
section
variable {X:Cx}{e:Expr}{es:List Expr}{te:TE}{t:TA}{pos:Pos}
theorem qc:PA X [] qez:=fun _ _ _ _ H Q I h=>Calls.spliced_nil ⟨[],H,I,.nil,h⟩
theorem qa (ha:PE X e te) (hr:PA X es t) (hs:starEach (e::es) X.env=(false,eval e X.env)::starEach es X.env:=by rfl):PA X (e::es) (qdM te t):=by
 intro pos pins s σ H Q I h;rw[hs];show wpAny _ _ (spliced ((false,eval e X.env)::backTo pos (starEach es X.env))) _ _ s;refine Calls.spliced_cons (thn (ha pins s σ H _ I h) fun u s1 zz_=>?_);obtain⟨x,H1,I1,r1,q1⟩:=zz_;exact thn (hr pos pins s1 σ H1 _ I1 q1) fun us s2 ⟨xs,H2,I2,r2,q2⟩=>⟨x::xs,H2,I2,.cons r1 r2,q2⟩
def qew (t:TA):TE:=fun σ H Q=>t σ H fun xs H1=>xs.length≤sizeLine∧∀ p,H1 p=none->Q (.ref p) (upd H1 p (.tup xs))
def qeA (t:TA):TE:=fun σ H Q=>t σ H fun xs H1=>xs.length≤sizeLine∧∀ p,H1 p=none->Q (.ref p) (upd H1 p (.lst xs))
theorem Qb {x1} (h:PA X es t):PE X (.Tuple es x1 pos) (qew t):=by
 intro pins s σ H Q I hq;refine wpAny_Tuple_spliced (thn (h pos pins s σ H _ I hq) fun us s1 ⟨xs,H1,I1,r,z,q⟩=>⟨by rw[← r.length];exact z,?_⟩);have hf:H1 s1.heap.objs.size=none:=I1.hok.fresh (Nat.le_refl _);refine⟨.ref s1.heap.objs.size,upd H1 s1.heap.objs.size (.tup xs),I1.laid (t':=s1.toks) (fun b u e=>Heap.get?_push_of_some _ e) (Nat.le_refl _) ?_,rfl,q _ hf⟩;exact⟨z,us,r,⟨_,Heap.get?_push_size _ rfl,rfl,_,rfl⟩⟩
theorem qH (h:PA X es t):PE X (.List es pos) (qeA t):=by
 intro pins s σ H Q I hq;refine wpAny_List_spliced (thn (h pos pins s σ H _ I hq) fun us s1 ⟨xs,H1,I1,r,z,q⟩=>⟨by rw[← r.length];exact z,?_⟩);have hf:H1 s1.heap.objs.size=none:=I1.hok.fresh (Nat.le_refl _);refine⟨.ref s1.heap.objs.size,upd H1 s1.heap.objs.size (.lst xs),I1.laid (t':=s1.toks) (fun b u e=>Heap.get?_push_of_some _ e) (Nat.le_refl _) ?_,rfl,q _ hf⟩;exact⟨z,us,0,r,Heap.get?_push_size _ rfl⟩
end
abbrev Sp:=List V->Hp->VK->XK->Prop
abbrev CXT:=List Env->Hp->Shared->XK->Value->Shared->Prop
structure qdC (P:Program) (w:World) (K:Frag) (mg:Str->Option Value) (base:Heap) (A:Around) (outer:List Env) (s:Shared) (H:Hp):Prop where
 frames:A.frames=some outer
 mod:Mod K mg base
 bs:∀ b o,base.get? b=some o->s.heap.get? b=some o∧H b=none
 bsz:base.objs.size≤s.heap.objs.size
 funs:s.heap.FunFrames base outer
 frf:∀ b∈frs outer,H b=none
 hok:HOk P w H s.heap
 bare:AllBare s.gens
def CE (outer:List Env) (P:Program) (w:World) (H:Hp) (s:Shared) (Q:VK) (u:Value) (s':Shared):Prop :=
 ∃ v H',s'.os=s.os∧AllBare s'.gens∧Un (frs outer) [] H H' s.heap s'.heap∧HOk P w H' s'.heap∧RelV v u∧Q v H'
def CR (CX:CXT) (outer:List Env) (P:Program) (w:World) (H:Hp) (s:Shared) (Q:VK) (E:XK) (r:Result) (s':Shared):Prop :=
 match r with
 | .ok (.ret u)=>CE outer P w H s Q u s'
 | .ok _=>False
 | .error e=>CX outer H s E e s'
structure qV (P:Program) (w:World) (K:Frag) (mg:Str->Option Value) (base:Heap) (CX:CXT) (k:Nat) (f:Addr) (fd:FuncData) (ps:List Str) (sp:Sp):Prop where
 len:∀ vs H Q E,sp vs H Q E->vs.length=ps.length
 run:∀ (A:Around) (outer:List Env) (s:Shared) (H:Hp) (args:Args) (us:List Value) (vs:List V) (Q:VK) (E:XK),Room k A->qdC P w K mg base A outer s H->BindsTo s fd args (ps.zip us)->Vals vs us->sp vs H Q E ->
   codeAny (model P w) A (.call (.ref f) args) (CR CX outer P w H s Q E) s
section
variable {X:Cx}{pins:List (Addr×Obj)}{σ:St}{H:Hp}{s s':Shared}
theorem Inv.env0 (I:Inv X pins σ H s):qdC X.prog X.w X.K X.mg X.base X.A X.stack s H :=
 ⟨I.ok.frames,I.ok.mod,I.bs,Nat.le_trans I.ok.bsz I.sz,I.stack,I.stkFree,I.hok,I.bare⟩
theorem Inv.after {Q:VK}{u:Value} (I:Inv X pins σ H s) (h:CE X.stack X.prog X.w H s Q u s'):EP X pins σ Q u s':=by
 obtain⟨v,H',os,bare,un,hok,r,q⟩:=h;obtain⟨hh,g,d,t,os'⟩:=s';obtain rfl:os'=s.os:=os;exact⟨v,H',I.call (h':=hh) (g':=g) (d':=d) (t':=t) (ch:=[]) un hok bare (fun b z=>absurd z (by simp)),r,q⟩
end
def qdN (sp:Sp) (dvs:List V) (E:XK) (t:TA):TE:=fun σ H Q=>t σ H fun vs H1=>sp (vs++dvs) H1 Q E
def Binds (K:Frag) (fd:FuncData) (ps:List Str) (ds:List Value):Prop :=
 ∀ (s:Shared) (us:List Value),K.In s.heap->(us++ds).length=ps.length->BindsTo s fd ⟨us,[]⟩ (ps.zip (us++ds))
theorem Binds.all {K:Frag}{fd:FuncData}{ps:List Str} (h:∀ us:List Value,us.length=ps.length->bindArgs fd ⟨us,[]⟩=pure (ps.zip us)):Binds K fd ps []:=fun s us _ hl=>by
 rw[List.append_nil]at hl ⊢;exact .of_eq (h us hl)
def qa2 (CX:CXT) (X:Cx) (E:XK):Prop:=∀ (pins:List (Addr×Obj)) (σ:St) (H:Hp) (s:Shared) (e:Value) (s':Shared),Inv X pins σ H s->CX X.stack H s E e s'->X.xe e s'
section
variable {X:Cx}{CX:CXT}{k:Nat}{f C:Addr}{fd:FuncData}{ps:List Str}{sp:Sp}{dvs:List V}{ds:List Value}{E:XK}{x m:Str}{p pos apos:Pos}{e o:Expr}{es:List Expr}{ta:TE}{t:TA}
theorem qc5 {pins:List (Addr×Obj)}{σ:St}{H:Hp}{s:Shared}{Q:VK}{us:List Value}{vs:List V} (F:qV X.prog X.w X.K X.mg X.base CX k f fd ps sp) (hr:Room k X.A) (hb:Binds X.K fd ps ds) (hd:Vals dvs ds) (hx:qa2 CX X E)
   (I:Inv X pins σ H s) (r:Vals vs us) (h:sp (vs++dvs) H Q E):wpAny (model X.prog X.w) X.A (call (.ref f) us) (EP X pins σ Q) X.xe s:=by
 have r2:Vals (vs++dvs) (us++ds):=r.append hd;have hl:(us++ds).length=ps.length:=by rw[← r2.length];exact F.len _ _ _ _ h
 refine wpAny_call (codeAny_mono (F.run X.A X.stack s H ⟨us,[]⟩ (us++ds) (vs++dvs) Q E hr I.env0 (hb s us I.kIn hl) r2 h) fun r s' hq=>?_)
 cases r with
 | error e=>exact hx pins σ H s e s' I hq
 | ok fl =>
   cases fl with
   | ret u=>exact I.after hq
   | next=>exact False.elim hq
   | brk=>exact False.elim hq
   | cont=>exact False.elim hq
theorem qh (F:qV X.prog X.w X.K X.mg X.base CX k f fd ps sp) (hr:Room k X.A) (hg:Gl X x) (hm:X.mg x=some (.ref f)) (hk:PySem.W.keepIn X.K (.ref f)=true) (hb:Binds X.K fd ps ds) (hd:Vals dvs ds) (hx:qa2 CX X E)
   (ha:PA X (e::es) t) (hdb:(x == ("__debug__":Str))=false:=by decide) (he:starEach (e::es) X.env=(false,eval e X.env)::starEach es X.env:=by rfl) (hpl:(backTo pos (starEach es X.env)).any (·.1)=false:=by rfl) :
   PE X (.Call (.Name x p) (e::es) [] pos) (qdN sp dvs E t):=by
 intro pins s σ H Q I h;refine wpAny_Call_Name_kw (qcI I hg hm ?_ hdb);refine PySem.W.callWith_K (h₀:=X.base) I.ok.mod.kin hk (thn (ha pos pins s σ H _ I h) fun us s1 ⟨vs,H1,I1,r,q⟩=>⟨I1.kIn,?_⟩) he hpl;exact qc5 F hr hb hd hx I1 r q
end
section
variable {X:Cx}{CX:CXT}{k:Nat}{f C:Addr}{fd:FuncData}{ps ks:List Str}{sp:Sp}{E:XK}{x m:Str}{p pos apos kpos:Pos}{e o:Expr}{es:List Expr}{kws:List Keyword}{te ta:TE}{t tk:TA}{nm:Option Str}
variable {g:List Value->List Value->List Value}{gV:List V->List V->List V}
end
structure qC (N P:List Str) (sc:Scope):Prop where
 kind:sc.kind=.function
 co:sc.isCoroutine=false
 gen:sc.isGenerator=false
 nd:N.Nodup
 pre:N.take P.length=P
 par:∀ x∈P,sc.names.lookup x=some .local∨sc.names.lookup x=some .cell
 nofree:∀ y∈sc.names,y.2≠.free
theorem jq {kindOf:Str->Option NameKind}{x:Str}:∀ {binds:List (Str×Value)}{m:Str->Option Value},(∀ v,(x,v)∉binds)->bindL kindOf binds m x=m x
 | [],_,_=>rfl
 | (n,v)::r,m,h=>by
   unfold bindL;rw[jq fun w hw=>h w (List.mem_cons_of_mem _ hw)];split
   · have:x≠n:=by rintro rfl;exact h v List.mem_cons_self
     simp[this]
   · rfl
theorem jt {kindOf:Str->Option NameKind}{x:Str}:∀ {binds:List (Str×Value)}{m:Str->Option Value},(∀ v,(x,v)∉binds)->bindC kindOf binds m x=m x
 | [],_,_=>rfl
 | (n,v)::r,m,h=>by
   unfold bindC;rw[jt fun w hw=>h w (List.mem_cons_of_mem _ hw)];split
   · rfl
   · have:x≠n:=by rintro rfl;exact h v List.mem_cons_self
     simp[this]
theorem jr {kindOf:Str->Option NameKind}{x:Str}{v:Value}:∀ {P:List Str}{vs:List Value}{i:Nat}{m:Str->Option Value},P.Nodup->P[i]?=some x->vs[i]?=some v->kindOf x=some .local ->
   bindL kindOf (P.zip vs) m x=some v
 | [],_,_,_,_,h,_,_=>by simp at h
 | _::_,[],_,_,_,_,h,_=>by simp at h
 | p::P,w::vs,0,m,nd,h1,h2,hk=>by
   simp at h1 h2;subst h1;subst h2;show bindL kindOf ((p,w)::P.zip vs) m p=_;unfold bindL;rw[jq fun v hv=>(List.nodup_cons.mp nd).1 (List.of_mem_zip hv).1,if_pos hk];simp
 | p::P,w::vs,i+1,m,nd,h1,h2,hk=>by
   show bindL kindOf ((p,w)::P.zip vs) m x=_;unfold bindL;exact jr (i:=i) (List.nodup_cons.mp nd).2 (by simpa using h1) (by simpa using h2) hk
theorem ju {kindOf:Str->Option NameKind}{x:Str}{v:Value}:∀ {P:List Str}{vs:List Value}{i:Nat}{m:Str->Option Value},P.Nodup->P[i]?=some x->vs[i]?=some v->kindOf x≠some .local ->
   bindC kindOf (P.zip vs) m x=some v
 | [],_,_,_,_,h,_,_=>by simp at h
 | _::_,[],_,_,_,_,h,_=>by simp at h
 | p::P,w::vs,0,m,nd,h1,h2,hk=>by
   simp at h1 h2;subst h1;subst h2;show bindC kindOf ((p,w)::P.zip vs) m p=_;unfold bindC;rw[jt fun v hv=>(List.nodup_cons.mp nd).1 (List.of_mem_zip hv).1,if_neg hk];simp
 | p::P,w::vs,i+1,m,nd,h1,h2,hk=>by
   show bindC kindOf ((p,w)::P.zip vs) m x=_;unfold bindC;exact ju (i:=i) (List.nodup_cons.mp nd).2 (by simpa using h1) (by simpa using h2) hk
def ZQ (N:List Str) (vs:List V):St:=vs.map some++List.replicate (N.length - vs.length) none
def Qx (CX:CXT) (P:Program) (w:World) (K:Frag) (mg:Str->Option Value) (base:Heap) (N:List Str) (qual:Str) (scope:Scope) (f:Addr) (cd:Value) (A:Around) (outer:List Env) (s:Shared) (H:Hp) (E:XK):Cx where
 prog:=P
 w:=w
 K:=K
 mg:=mg
 base:=base
 A:=A.deeper (envOfC qual scope s.heap.objs.size f cd)
 N:=N
 s₀:=s
 H₀:=H
 env:=envOfC qual scope s.heap.objs.size f cd
 outer:=outer
 stack:=envOfC qual scope s.heap.objs.size f cd::outer
 ex:=[]
 calm:=true
 fn:=fun _=>true
 pn:=[]
 xe:=fun e s'=>wpAny (model P w) (A.deeper (envOfC qual scope s.heap.objs.size f cd)) (leaving (envOfC qual scope s.heap.objs.size f cd) e) (fun _ s''=>CX outer H s E e s'') (fun e' s''=>CX outer H s E e' s'') s'
theorem Jz {sc:Scope}{n:Nat}{x:Str} (h:sc.names.lookup x=some .cell):∃ c,(cellsFrom n sc.names []).lookup x=some c:=by
 have q:=PySem.W.cellsFrom_some sc.names n [] (.inl h);exact Option.isSome_iff_exists.mp q
theorem qaH {CX:CXT}{P:Program}{w:World}{K:Frag}{mg:Str->Option Value}{base:Heap}{N ps:List Str}{qual:Str}{scope:Scope}{f:Addr}{cd:Value}{A:Around}{outer:List Env}{s s1:Shared}{H:Hp}{E:XK}{us:List Value}{vs:List V}
   (S:qC N ps scope) (hd:A.handled=none) (e0:qdC P w K mg base A outer s H) (hl:vs.length=ps.length) (r:Vals vs us)
   (x:InCallC s s.heap.objs.size (bindL (envOfC qual scope s.heap.objs.size f cd).kindOf (ps.zip us) fun _=>none) (cellsFrom (s.heap.objs.size+1) scope.names []) (bindC (envOfC qual scope s.heap.objs.size f cd).kindOf (ps.zip us) fun _=>none) s1) :
   Inv (Qx CX P w K mg base N qual scope f cd A outer s H E) [] (ZQ N vs) H s1:=by
 have hpl:ps.length≤N.length:=by have:=congrArg List.length S.pre;rw[List.length_take]at this;omega
 obtain⟨h1,tk,rfl,hk⟩:=x.done;have noA:∀ b:Addr,b∉(Qx CX P w K mg base N qual scope f cd A outer s H E).ex:=fun b z=>absurd (show b∈([]:List Addr) from z) (by simp)
 refine⟨⟨e0.mod,S.kind,rfl,rfl,Nat.le_refl _,fun y z c h1 h2=>?_,fun y hy=>?_,fun y c _ h=>?_,fun _=>hd,Around.frames_deeper e0.frames,.inr ⟨rfl,rfl⟩,fun b z=>absurd z (noA b),e0.bs,e0.bsz,fun b _ _=>noA b,fun b z=>absurd z (noA b),e0.funs,e0.frf⟩,
   rfl,e0.bare,Un.kept hk,⟨_,x.toInCall.ns,fun i y v h1 h2 h3=>?_⟩,fun y c h=>⟨_,x.cell y c h⟩,e0.hok.fresh (Nat.le_refl _),fun y c h=>?_,fun p hp=>absurd (show p∈([]:List (Addr×Obj)) from hp) (by simp),e0.hok.kept hk,?_⟩
 · exact name_of_addr x.apart (PySem.mem_of_lookup h1) (PySem.mem_of_lookup h2)
 · have hy:scope.names.lookup y=some .cell∨scope.names.lookup y=some .free:=hy;rcases hy with hy|hy
   · exact Jz hy
   · exact absurd rfl (S.nofree _ (PySem.mem_of_lookup hy))
 · exact Nat.le_of_lt (x.above y c (PySem.mem_of_lookup h))
 · have hi:i < vs.length:=by
     unfold ZQ at h2;by_cases hi:i < vs.length
     · exact hi
     · rw[List.getElem?_append_right (by simpa using hi)]at h2;rw[List.getElem?_replicate]at h2;split at h2<;>cases h2
   have ha:vs[i]?=some v:=by
     unfold ZQ at h2;rw[List.getElem?_append_left (by simpa using hi),List.getElem?_map]at h2
     cases e:vs[i]? with
     | none=>rw[e]at h2;cases h2
     | some a=>rw[e]at h2;cases h2;rfl
   obtain⟨u,hu,rv⟩:=r.get ha
   have hp:ps[i]?=some y:=by
     rw[← S.pre,List.getElem?_take_of_lt (by omega)];exact h1
   have ndP:ps.Nodup:=by rw[← S.pre];exact S.nd.sublist (List.take_sublist _ _)
   refine⟨u,rv,?_⟩;rcases S.par y (List.mem_of_getElem? hp) with k|k
   · exact .inl ⟨k,jr ndP hp hu k⟩
   · obtain⟨c,e⟩:=Jz (n:=s.heap.objs.size+1) k;refine .inr ⟨.inl k,c,e,?_⟩;have q:=x.cell y c e;rw[ju ndP hp hu (by show scope.names.lookup y≠_;rw[k];decide)]at q;exact q
 · exact e0.hok.fresh (Nat.le_of_lt (x.above y c (PySem.mem_of_lookup h)))
 · unfold ZQ;show _=N.length;rw[List.length_append,List.length_map,List.length_replicate];omega
theorem qd3 {CX:CXT}{P:Program}{w:World}{K:Frag}{mg:Str->Option Value}{base:Heap}{k:Nat}{f:Addr}{name qual:Str}{params:Arguments}{body:List Stmt}{scope:Scope}{dV kV doc pm cdv ct oc:Value}{an od:Option Addr}
   {osl:Array (Option Value)}{N ps:List Str}{sp:Sp} (lk:K.lookup f=some ⟨oc,od,.func (fnOf name qual params body scope dV kV doc pm an cdv ct),osl⟩) (hcd:PySem.W.codeIn K cdv qual=true) (S:qC N ps scope)
   (len:∀ vs H Q E,sp vs H Q E->vs.length=ps.length)
   (hbody:∀ (A:Around) (outer:List Env) (s:Shared) (H:Hp) (vs:List V) (Q:VK) (E:XK),Room k (A.deeper (envOfC qual scope s.heap.objs.size f cdv))->sp vs H Q E ->
     ∃ t,PSs (Qx CX P w K mg base N qual scope f cdv A outer s H E) body t∧t { nx:=fun _ H'=>Q .non H',rt:=Q } (ZQ N vs) H) :
   qV P w K mg base CX (k+1) f (fnOf name qual params body scope dV kV doc pm an cdv ct) ps sp:=by
 refine⟨len,fun A outer s H args us vs Q E hr e0 hb r hsp=>?_⟩;have hl:=len _ _ _ _ hsp;have KX:K.In s.heap:=e0.mod.kin.keeps fun b o e=>(e0.bs b o e).1;have lim:s.heap.NoLimit:=e0.mod.nolimit.keeps fun b o e=>(e0.bs b o e).1
 have hkind:∀ y∈ps.zip us,scope.names.lookup y.1=some .local∨(scope.names.lookup y.1=some .cell∧((cellsFrom (s.heap.objs.size+1) scope.names []).lookup y.1).isSome=true):=fun⟨n,v⟩ hy=>by
   rcases S.par n (List.of_mem_zip hy).1 with q|q
   · exact .inl q
   · exact .inr ⟨q,PySem.W.cellsFrom_some _ _ _ (.inl q)⟩
 refine codeAny_call_function hr.depth (KX _ _ lk) rfl S.co S.gen rfl (PySem.W.codeRec_of KX hcd) (hb _ _ _ _ ?_);refine wpAny_newFunctionEnv_cells S.kind hkind fun env he s1 x=>?_;subst he;refine⟨lim.keeps x.toInCall.keep,codeAny_func ?_⟩;obtain⟨t,ht,hq⟩:=hbody A outer s H vs Q E (hr.deeper _) hsp;have I:Inv (Qx CX P w K mg base N qual scope f cdv A outer s H E) [] (ZQ N vs) H s1:=qaH S hr.hd e0 hl r x;refine wpAny_mono (ht [] s1 (ZQ N vs) H _ I hq) (fun fl s' hs=>?_) fun e s' hs=>hs
 have fin:∀ {σ':St}{H':Hp}{v:V}{u:Value},Inv (Qx CX P w K mg base N qual scope f cdv A outer s H E) [] σ' H' s'->RelV v u->Q v H'->CE outer P w H s Q u s' :=
   fun {σ' H' v u} J rv q=>⟨v,H',J.os,J.bare,J.base,J.hok,rv,q⟩
 cases fl with
 | ret u =>
   obtain⟨v,σ',H',J,rv,q⟩:=hs;exact fin J rv q
 | next =>
   obtain⟨σ',H',J,q⟩:=hs;exact fin (v:=V.non) (u:=Value.none) J rfl q
 | brk =>
   obtain⟨_,_,_,q⟩:=hs;exact False.elim q
 | cont =>
   obtain⟨_,_,_,q⟩:=hs;exact False.elim q
section
variable {X:Cx}{x:Str}{p pos:Pos}{e:Expr}{es:List Expr}{t:TA}{id T:String}{r:List V->Hp->VK->Prop}
def tCB (r:List V->Hp->VK->Prop) (t:TA):TE:=fun σ H Q=>t σ H fun vs H1=>r vs H1 Q
theorem qp (hc:CallR X (.builtin id) r) (hg:Gl X x) (hm:X.mg x=none) (hv:bootBuiltins x=some (.builtin id)) (ha:PA X (e::es) t) (hn:x≠"__name__":=by decide) (hdb:(x == ("__debug__":Str))=false:=by decide)
   (he:starEach (e::es) X.env=(false,eval e X.env)::starEach es X.env:=by rfl) (hpl:(backTo pos (starEach es X.env)).any (·.1)=false:=by rfl):PE X (.Call (.Name x p) (e::es) [] pos) (tCB r t):=by
 intro pins s σ H Q I h;refine wpAny_Call_Name_kw (QW I hg hm hv ?_ hn hdb);exact PyProof.Rows.callWith_builtin1 (thn (ha pos pins s σ H _ I h) fun us s1 ⟨vs,H1,I1,r1,q1⟩=>hc pins s1 σ H1 vs us Q I1 r1 q1) he hpl
theorem Qc (hc:CallR X (.type T) r) (hg:Gl X x) (hm:X.mg x=none) (hv:bootBuiltins x=some (.type T)) (ha:PA X (e::es) t) (hn:x≠"__name__":=by decide) (hdb:(x == ("__debug__":Str))=false:=by decide)
   (he:starEach (e::es) X.env=(false,eval e X.env)::starEach es X.env:=by rfl) (hpl:(backTo pos (starEach es X.env)).any (·.1)=false:=by rfl):PE X (.Call (.Name x p) (e::es) [] pos) (tCB r t):=by
 intro pins s σ H Q I h;refine wpAny_Call_Name_kw (QW I hg hm hv ?_ hn hdb);exact PyProof.Rows.callWith_type1 (thn (ha pos pins s σ H _ I h) fun us s1 ⟨vs,H1,I1,r1,q1⟩=>hc pins s1 σ H1 vs us Q I1 r1 q1) he hpl
end
end L2
namespace HT
open PySem PyProof.Rows
section
open PySem.SeqAt
open PySem.AutoSeq1 (wpAny_loadPart')
open PySem.MeetsSeq PySem.MeetsSeq2 PySem.MeetsSeq3
end
section
variable {prog:Program}{w:World}{A:Around}{E:Value->Shared->Prop}{s:Shared}
def sIx (n d:Nat):Option Int->Nat
 | none=>d
 | some v=>if v < 0 then (v+(n:Int)).toNat else min v.toNat n
theorem sIx_none (n d:Nat):sIx n d none=d:=rfl
theorem sIx_nat (n d k:Nat):sIx n d (some (k:Int))=min k n:=by
 show (if (k:Int) < 0 then ((k:Int)+(n:Int)).toNat else min (k:Int).toNat n)=min k n;rw[if_neg (by omega),Int.toNat_natCast]
end
end HT
namespace L2
open PySem PySem.Spec PyProof.Rows
open PySem.W (Frag)
abbrev TO:=St->Hp->(Option Int->Hp->Prop)->Prop
def PO (X:Cx) (e:Option Expr) (t:TO):Prop :=
 ∀ (pins:List (Addr×Obj)) (s:Shared) (σ:St) (H:Hp) (Q:Option Int->Hp->Prop),Inv X pins σ H s->t σ H Q ->
   wpAny (model X.prog X.w) X.A (evalPart e X.env) (fun u s'=>∃ o H',Inv X pins σ H' s'∧IsPart u o∧Q o H') X.xe s
def qcm:TO:=fun _ H Q=>Q none H
inductive J2 (Q:(Option Int->Hp->Prop)) (x:V) (H1:Hp):Prop
 | mk (i:_) (h1:x=.int i) (h2:Q (some i) H1):J2 Q x H1
def qdE (t:TE):TO:=fun σ H Q=>t σ H fun x H1=>J2 Q x H1
section
variable {X:Cx}{e:Expr}{te:TE}{lo hi:Option Expr}{tl th:TO}{pos p2:Pos}
theorem qan:PO X none qcm:=by
 intro pins s σ H Q I h;rw[evalPart_none];exact wpAny_pure ⟨none,H,I,.none,h⟩
theorem qam (h:PE X e te):PO X (some e) (qdE te):=by
 intro pins s σ H Q I hw;rw[evalPart_some];refine thn (h pins s σ H _ I hw) fun u s1 zz_=>?_;obtain⟨x,H1,I1,r1,q1⟩:=zz_;obtain⟨i,rfl,q⟩:=q1;obtain⟨t,rfl⟩:=r1;exact⟨some i,H1,I1,.int i t,q⟩
def SlR (X:Cx) (r:V->Option Int->Option Int->Hp->VK->Prop):Prop :=
 ∀ (pins:List (Addr×Obj)) (s:Shared) (σ:St) (H:Hp) (x:V) (v vl vu:Value) (lo hi:Option Int) (sl:Addr) (Q:VK),Inv X pins σ H s->RelV x v->s.heap.IsSliceOf sl vl vu .none->IsPart vl lo->IsPart vu hi->r x lo hi H Q ->
   ∃ T id,typeLookup (.type T) "__getitem__"=pure (some (.builtin id))∧s.TypeIs v T∧wpAny (model X.prog X.w) X.A (getItem v (.ref sl)) (EP X pins σ Q) X.xe s
theorem SlR.or {r r':V->Option Int->Option Int->Hp->VK->Prop} (h:SlR X r) (h':SlR X r'):SlR X (fun x lo hi H Q=>r x lo hi H Q∨r' x lo hi H Q):=by
 intro pins s σ H x v vl vu lo hi sl Q I rx hs pl pu q;rcases q with q|q
 · exact h pins s σ H x v vl vu lo hi sl Q I rx hs pl pu q
 · exact h' pins s σ H x v vl vu lo hi sl Q I rx hs pl pu q
def tSl (r:V->Option Int->Option Int->Hp->VK->Prop) (te:TE) (tl th:TO):TE:=fun σ H Q=>te σ H fun x H1=>tl σ H1 fun l H2=>th σ H2 fun u H3=>r x l u H3 Q
theorem Jo {r:V->Option Int->Option Int->Hp->VK->Prop} (hr:SlR X r) (he:PE X e te) (hl:PO X lo tl) (hu:PO X hi th):PE X (.Subscript e (.Slice lo hi none p2) pos) (tSl r te tl th):=by
 intro pins s σ H Q I h;refine Subscript_ (thn (he pins s σ H _ I h) fun v s1 zz_=>?_);obtain⟨x,H1,I1,r1,q1⟩:=zz_;refine wpAny_Slice (thn (hl pins s1 σ H1 _ I1 q1) fun vl s2 ⟨l,H2,I2,pl,q2⟩=>thn (hu pins s2 σ H2 _ I2 q2) fun vu s3 zz_=>?_);obtain⟨u,H3,I3,pu,q3⟩:=zz_;rw[evalPart_none];refine wpAny_pure ?_;have I4:Inv X pins σ H3 { s3 with heap:=s3.heap.push { cls:=.type "slice",data:=.fields #[vl,vu,.none] } }:=I3.kept (t':=s3.toks) fun b ob q=>Heap.get?_push_of_some _ q;obtain⟨T,id,hT,ht,hg⟩:=hr pins { s3 with heap:=s3.heap.push { cls:=.type "slice",data:=.fields #[vl,vu,.none] } } σ H3 x v vl vu l u s3.heap.objs.size Q I4 r1 (Heap.IsSliceOf.new ..) pl pu q3;show wpAny (model X.prog X.w) X.A (subscriptTail e (.Slice lo hi none p2) v (.ref s3.heap.objs.size)) (EP X pins σ Q) X.xe { s3 with heap:=s3.heap.push { cls:=.type "slice",data:=.fields #[vl,vu,.none] } };exact tail_any (ops:=[.ref s3.heap.objs.size,v]) ht hT hg (by with_unfolding_all rfl)
def qcc (xs:List V) (lo hi:Option Int):List V:=(xs.drop (HT.sIx xs.length 0 lo)).take (HT.sIx xs.length xs.length hi - HT.sIx xs.length 0 lo)
theorem jS (xs:List V) (lo hi:Option Int):(qcc xs lo hi).length≤xs.length:=by
 unfold qcc;refine Nat.le_trans (List.length_take_le' _ _) ?_;rw[List.length_drop];exact Nat.sub_le _ _
end
def ixN (n:Nat) (i:Int):Option Nat:=if 0≤i then (if i < n then some i.toNat else none) else if -(n:Int)≤i then some (i+n).toNat else none
def atI {α:Type} (xs:List α) (i:Int):Option α:=(ixN xs.length i).bind fun j=>xs[j]?
theorem qaC {n:Nat}{i:Int}{j:Nat} (h:ixN n i=some j):seqIndex? i n=some j∧j < n∧-(n:Int)≤i∧i < n:=by
 unfold ixN at h;by_cases h0:0≤i
 · rw[if_pos h0]at h;by_cases h1:i < n
   · rw[if_pos h1]at h;have e:i.toNat=j:=Option.some.inj h;exact⟨by rw[seqIndex_of h0 h1,e],by omega,by omega,h1⟩
   · rw[if_neg h1]at h;cases h
 · rw[if_neg h0]at h;by_cases h1:-(n:Int)≤i
   · rw[if_pos h1]at h;have e:(i+n).toNat=j:=Option.some.inj h;exact⟨by rw[seqIndex_neg (by omega) h1,e],by omega,h1,by omega⟩
   · rw[if_neg h1]at h;cases h
theorem jU {α:Type}{xs:List α}{i:Int}{v:α} (h:atI xs i=some v):∃ j,seqIndex? i xs.length=some j∧xs[j]?=some v∧j < xs.length∧-(xs.length:Int)≤i∧i < xs.length:=by
 unfold atI at h
 cases e:ixN xs.length i with
 | none=>rw[e]at h;cases h
 | some j =>
   rw[e]at h;obtain⟨h1,h2,h3,h4⟩:=qaC e;exact⟨j,h1,h,h2,h3,h4⟩
theorem zm {α:Type}{xs:List α}{j:Nat}{v:α} (h:xs[j]?=some v):atI xs (j:Int)=some v:=by
 have hj:j < xs.length:=(List.getElem?_eq_some_iff.mp h).1
 have e:ixN xs.length (j:Int)=some j:=by
   unfold ixN;rw[if_pos (by omega),if_pos (by omega)];simp
 unfold atI;rw[e];exact h
def qcR (b:Expr):Prop:=∀ o i,subscripted b false o i=operate [o,i] (getItem o i)
def IxR (X:Cx) (r:R2):Prop :=
 ∀ (value slice:Expr) (pins:List (Addr×Obj)) (s:Shared) (σ:St) (H:Hp) (x y:V) (v u:Value) (Q:VK),Inv X pins σ H s->RelV x v->RelV y u->r x y H Q ->
   subscripted slice false v u=operate [v,u] (getItem v u)->wpAny (model X.prog X.w) X.A (subscriptTail value slice v u) (EP X pins σ Q) X.xe s
def MtR (X:Cx) (id:String) (r:V->List V->Hp->VK->Prop):Prop :=
 ∀ (pins:List (Addr×Obj)) (s:Shared) (σ:St) (H:Hp) (x:V) (xs:List V) (v:Value) (us:List Value) (Q:VK),Inv X pins σ H s->RelV x v->Vals xs us->r x xs H Q ->
   wpAny (model X.prog X.w) X.A (call (.builtin id) (v::us)) (EP X pins σ Q) X.xe s
section
variable {X:Cx}{a b:Expr}{ta tb:TE}{pos:Pos}
theorem IxR.or {r r':R2} (h:IxR X r) (h':IxR X r'):IxR X (fun x y H Q=>r x y H Q∨r' x y H Q):=by
 intro value slice pins s σ H x y v u Q I rx ry q hs;rcases q with q|q
 · exact h value slice pins s σ H x y v u Q I rx ry q hs
 · exact h' value slice pins s σ H x y v u Q I rx ry q hs
theorem qw {r:R2} (hr:IxR X r) (ha:PE X a ta) (hb:PE X b tb) (hs:qcR b):PE X (.Subscript a b pos) (tOp r ta tb):=by
 intro pins s σ H Q I h;exact Subscript_ (qd6 ha hb I h fun v u s2 x y H2 I2 rx ry q=>hr a b pins s2 σ H2 x y v u Q I2 rx ry q (hs _ _))
inductive qbW (K:Frag) (x:V) (y:V) (H:Hp) (Q:VK):Prop
 | mk (p xs i v:_) (h1:x=.ref p) (h2:y=.int i) (h3:SqL K H p xs) (h4:atI xs i=some v) (h5:Q v H):qbW K x y H Q
def qei (K:Frag):R2:=fun x y H Q=>qbW K x y H Q
inductive qbV (K:Frag) (x:V) (y:V) (H:Hp) (Q:VK):Prop
 | mk (p xs i v:_) (h1:x=.ref p) (h2:y=.int i) (h3:SqT K H p xs) (h4:atI xs i=some v) (h5:Q v H):qbV K x y H Q
def qeg (K:Frag):R2:=fun x y H Q=>qbV K x y H Q
def qeh:R2:=fun x y H Q=>∃ z i c,x=.str z∧y=.int i∧z.length≤sizeLine∧atI z.cps.toList i=some c∧Q (.str ⟨#[c]⟩) H
theorem ix_list:IxR X (qei X.K):=by
 intro value slice pins s σ H x y v u Q I rx ry h hs;obtain⟨p,xs,i,z,rfl,rfl,hq,he,q⟩:=h;cases rx;obtain⟨t,rfl⟩:=ry;obtain⟨its,r,pl,hz⟩:=I.list hq;obtain⟨j,h1,h2,h3,h4,h5⟩:=jU he;obtain⟨w,ew,rw'⟩:=r.get h2;have hl:=r.length;have hn:=Zk;have fin:EP X pins σ Q w s:=⟨z,H,I,rw',q⟩
 by_cases h0:0≤i
 · have hj:i.toNat=j:=by
     rw[seqIndex_of h0 h5]at h1;exact Option.some.inj h1
   exact item_listR pl.isList h0 (by omega) (by rw[hj];simpa using ew) fin hs
 · have hj:(i+(its.toArray.size:Int)).toNat=j:=by
     rw[seqIndex_neg (by omega) h4]at h1;rw[List.size_toArray,← hl];exact Option.some.inj h1
   exact subscriptTail_builtinR (x:=w) pl.isList.typeIs slot_list_getitem.lookup
     (wpAny_getItem_list_neg (Q:=fun r s'=>r=w∧EP X pins σ Q r s') pl.isList (by omega) (by rw[List.size_toArray]<;>omega) (by omega) (by rw[hj];simpa using ew) ⟨rfl,fin⟩) hs
theorem ix_tup:IxR X (qeg X.K):=by
 intro value slice pins s σ H x y v u Q I rx ry h hs;obtain⟨p,xs,i,z,rfl,rfl,hq,he,q⟩:=h;cases rx;obtain⟨t,rfl⟩:=ry;obtain⟨its,r,pl,hz⟩:=I.tuple hq;obtain⟨j,h1,h2,h3,h4,h5⟩:=jU he;obtain⟨w,ew,rw'⟩:=r.get h2;have hl:=r.length;have hn:=Zk;have fin:EP X pins σ Q w s:=⟨z,H,I,rw',q⟩
 exact subscriptTail_builtinR (x:=w) pl.typeIs slot_tuple_getitem.lookup
   (getItem_tuple (j:=j) (Q:=fun r s'=>r=w∧EP X pins σ Q r s') pl (by omega) (by omega) (by rw[List.size_toArray,← hl];exact h1) (by simpa using ew) ⟨rfl,fin⟩) hs
theorem qds:IxR X qeh:=by
 intro value slice pins s σ H x y v u Q I rx ry h hs;obtain⟨z,i,c,rfl,rfl,hz,he,q⟩:=h;obtain⟨t,rfl⟩:=rx;obtain⟨t',rfl⟩:=ry;obtain⟨j,h1,h2,h3,h4,h5⟩:=jU he;have hl:z.cps.toList.length=z.length:=by simp[Str.length]
 rw[hl]at h1 h4 h5;have hn:=Zk
 exact tail_any (typeIs_str s z t) slot_str_getitem.lookup (getItem_str (c:=c) (by
   have e1:decide (i < -(2 ^ 63:Int))=false:=decide_eq_false (by omega);have e2:decide (i ≥ 2 ^ 63)=false:=decide_eq_false (by omega)
   rw[e1,e2,Bool.or_false]) (by rw[h1];simpa using h2) ⟨.str ⟨#[c]⟩,H,I.tok _,⟨_,rfl⟩,q⟩) hs
def rIx (K:Frag):R2:=fun x y H Q=>qei K x y H Q∨qeg K x y H Q∨qeh x y H Q
theorem qk:IxR X (rIx X.K):=ix_list.or (ix_tup.or qds)
theorem JO (its:List Value) (n j:Nat) (u:Value):Obj.mapSeq (·.setIfInBounds j u) { cls:=.type "list",data:=.seq its.toArray n }={ cls:=.type "list",data:=.seq (its.set j u).toArray n }:=by
 simp[Obj.mapSeq]
theorem Inv.lst {pins:List (Addr×Obj)}{σ:St}{H:Hp}{s:Shared}{p:Addr}{xs:List V} (I:Inv X pins σ H s) (h:H p=some (.lst xs)) :
   ∃ (its:List Value) (n:Nat),Vals xs its∧s.heap.get? p=some { cls:=.type "list",data:=.seq its.toArray n }∧xs.length≤sizeLine:=by
 obtain⟨z,its,n,r,e⟩:=I.hok p _ h;exact⟨its,n,r,e,z⟩
theorem Inv.lstUpd {pins:List (Addr×Obj)}{σ:St}{H:Hp}{s:Shared}{p:Addr}{xs ys:List V}{its its':List Value}{n n':Nat}{f:Obj->Obj} (I:Inv X pins σ H s) (h:H p=some (.lst xs))
   (ho:s.heap.get? p=some { cls:=.type "list",data:=.seq its.toArray n }) (hf:f { cls:=.type "list",data:=.seq its.toArray n }={ cls:=.type "list",data:=.seq its'.toArray n' }) (r:Vals ys its') (hz:ys.length≤sizeLine) (t:Nat) :
   Inv X pins σ (upd H p (.lst ys)) { s with heap:=s.heap.update p f,toks:=t }:=by
 have e:(s.heap.update p f).get? p=some { cls:=.type "list",data:=.seq its'.toArray n' }:=by
   rw[Heap.get?_update_self f ho (by rw[hf]<;>rfl),hf]
 refine I.write (x:=p) (e:=p) (by rw[h];trivial) (.inl rfl) (fun b u hb q=>(Heap.get?_update_other _ _ (Ne.symm hb)).trans q) ⟨_,e⟩ ?_;exact⟨hz,its',n',r,e⟩
inductive qai (o:V) (i:V) (v:V) (H:Hp) (Q:(Hp->Prop)):Prop
 | mk (p xs k j:_) (h1:o=.ref p) (h2:i=.int k) (h3:H p=some (.lst xs)) (h4:ixN xs.length k=some j) (h5:Q (upd H p (.lst (xs.set j v)))):qai o i v H Q
def qdR:V->V->V->Hp->(Hp->Prop)->Prop:=fun o i v H Q=>qai o i v H Q
theorem qbb:qer X qdR:=by
 intro pins s σ H o i v ov iv u Q I ro ri rv h;obtain⟨p,xs,k,j,rfl,rfl,hp,hj,q⟩:=h;cases ro;obtain⟨t,rfl⟩:=ri;obtain⟨its,n,r,ho,hz⟩:=I.lst hp;obtain⟨h1,h2,h3,h4⟩:=qaC hj;have hl:=r.length;have hn:=Zk
 have I':Inv X pins σ (upd H p (.lst (xs.set j v))) { s with heap:=s.heap.update p (Obj.mapSeq (·.setIfInBounds j u)) } :=
   I.lstUpd hp ho (JO its n j u) (r.set rv j) (by rw[List.length_set];exact hz) s.toks
 by_cases h0:0≤k
 · have hk:k.toNat=j:=by
     rw[seqIndex_of h0 h4]at h1;exact Option.some.inj h1
   exact PySem.W.ki_setAt ho h0 (by omega) (by rw[List.size_toArray,← hl];exact h4) (by rw[hk];exact⟨_,I',q⟩)
 · have hk:(k+(its.toArray.size:Int)).toNat=j:=by
     rw[seqIndex_neg (by omega) h3]at h1;rw[List.size_toArray,← hl];exact Option.some.inj h1
   exact PySem.W.ki_setBack ho (by omega) (by rw[List.size_toArray,← hl];exact h3) (by omega) (by rw[hk];exact⟨_,I',q⟩)
theorem tn_ (n:Nat):((-1:Int)+(n:Int)).toNat=n - 1:=by
 rw[Int.add_comm];exact Int.toNat_sub n 1
theorem qbL (i:Int) (n:Nat):max 0 (min (if i < 0 then i+(n:Int) else i) (n:Int))=((if i < 0 then (i+(n:Int)).toNat else min i.toNat n:Nat):Int):=by
 by_cases h:i < 0
 · have h':i+(n:Int)≤n:=by have:=Int.add_le_add_right (Int.le_of_lt h) n;rwa [Int.zero_add]at this
   rw[if_pos h,if_pos h,Int.min_eq_left h',Int.ofNat_toNat,Int.max_comm]
 · obtain⟨k,rfl⟩:=Int.eq_ofNat_of_zero_le (Int.not_lt.mp h);rw[if_neg h,if_neg h,Int.toNat_natCast];rcases Nat.le_total k n with g|g
   · rw[Nat.min_eq_left g,Int.min_eq_left (Int.ofNat_le.mpr g),Int.max_eq_right (Int.natCast_nonneg _)]
   · rw[Nat.min_eq_right g,Int.min_eq_right (Int.ofNat_le.mpr g),Int.max_eq_right (Int.natCast_nonneg _)]
theorem ZY (lo hi:Option Int) (n:Nat):(sliceBounds lo hi none n).1=((HT.sIx n 0 lo:Nat):Int)∧(sliceBounds lo hi none n).2.1=((HT.sIx n n hi:Nat):Int)∧(sliceBounds lo hi none n).2.2=1:=by
 refine⟨?_,?_,rfl⟩
 · cases lo with
   | none=>simp[sliceBounds,HT.sIx]
   | some i =>
     simp only[sliceBounds,HT.sIx,Option.getD_none,show (1:Int) > 0 by decide,if_true];exact qbL i n
 · cases hi with
   | none=>simp[sliceBounds,HT.sIx]
   | some i =>
     simp only[sliceBounds,HT.sIx,Option.getD_none,show (1:Int) > 0 by decide,if_true];exact qbL i n
theorem Zw (its:List Value) (lo hi:Option Int):slicePick its.toArray lo hi none=((its.drop (HT.sIx its.length 0 lo)).take (HT.sIx its.length its.length hi - HT.sIx its.length 0 lo)).toArray:=by
 obtain⟨h1,h2,h3⟩:=ZY lo hi its.toArray.size;unfold slicePick;rw[h1,h2,h3];simp only[sliceRange_one,pick_run,List.size_toArray]<;>rfl
inductive qbT (K:Frag) (x:V) (lo:Option Int) (hi:Option Int) (H:Hp) (Q:VK):Prop
 | mk (a xs:_) (h1:x=.ref a) (h2:SqL K H a xs) (h3:∀ p,H p=none->Q (.ref p) (upd H p (.lst (qcc xs lo hi)))):qbT K x lo hi H Q
def qee (K:Frag):V->Option Int->Option Int->Hp->VK->Prop:=fun x lo hi H Q=>qbT K x lo hi H Q
theorem sl_list:SlR X (qee X.K):=by
 intro pins s σ H x v vl vu lo hi sl Q I rx hs pl pu h;obtain⟨a,xs,rfl,hx,q⟩:=h;cases rx;obtain⟨its,r,ht,hz⟩:=I.list hx;have hlen:=r.length;refine⟨"list",_,slot_list_getitem.lookup,ht.isList.typeIs,?_⟩;refine wpAny_getItem_list_slice ht.isList hs pl pu .none (by simp) ?_ (by rw[List.size_toArray]<;>omega);rw[Zw,← hlen];refine⟨.ref s.heap.objs.size,_,I.laid (t':=s.toks) (o:=.lst (qcc xs lo hi)) (fun b ob q=>Heap.get?_push_of_some _ q) (Nat.le_refl _) ?_,rfl,q _ (I.hok.fresh (Nat.le_refl _))⟩;exact⟨Nat.le_trans (jS xs lo hi) hz,_,0,(r.drop (HT.sIx xs.length 0 lo)).take (HT.sIx xs.length xs.length hi - HT.sIx xs.length 0 lo),Heap.get?_push_size _ rfl⟩
theorem CallR.or {f:Value}{r r':List V->Hp->VK->Prop} (h:CallR X f r) (h':CallR X f r'):CallR X f (fun xs H Q=>r xs H Q∨r' xs H Q):=by
 intro pins s σ H xs us Q I rs q;rcases q with q|q
 · exact h pins s σ H xs us Q I rs q
 · exact h' pins s σ H xs us Q I rs q
theorem zc:CallR X (.type "list") (fun xs H Q=>∃ p ys,xs=[.ref p]∧(SqL X.K H p ys∨SqT X.K H p ys)∧∀ l,H l=none->Q (.ref l) (upd H l (.lst ys))):=by
 intro pins s σ H xs us Q I r h;obtain⟨p,ys,rfl,hq,q⟩:=h;obtain⟨u,rfl,rx⟩:=JD r;cases rx;have fin:∀ (its:List Value),Vals ys its->ys.length≤sizeLine->∀ (h':Heap) (c':Nat),(∀ b o',s.heap.get? b=some o'->h'.get? b=some o') ->
     h'.get? s.heap.objs.size=some { cls:=.type "list",dict:=none,data:=.seq its.toArray c',slots:=#[] }->EP X pins σ Q (.ref s.heap.objs.size) { s with heap:=h' }:=fun its r' hz h' c' kp e =>
   ⟨.ref s.heap.objs.size,_,I.laid (t':=s.toks) kp (Nat.le_refl _) (show ObjOk X.prog X.w _ h' _ (.lst ys) from ⟨hz,its,c',r',e⟩),rfl,q _ (I.hok.fresh (Nat.le_refl _))⟩
 rcases hq with hq|hq
 · obtain⟨its,r',pl,hz⟩:=I.list hq;have hlen:=r'.length;obtain⟨o,ho,hc,n,hd⟩:=pl.isList;exact call_list_seq p (.inl rfl) ho hc hd (fun h' c' kp e=>fin its r' hz h' c' kp e) (by simp only[List.size_toArray]<;>omega)
 · obtain⟨its,r',pl,hz⟩:=I.tuple hq;have hlen:=r'.length;obtain⟨o,ho,hc,n,hd⟩:=pl;exact call_list_seq p (.inr rfl) ho hc hd (fun h' c' kp e=>fin its r' hz h' c' kp e) (by simp only[List.size_toArray]<;>omega)
def tyV (K:Frag) (T:String) (x:V) (H:Hp):Prop:=match x with
 | .str _=>T="str"
 | .int _=>T="int"
 | .ref p=>(T="list"∧∃ xs,SqL K H p xs)∨(T="tuple"∧∃ o,K.lookup p=some o∧o.cls=.type "tuple"∧o.dict=none) ∨
     (T="dict"∧((∃ kvs,H p=some (.dK kvs))∨∃ kvs,H p=some (.dT kvs)))∨(T="set"∧∃ S n,H p=some (.set S n))
 | _=>False
theorem qbI {pins:List (Addr×Obj)}{σ:St}{H:Hp}{s:Shared}{T:String}{x:V}{v:Value} (I:Inv X pins σ H s) (r:RelV x v) (ty:tyV X.K T x H) :
   s.TypeIs v T∧∀ a,v=.ref a->∃ ob,s.heap.get? a=some ob∧ob.dict=none:=by
 cases x with
 | str z =>
   obtain⟨t,rfl⟩:=r;cases (show T="str" from ty);exact⟨typeIs_str s z t,fun _ e=>nomatch e⟩
 | int i =>
   obtain⟨t,rfl⟩:=r;cases (show T="int" from ty);exact⟨typeIs_int s i t,fun _ e=>nomatch e⟩
 | ref p =>
   cases r;rcases ty with ⟨rfl,xs,hq⟩|⟨rfl,o,hk,hc,hd⟩|⟨rfl,hk⟩|⟨rfl,S,n,hk⟩
   · obtain⟨its,_,pl,_⟩:=I.list hq;refine⟨pl.isList.typeIs,fun a e=>?_⟩;cases e;obtain⟨o,n,e,c,hd,_⟩:=pl;exact⟨o,e,hd⟩
   · refine⟨⟨o,I.kIn p o hk,hc⟩,fun a e=>?_⟩;cases e;exact⟨o,I.kIn _ o hk,hd⟩
   · have z:∃ o,s.heap.get? p=some o∧o.ExactDict:=by
       rcases hk with ⟨kvs,hk⟩|⟨kvs,hk⟩
       · obtain⟨_,_,_,_,o,_,_,e,ex,_⟩:=I.hok p _ hk;exact⟨o,e,ex⟩
       · obtain⟨_,_,_,_,o,_,_,e,ex,_⟩:=I.hok p _ hk;exact⟨o,e,ex⟩
     obtain⟨o,e,ex⟩:=z;refine⟨⟨o,e,ex.1⟩,fun a e2=>?_⟩;cases e2;exact⟨o,e,ex.2.1⟩
   · obtain⟨o,_,_,_,e,ex,_⟩:=I.hok p _ hk;refine⟨⟨o,e,ex.1⟩,fun a e2=>?_⟩;cases e2;exact⟨o,e,ex.2.1⟩
 | _=>exact False.elim ty
def qeB (K:Frag) (T:String) (r:V->List V->Hp->VK->Prop) (to:TE):TE:=fun σ H Q=>to σ H fun x H1=>tyV K T x H1∧r x [] H1 Q
def tBM (K:Frag) (T:String) (r:V->List V->Hp->VK->Prop) (to:TE) (t:TA):TE:=fun σ H Q=>to σ H fun x H1=>tyV K T x H1∧t σ H1 fun xs H2=>r x xs H2 Q
variable {o e:Expr}{es:List Expr}{to:TE}{t:TA}{name:Str}{apos cpos:Pos}{T id:String}{r:V->List V->Hp->VK->Prop}
theorem qdf (pa:PlainAttrs T) (slot:Slot T name id) (hty:typeOf (.builtin id)=pure (.type "method_descriptor")) (hm:MtR X id r) (ho:PE X o to)
   (hbase:attributeBase o name X.env (eval o X.env)=eval o X.env:=by rfl) (hline:(apos.endLine == cpos.line)=true:=by rfl):PE X (.Call (.Attribute o name apos) [] [] cpos) (qeB X.K T r to):=by
 intro pins s σ H Q I h;refine wpAny_Call_method0_late hbase hline (thn (ho pins s σ H _ I h) fun v s1 zz_=>?_);obtain⟨x,H1,I1,r1,ty,q1⟩:=zz_;obtain⟨h1,h2⟩:=qbI I1 r1 ty;exact⟨T,id,pa,slot,hty,h1,h2,Calls.callWith_builtin rfl (PySem.evalArgs_none (hm pins s1 σ H1 x [] v [] Q I1 r1 .nil q1))⟩
theorem qao (pa:PlainAttrs T) (slot:Slot T name id) (hty:typeOf (.builtin id)=pure (.type "method_descriptor")) (hm:MtR X id r) (ho:PE X o to) (ha:PA X (e::es) t)
   (hbase:attributeBase o name X.env (eval o X.env)=eval o X.env:=by rfl)
   (hfew:((backTo cpos (starEach (e::es) X.env)).all (fun x=>!x.1) && (backToKw cpos (keywordEach [] X.env)).all (fun x=>x.1.isSome)
     && decide ((e::es).length+([]:List Keyword).length+(if ([]:List Keyword).isEmpty then 0 else 1) < 30))=true:=by rfl)
   (hline:(apos.endLine == cpos.line)=true:=by rfl) (hs:starEach (e::es) X.env=(false,eval e X.env)::starEach es X.env:=by rfl) (hplain:(backTo cpos (starEach es X.env)).any (·.1)=false:=by rfl) :
   PE X (.Call (.Attribute o name apos) (e::es) [] cpos) (tBM X.K T r to t):=by
 intro pins s σ H Q I h;refine wpAny_Call_method_late hbase hfew hline rfl (thn (ho pins s σ H _ I h) fun v s1 zz_=>?_);obtain⟨x,H1,I1,r1,ty,q1⟩:=zz_;obtain⟨h1,h2⟩:=qbI I1 r1 ty;refine⟨T,id,pa,slot,hty,h1,h2,?_⟩;have hA:=ha cpos pins s1 σ H1 _ I1 q1;rw[hs]at hA ⊢;refine Calls.callWith_builtin (by show (false || (backTo cpos (starEach es X.env)).any (·.1))=false;rw[hplain]<;>rfl) (Calls.evalArgs_plain ?_);exact thn hA fun us s2 ⟨vs,H2,I2,r2,q2⟩=>hm pins s2 σ H2 x vs v us Q I2 r1 r2 q2
end
def MtM (X:Cx) (id:String) (r:V->List V->Hp->VK->Prop):Prop :=
 ∀ (pins:List (Addr×Obj)) (s:Shared) (σ:St) (H:Hp) (x:V) (xs:List V) (v:Value) (us:List Value) (Q:VK),Inv X pins σ H s->RelV x v->Vals xs us->r x xs H Q ->
   wpAny (model X.prog X.w) X.A (call (.builtin id) (v::us)) (EP X pins σ Q) X.xe s
theorem Vals.one {x:V}{us:List Value} (h:Vals [x] us):∃ u,us=[u]∧RelV x u:=by
 cases h with
 | cons r t=>cases t;exact⟨_,rfl,r⟩
theorem Vals.zero:∀ {us:List Value},Vals [] us->us=[]
 | _,.nil=>rfl
theorem Vals.dropLast {xs:List V}{us:List Value} (h:Vals xs us):Vals xs.dropLast us.dropLast:=by
 induction h with
 | nil=>exact .nil
 | cons r t ih =>
   cases t with
   | nil=>exact .nil
   | cons q t'=>exact .cons r ih
theorem JR {α:Type} (l:List α):l.eraseIdx (l.length - 1)=l.dropLast:=by
 induction l with
 | nil=>rfl
 | cons a r ih =>
   cases r with
   | nil=>rfl
   | cons b r =>
     have e:(a::b::r).length - 1=((b::r).length - 1)+1:=by
       have h1:(a::b::r).length=r.length+2:=rfl;have h2:(b::r).length=r.length+1:=rfl;omega
     rw[e,List.eraseIdx_cons_succ,ih]
     all_goals rfl
section
variable {X:Cx}{pins:List (Addr×Obj)}{σ:St}{H:Hp}{s:Shared}{l b:Addr}{xs ys zs:List V}
theorem Inv.lset {its its':List Value}{n:Nat}{f:Array Value->Array Value}{t':Nat} (I:Inv X pins σ H s) (hH:H l=some (.lst xs))
   (e:s.heap.get? l=some { cls:=.type "list",data:=.seq its.toArray n }) (hf:f its.toArray=its'.toArray) (hv:Vals ys its') (hz:ys.length≤sizeLine) :
   Inv X pins σ (upd H l (.lst ys)) { s with heap:=s.heap.update l (Obj.mapSeq f),toks:=t' }:=by
 have q:=PySem.IsL.update e f;rw[hf]at q;refine I.write (x:=l) (e:=l) (by rw[hH];exact trivial) (.inl rfl) (fun b' u hb hu=>(Heap.get?_update_other s.heap (Obj.mapSeq f) (Ne.symm hb)).trans hu) ⟨_,q⟩ ?_;exact⟨hz,its',_,hv,q⟩
theorem Inv.lnew {its:List Value}{t':Nat} (I:Inv X pins σ H s) (hv:Vals ys its) (hz:ys.length≤sizeLine) :
   Inv X pins σ (upd H s.heap.objs.size (.lst ys)) { s with heap:=s.heap.push { cls:=.type "list",data:=.seq its.toArray },toks:=t' } :=
 I.laid (fun _ _ q=>Heap.get?_push_of_some _ q) (Nat.le_refl _) ⟨hz,its,0,hv,Heap.get?_push_size _ rfl⟩
theorem Inv.fresh (I:Inv X pins σ H s):H s.heap.objs.size=none:=I.hok.fresh (Nat.le_refl _)
theorem Inv.lstM (I:Inv X pins σ H s) (hH:H l=some (.lst xs)):xs.length≤sizeLine∧∃ (its:List Value) (n:Nat),Vals xs its∧xs.length=its.length∧s.heap.get? l=some { cls:=.type "list",data:=.seq its.toArray n }:=by
 obtain⟨z,its,n,r,e⟩:=I.hok l _ hH;exact⟨z,its,n,r,r.length,e⟩
end
section
variable {X:Cx}
inductive Z6 (x:V) (vs:List V) (H:Hp) (Q:VK):Prop
 | mk (l xs y:_) (h1:x=.ref l) (h2:vs=[y]) (h3:H l=some (.lst xs)) (h4:xs.length < sizeLine) (h5:Q .non (upd H l (.lst (xs++[y])))):Z6 x vs H Q
def qcv:V->List V->Hp->VK->Prop:=fun x vs H Q=>Z6 x vs H Q
theorem qX:MtM X "list.append" qcv:=by
 intro pins s σ H x vs v us Q I rx rv h;obtain⟨l,xs,y,rfl,rfl,hH,hz,q⟩:=h;cases rx;obtain⟨u,rfl,ru⟩:=rv.one;obtain⟨z,its,n,r,hl,e⟩:=I.lstM hH;refine call_meets F.slot_list_append ⟨_,e,rfl⟩ F.entry_list_append (F.args_list_append_2 _ _) (PySem.list_append l its.toArray n u (by rw[List.size_toArray];omega)) ⟨e,?_⟩;refine⟨.non,_,I.lset (its':=its++[u]) hH e (by simp) (r.append (.cons ru .nil)) ?_,rfl,q⟩;rw[List.length_append,List.length_singleton];omega
def qeE:V->List V->Hp->VK->Prop:=fun x vs H Q=>∃ l xs y,x=.ref l∧vs=[]∧H l=some (.lst xs)∧xs[xs.length - 1]?=some y∧Q y (upd H l (.lst xs.dropLast))
theorem qdm:MtM X "list.pop" qeE:=by
 intro pins s σ H x vs v us Q I rx rv h;obtain⟨l,xs,y,rfl,rfl,hH,hy,q⟩:=h;cases rx;have hus:=rv.zero;subst hus;obtain⟨z,its,n,r,hl,e⟩:=I.lstM hH;obtain⟨u,hu,ru⟩:=r.get hy
 have hy':its.toArray[its.toArray.size - 1]?=some u:=by
   show its.toArray[its.length - 1]?=some u;rw[← Array.getElem?_toList,← hl];exact hu
 refine call_meets F.slot_list_pop ⟨_,e,rfl⟩ F.entry_list_pop (F.args_list_pop_1 _) (MeetsSeq.list_pop_last l its.toArray n u hy' (by rw[List.size_toArray];omega)) ⟨e,?_⟩;refine⟨y,_,I.lset (its':=its.dropLast) hH e ?_ r.dropLast ?_,ru,q⟩
 · show its.toArray.eraseIdxIfInBounds (its.toArray.size - 1)=its.dropLast.toArray;rw[List.size_toArray,List.eraseIdxIfInBounds_toArray,JR]
 · rw[List.length_dropLast];omega
inductive qbZ (x:V) (y:V) (H:Hp) (Q:VK):Prop
 | mk (l b xs zs:_) (h1:x=.ref l) (h2:y=.ref b) (h3:H l=some (.lst xs)) (h4:H b=some (.lst zs)) (h5:xs.length+zs.length≤sizeLine) (h6:∀ p,H p=none->Q (.ref p) (upd H p (.lst (xs++zs)))):qbZ x y H Q
def qem:R2:=fun x y H Q=>qbZ x y H Q
theorem op_cat:OpR X (binaryOp .Add) qem:=by
 intro pins s σ H x y v u Q I rx ry h;obtain⟨l,b,xs,zs,rfl,rfl,hH,hB,hz,q⟩:=h;cases rx;cases ry;obtain⟨z,its,n,r,hl,e⟩:=I.lstM hH;obtain⟨z2,its2,n2,r2,hl2,e2⟩:=I.lstM hB;refine PySem.P.add_list e e2 ?_ (by rw[List.size_toArray,List.size_toArray];omega);have ea:its.toArray++its2.toArray=(its++its2).toArray:=by simp
 rw[ea];exact⟨.ref _,_,I.lnew (t':=s.toks) (r.append r2) (by rw[List.length_append];omega),rfl,q _ I.fresh⟩
end
section
variable {κ:Type} [DecidableEq κ]
def jX (kvs:List (κ×V)) (k:κ):Option V:=(kvs.find? fun kv=>decide (kv.1=k)).map (·.2)
def Z8 (kvs:List (κ×V)) (k:κ) (v:V):List (κ×V) :=
 if (kvs.any fun kv=>decide (kv.1=k))=true then kvs.map (fun kv=>if kv.1=k then (kv.1,v) else kv) else kvs++[(k,v)]
theorem Zp {p:κ×V}{r:List (κ×V)}{k:κ} (e:p.1=k):jX (p::r) k=some p.2:=by simp[jX,List.find?_cons,e]
theorem Zq {p:κ×V}{r:List (κ×V)}{k:κ} (e:¬ p.1=k):jX (p::r) k=jX r k:=by simp[jX,List.find?_cons,e]
theorem jW (k:κ):∀ kvs:List (κ×V),(kvs.any fun kv=>decide (kv.1=k))=(jX kvs k).isSome
 | []=>rfl
 | p::r=>by
   rw[List.any_cons];by_cases e:p.1=k
   · simp only[Zp e,decide_eq_true e,Bool.true_or,Option.isSome_some]
   · rw[Zq e,decide_eq_false e,Bool.false_or];exact jW k r
theorem zW (kvs:List (κ×V)) (k:κ) (v:V):(Z8 kvs k v).length≤kvs.length+1:=by
 unfold Z8;split
 · rw[List.length_map];omega
 · rw[List.length_append,List.length_cons,List.length_nil];omega
theorem RelO.isSome_eq {o:Option V}{u:Option Value} (r:RelO o u):o.isSome=u.isSome:=by
 cases o with
 | none=>cases u with
   | none=>rfl
   | some _=>exact(show False from r).elim
 | some _=>cases u with
   | none=>exact(show False from r).elim
   | some _=>rfl
theorem KV.val {kvs:List (κ×V)}{vs:List (κ×Value)} (r:KV kvs vs) (k:κ):RelO (jX kvs k) (valueAt vs k):=by
 unfold KV at r
 induction r with
 | nil=>exact True.intro
 | @cons p q ps qs h t ih =>
   obtain⟨h1,h2⟩:=h;by_cases e:p.1=k
   · have e':q.1=k:=h1.symm.trans e;have b:valueAt (q::qs) k=some q.2:=by simp[valueAt,List.find?_cons,e']
     rw[Zp e,b];exact h2
   · have e':¬ q.1=k:=fun z=>e (h1.trans z);have b:valueAt (q::qs) k=valueAt qs k:=by simp[valueAt,List.find?_cons,e']
     rw[Zq e,b];exact ih
theorem KV.any {kvs:List (κ×V)}{vs:List (κ×Value)} (r:KV kvs vs) (k:κ):(kvs.any fun kv=>decide (kv.1=k))=vs.any fun kv=>decide (kv.1=k):=by
 unfold KV at r
 induction r with
 | nil=>rfl
 | cons h t ih=>rw[List.any_cons,List.any_cons,ih,h.1]
theorem KV.repl {kvs:List (κ×V)}{vs:List (κ×Value)} (r:KV kvs vs) (k:κ) {y:V}{u:Value} (ry:RelV y u) :
   KV (kvs.map fun kv=>if kv.1=k then (kv.1,y) else kv) (vs.map fun kv=>if kv.1=k then (kv.1,u) else kv):=by
 unfold KV at r ⊢
 induction r with
 | nil=>exact .nil
 | @cons p q ps qs h t ih =>
   rw[List.map_cons,List.map_cons];refine .cons ?_ ih;obtain⟨h1,h2⟩:=h;by_cases e:p.1=k
   · rw[if_pos e,if_pos (h1.symm.trans e)];exact⟨h1,ry⟩
   · rw[if_neg e,if_neg (fun z=>e (h1.trans z))];exact⟨h1,h2⟩
theorem KV.put {kvs:List (κ×V)}{vs:List (κ×Value)} (r:KV kvs vs) (k:κ) {y:V}{u:Value} (ry:RelV y u):KV (Z8 kvs k y) (stored vs k u):=by
 unfold Z8 stored;rw[r.any k];by_cases e:(vs.any fun kv=>decide (kv.1=k))=true
 · rw[if_pos e,if_pos e];exact r.repl k ry
 · rw[if_neg e,if_neg e];exact Paired.snoc r ⟨rfl,ry⟩
theorem KV.length {kvs:List (κ×V)}{vs:List (κ×Value)} (r:KV kvs vs):kvs.length=vs.length:=Paired.length r
end
theorem qbs {P:Program}{w:World}{k:Key}{u:Value} (r:RelV (kV k) u):(qL P w).is k u=true:=by
 cases k with
 | inl i=>obtain⟨t,e⟩:=(show ∃ t,u=Value.int i t from r);subst e;exact jK P w i t
 | inr x=>obtain⟨t,e⟩:=(show ∃ t,u=Value.str x t from r);subst e;exact jJ P w x t
theorem ji {P:Program}{w:World}:∀ {ks:List Key}{us:List Value},Vals (ks.map kV) us->ItemsAre (qL P w) ks us
 | [],_,r=>by rw[List.map_nil]at r;cases r;exact .nil
 | k::ks,_,r=>by
   rw[List.map_cons]at r
   cases r with
   | cons h t=>exact .cons (qbs h) (ji t)
abbrev KT (H:Hp):List (List Key×V)->List (List Key×Addr×Value)->Prop:=Paired fun p q=>p.1=q.1∧H q.2.1=some (.tup (p.1.map kV))∧RelV p.2 q.2.2
theorem KT.val {H:Hp}{kvs:List (List Key×V)}{xs:List (List Key×Addr×Value)} (r:KT H kvs xs) (k:List Key):RelO (jX kvs k) ((atKey xs k).map (·.2)):=by
 induction r with
 | nil=>exact True.intro
 | @cons p q ps qs h t ih =>
   obtain⟨h1,_,h2⟩:=h;by_cases e:p.1=k
   · have e':q.1=k:=h1.symm.trans e;have b:atKey (q::qs) k=some q.2:=by simp[atKey,List.find?_cons,e']
     rw[Zp e,b];exact h2
   · have e':¬ q.1=k:=fun z=>e (h1.trans z);have b:atKey (q::qs) k=atKey qs k:=by simp[atKey,List.find?_cons,e']
     rw[Zq e,b];exact ih
theorem KT.repl {H:Hp}{kvs:List (List Key×V)}{xs:List (List Key×Addr×Value)} (r:KT H kvs xs) (k:List Key) {y:V}{u:Value} (ry:RelV y u) :
   KT H (kvs.map fun kv=>if kv.1=k then (kv.1,y) else kv) (xs.map (putAt k u)):=by
 induction r with
 | nil=>exact .nil
 | @cons p q ps qs h t ih =>
   rw[List.map_cons,List.map_cons];refine .cons ?_ ih;obtain⟨h1,h2,h3⟩:=h;unfold putAt;by_cases e:p.1=k
   · rw[if_pos e,if_pos (h1.symm.trans e)];exact⟨h1,h2,ry⟩
   · rw[if_neg e,if_neg (fun z=>e (h1.trans z))];exact⟨h1,h2,h3⟩
theorem KT.put {H:Hp}{kvs:List (List Key×V)}{xs:List (List Key×Addr×Value)} (r:KT H kvs xs) (k:List Key) {b:Addr}{y:V}{u:Value} (hb:H b=some (.tup (k.map kV))) (ry:RelV y u) :
   KT H (Z8 kvs k y) (storedH xs k b u):=by
 have e:(kvs.any fun kv=>decide (kv.1=k))=(atKey xs k).isSome:=by
   rw[jW,(r.val k).isSome_eq,Option.isSome_map]
 unfold Z8 storedH;rw[e];by_cases q:(atKey xs k).isSome=true
 · rw[if_pos q,if_pos q];exact r.repl k ry
 · rw[if_neg q,if_neg q];exact Paired.snoc r ⟨rfl,hb,ry⟩
theorem KT.keeps {H H':Hp}{kvs:List (List Key×V)}{xs:List (List Key×Addr×Value)} (r:KT H kvs xs) (ht:∀ b ys,H b=some (.tup ys)->H' b=some (.tup ys)):KT H' kvs xs :=
 Paired.mapP r fun _ _ z=>⟨z.1,ht _ _ z.2.1,z.2.2⟩
section
variable {P:Program}{w:World}{H:Hp}{h:Heap}{a:Addr}
theorem qc6 {u:HO} (ok:HOk P w H h) (e:Rd H a u):ObjOk P w H h a u:=e.ok ok
theorem qcN {kvs:List (Key×V)} (ok:HOk P w H h) (e:Rd H a (.dK kvs)):kvs.length≤sizeLine∧(a == sysModules)=false∧∃ vs,KV kvs vs∧h.DictOf (qL P w) a vs :=
 show ObjOk P w H h a (.dK kvs) from qc6 ok e
theorem qdw {kvs:List (Key×V)} (ok:HOk P w H h) (e:H a=some (.dK kvs)):kvs.length≤sizeLine∧(a == sysModules)=false∧∃ vs,KV kvs vs∧h.DictOf (qL P w) a vs:=qcN ok (.inl e)
theorem qaz {ks:List Key} (ok:HOk P w H h) (e:H a=some (.tup (ks.map kV))):(tupleKind (qL P w)).is h ks a:=by
 obtain⟨_,its,r,o,h1,h2,n,h3⟩:=(show ObjOk P w H h a (.tup (ks.map kV)) from ok a _ e)
 exact⟨o,its.toArray,n,h1,h2,h3,by simpa using ji r⟩
theorem qcL {kvs:List (List Key×V)} (ok:HOk P w H h) (e:Rd H a (.dT kvs)):kvs.length≤sizeLine∧(a == sysModules)=false ∧
   ∃ xs,KT H kvs xs∧h.DictOfH (tupleKind (qL P w)) a xs:=by
 obtain⟨z,y,xs,r,o,es,ep,h1,h2,h3,h4,h5⟩:=(show ObjOk P w H h a (.dT kvs) from qc6 ok e)
 refine⟨z,y,xs,r,o,es,ep,h1,h2,h3,h4,fun x hx=>?_,h5⟩
 have all:∀ {l:List (List Key×V)}{m:List (List Key×Addr×Value)},KT H l m->∀ x∈m,(tupleKind (qL P w)).is h x.1 x.2.1:=by
   intro l m q
   induction q with
   | nil=>intro x hx;exact nomatch hx
   | @cons p q ps qs hq t ih =>
     intro x hx;rcases List.mem_cons.mp hx with e|hx
     · subst e;exact qaz ok (by rw[← hq.1];exact hq.2.1)
     · exact ih x hx
 exact all r x hx
theorem qd4 {kvs:List (List Key×V)} (ok:HOk P w H h) (e:H a=some (.dT kvs)):kvs.length≤sizeLine∧(a == sysModules)=false ∧
   ∃ xs,KT H kvs xs∧h.DictOfH (tupleKind (qL P w)) a xs:=qcL ok (.inl e)
end
def DGet (H:Hp) (a:Addr) (y:V) (r:Option V):Prop :=
 (∃ kvs k,Rd H a (.dK kvs)∧y=kV k∧r=jX kvs k)∨∃ kvs k b,Rd H a (.dT kvs)∧y=.ref b∧H b=some (.tup (k.map kV))∧r=jX kvs k
def DPut (H:Hp) (a:Addr) (y v:V) (H':Hp):Prop :=
 (∃ kvs k,H a=some (.dK kvs)∧y=kV k∧kvs.length < sizeLine∧H'=upd H a (.dK (Z8 kvs k v))) ∨
 ∃ kvs k b,H a=some (.dT kvs)∧y=.ref b∧H b=some (.tup (k.map kV))∧kvs.length < sizeLine∧H'=upd H a (.dT (Z8 kvs k v))
theorem DGet.k {H:Hp}{a:Addr}{kvs:List (Key×V)}{k:Key} (e:H a=some (.dK kvs)):DGet H a (kV k) (jX kvs k):=.inl ⟨kvs,k,.inl e,rfl,rfl⟩
theorem DPut.k {H:Hp}{a:Addr}{kvs:List (Key×V)}{k:Key}{v:V} (e:H a=some (.dK kvs)) (hl:kvs.length < sizeLine):DPut H a (kV k) v (upd H a (.dK (Z8 kvs k v))):=.inl ⟨kvs,k,e,rfl,hl,rfl⟩
section
variable {X:Cx}{pins:List (Addr×Obj)}{σ:St}{H:Hp}{s:Shared}{a:Addr}{y v:V}{u r:Value}{o:Option V}{A:Around}{E:Value->Shared->Prop}
theorem Inv.big (I:Inv X pins σ H s):sysModules < s.heap.objs.size:=by
 have h:mainGlobals < s.heap.objs.size:=(I.mod.glob.keeps I.bk).lt;exact Nat.lt_trans (by decide) h
theorem qaS {Q:Value->Shared->Prop} (hu:A.units+1 < cLine) (I:Inv X pins σ H s) (g:DGet H a y (some v)) (ry:RelV y u) (h:∀ w' s',Inv X pins σ H s'->RelV v w'->Q w' s') :
   wpAny (model X.prog X.w) A (getItem (.ref a) u) Q E s:=by
 rcases g with ⟨kvs,k,e,ey,l⟩|⟨kvs,k,b,e,ey,eb,l⟩
 · subst ey;obtain⟨z,hd,vs,rel,dd⟩:=qcN I.hok e;obtain⟨w',hw,rw'⟩:=RelO.some_of (v:=v) (o:=valueAt vs k) (by rw[l];exact rel.val k);exact wpAny_getItem_of (qbs ry) dd.mapOf hw (h w' _ (I.tok _) rw')
 · subst ey;cases (show u=Value.ref b from ry);obtain⟨z,hd,xs,rel,dd⟩:=qcL I.hok e;obtain⟨w',hw,rw'⟩:=RelO.some_of (v:=v) (o:=(atKey xs k).map (·.2)) (by rw[l];exact rel.val k);obtain⟨p,hp,hp2⟩:=Option.map_eq_some_iff.mp hw;refine wpAny_getItem_heap (tupleKind_room_in1 hu) (qaz I.hok eb) dd hp ?_;rw[hp2];exact h w' _ (I.tok _) rw'
theorem jR {h':Heap}{t':Nat}{ob:HO} (I:Inv X pins σ H s) (mu:Mut (H a)) (hs:Heap.SameBut a s.heap h') (he:∃ q,h'.get? a=some q) (new:ObjOk X.prog X.w (upd H a ob) h' a ob) :
   Inv X pins σ (upd H a ob) { s with heap:=h',toks:=t' } :=
 I.write (x:=a) (e:=a) mu (.inl rfl) (fun b q hb z=>(hs.2 b hb).trans z) he new
theorem qca {P:Program}{w:World}{H':Hp}{h':Heap}{kvs:List (Key×V)}{vs:List (Key×Value)} (z:kvs.length≤sizeLine) (hd:(a == sysModules)=false) (rel:KV kvs vs) (dd:h'.DictOf (qL P w) a vs) :
   ObjOk P w H' h' a (.dK kvs):=⟨z,hd,vs,rel,dd⟩
theorem qaR {H':Hp}{Q:Unit->Shared->Prop} (hu:A.units+1 < cLine) (I:Inv X pins σ H s) (g:DPut H a y v H') (ry:RelV y u) (rv:RelV v r) (h:∀ s',Inv X pins σ H' s'->Q () s') :
   wpAny (model X.prog X.w) A (setItem (.ref a) u r) Q E s:=by
 rcases g with ⟨kvs,k,e,ey,l,eH⟩|⟨kvs,k,b,e,ey,eb,l,eH⟩
 · subst ey eH;obtain⟨z,hd,vs,rel,dd⟩:=qdw I.hok e;have hz:vs.length≤sizeLine:=by rw[← rel.length];exact z
   have hl:(Z8 kvs k v).length≤sizeLine:=by have:=zW kvs k v;omega
   refine wpAny_setItem_pairs (hsz:=hz) (qbs ry) dd fun h' dd' hs=>h _ ?_;have he:∃ q,h'.get? a=some q:=let ⟨q,_,_,hq,_⟩:=dd';⟨q,hq⟩;exact jR I (by rw[e];exact True.intro) hs he (qca hl hd (rel.put k rv) dd')
 · subst ey eH;cases (show u=Value.ref b from ry);obtain⟨z,hd,xs,rel,dd⟩:=qd4 I.hok e;have hz:xs.length≤sizeLine:=by rw[← Paired.length rel];exact z
   have hl:(Z8 kvs k v).length≤sizeLine:=by have:=zW kvs k v;omega
   refine wpAny_setItem_heap (hsz:=hz) (tupleKind_room_in1 hu) (qaz I.hok eb) dd fun h' dd' hs=>h _ ?_;obtain⟨q,es,ep,hq,h2,h3,h4,_,h5⟩:=dd';refine jR I (by rw[e];exact True.intro) hs ⟨q,hq⟩ ⟨hl,hd,_,(rel.put k eb rv).keeps fun c ys ec=>?_,q,es,ep,hq,h2,h3,h4,h5⟩;rw[qi (je ec e (fun z=>nomatch z))];exact ec
end
def qes (i:Expr):Prop:=∀ ov iv,subscripted i false ov iv=operate [ov,iv] (getItem ov iv)
theorem qco {prog:Program}{w:World}{A:Around}{E:Value->Shared->Prop}{s:Shared}{env:Env}{value slice:Expr}{pos:Pos}{T id:String}{Q:Value->Shared->Prop}
   (hl:typeLookup (.type T) "__getitem__"=pure (some (.builtin id))) (hs:qes slice)
   (h:wpAny (model prog w) A (eval value env) (fun o s₁=>wpAny (model prog w) A (eval slice env) (fun i s₂=>s₂.TypeIs o T∧wpAny (model prog w) A (getItem o i) Q E s₂) E s₁) E s) :
   wpAny (model prog w) A (eval (.Subscript value slice pos) env) Q E s:=by
 refine Subscript_ (wpAny_mono h (fun o s₁ h₁=>wpAny_mono h₁ (fun i s₂ h₂=>?_) fun _ _ x=>x) fun _ _ x=>x);obtain⟨hT,h₂⟩:=h₂;unfold subscriptTail;refine wpAny_bind ?_;rw[getitemInPython_of_ne hT.not_modules];refine wpAny_bind (wpAny_specialOf hT hl ?_)
 have fin:wpAny (model prog w) A (subscripted slice false o i) (fun r s₃=>wpAny (model prog w) A (letTemporaryGo value o r >>= fun _=>pure r) Q E s₃) E s₂:=by
   rw[hs o i];exact wpAny_operating (wpAny_mono h₂ (fun r s₃ h₃=>wpAny_bind (wpAny_letTemporaryGo (wpAny_pure h₃))) fun _ _ x=>x)
 first
   | exact wpAny_pure (wpAny_bind fin)
   | exact wpAny_bind (wpAny_pure (wpAny_bind fin))
   | exact wpAny_bind fin
theorem jP {X:Cx}{pins:List (Addr×Obj)}{σ:St}{H:Hp}{s:Shared}{a:Addr}{y:V}{o:Option V} (I:Inv X pins σ H s) (g:DGet H a y o):s.TypeIs (.ref a) "dict":=by
 rcases g with ⟨kvs,k,e,_,_⟩|⟨kvs,k,b,e,_,_,_⟩
 · obtain⟨_,_,vs,_,dd⟩:=qcN I.hok e;exact dd.typeIs
 · obtain⟨_,_,xs,_,dd⟩:=qcL I.hok e;exact dd.typeIs
def qdL (td ty:TE):TE:=fun σ H Q=>td σ H fun x H1=>ty σ H1 fun y H2=>∃ a v,x=.ref a∧DGet H2 a y (some v)∧Q v H2
def qdQ (td ty tv:TE):TS:=fun D σ H=>tv σ H fun v H1=>td σ H1 fun x H2=>ty σ H2 fun y H3=>∃ a H4,x=.ref a∧DPut H3 a y v H4∧D.nx σ H4
section
variable {X:Cx}{o i e value:Expr}{pos pos' tpos:Pos}{td ty tv:TE}
theorem zV (hu:X.A.units+1 < cLine) (ho:PE X o td) (hi:PE X i ty) (hs:qes i):PE X (.Subscript o i pos) (qdL td ty):=by
 intro pins s σ H Q I h;refine qco PySem.F.slot_dict_getitem.lookup hs (thn (ho pins s σ H _ I h) fun u s1 ⟨x,H1,I1,rx,q1⟩=>thn (hi pins s1 σ H1 _ I1 q1) fun iv s2 zz_=>?_);obtain⟨y,H2,I2,ry,a,v,ex,g,q2⟩:=zz_;subst ex;obtain rfl:u=Value.ref a:=rx;exact⟨jP I2 g,qaS hu I2 g ry fun w' s3 I3 rw'=>⟨v,H2,I3,rw',q2⟩⟩
theorem qaj (hu:X.A.units+1 < cLine) (ho:PE X o td) (hi:PE X i ty) (hv:PE X value tv) (hs:swapsWith value (some (.Subscript o i pos')) pos.line X.env=pure false) :
   PS X (.Assign [.Subscript o i pos'] value pos) (qdQ td ty tv):=by
 intro pins s σ H D I h;refine wpAny_Assign_Subscript (thn (hv pins s σ H _ I h) fun r s1 ⟨v,H1,I1,rv,q1⟩=>thn (ho pins s1 σ H1 _ I1 q1) fun u s2 ⟨x,H2,I2,rx,q2⟩=>thn (hi pins s2 σ H2 _ I2 q2) fun iv s3 zz_=>?_) hs;obtain⟨y,H3,I3,ry,a,H4,ex,g,q3⟩:=zz_;subst ex;obtain rfl:u=Value.ref a:=rx;exact qaR hu I3 g ry rv fun s4 I4=>⟨σ,H4,I4,q3⟩
end
theorem qbC {P:Program}{w:World}{H:Hp} (h:Heap) (hb:sysModules < h.objs.size):ObjOk P w H (h.push { cls:=.type "dict",data:=.dict #[] }) h.objs.size (.dK []) :=
 ⟨Nat.zero_le _,beq_eq_false_iff_ne.mpr (Ne.symm (Nat.ne_of_lt hb)),[],.nil,Heap.DictOf.new h⟩
def J3:List (TE×TE)->St->Hp->(List (V×V)->Hp->Prop)->Prop
 | [],_,H,Q=>Q [] H
 | (tk,tv)::r,σ,H,Q=>tk σ H fun x H1=>tv σ H1 fun y H2=>J3 r σ H2 fun ps H3=>Q ((x,y)::ps) H3
abbrev VV:List (V×V)->List (Value×Value)->Prop:=Paired fun p q=>RelV p.1 q.1∧RelV p.2 q.2
def PPs (X:Cx) (pos:Pos) (keys:List (Option Expr)) (values:List Expr) (trs:List (TE×TE)):Prop :=
 ∀ (pins:List (Addr×Obj)) (s:Shared) (σ:St) (H:Hp) (Q:List (V×V)->Hp->Prop),Inv X pins σ H s->J3 trs σ H Q ->
   wpAny (model X.prog X.w) X.A (evalPairs (pairTrees keys values X.env pos)) (fun vs s'=>∃ ps H',Inv X pins σ H' s'∧VV ps vs∧Q ps H') X.xe s
theorem qcx {X:Cx}{pos:Pos}:PPs X pos [] [] []:=fun pins s σ H Q I h=>pairTrees_nil_walk ⟨[],H,I,.nil,h⟩
theorem ZA {X:Cx}{pos:Pos}{k v:Expr}{ks:List (Option Expr)}{vs:List Expr}{tk tv:TE}{trs:List (TE×TE)} (hk:PE X k tk) (hv:PE X v tv) (hr:PPs X pos ks vs trs) :
   PPs X pos (some k::ks) (v::vs) ((tk,tv)::trs):=fun pins s σ H Q I h =>
 pairTrees_cons_walk (thn (hk pins s σ H _ I h) fun u s1 ⟨x,H1,I1,rx,q1⟩=>thn (hv pins s1 σ H1 _ I1 q1) fun w2 s2 ⟨y,H2,I2,ry,q2⟩ =>
   thn (hr pins s2 σ H2 _ I2 q2) fun ws s3 ⟨ps,H3,I3,rel,q3⟩=>⟨(x,y)::ps,H3,I3,.cons ⟨rx,ry⟩ rel,q3⟩)
def jh (kvs more:List (Key×V)):List (Key×V):=more.foldl (fun acc kv=>Z8 acc kv.1 kv.2) kvs
theorem KV.merge:∀ {more:List (Key×V)}{rs:List (Key×Value)}{kvs:List (Key×V)}{vs:List (Key×Value)},KV more rs->KV kvs vs->KV (jh kvs more) (merged vs rs):=by
 intro more rs kvs vs r;unfold KV at r
 induction r generalizing kvs vs with
 | nil=>intro q;exact q
 | @cons p q ps qs h t ih =>
   intro r0
   have e:KV (Z8 kvs p.1 p.2) (stored vs q.1 q.2):=by
     have:=r0.put p.1 h.2
     rw[← h.1];exact this
   exact ih e
theorem Qf:∀ (more kvs:List (Key×V)),(jh kvs more).length≤kvs.length+more.length
 | [],kvs=>by show kvs.length≤kvs.length+0;omega
 | p::r,kvs=>by
   have h1:=Qf r (Z8 kvs p.1 p.2);have h2:=zW kvs p.1 p.2;show (jh (Z8 kvs p.1 p.2) r).length≤_;rw[List.length_cons];omega
theorem Zn {P:Program}{w:World}:∀ {kvs:List (Key×V)}{ws:List (Value×Value)},VV (kvs.map fun kv=>(kV kv.1,kv.2)) ws->∃ rs,Carries (qL P w) ws rs∧KV kvs rs
 | [],_,r=>by rw[List.map_nil]at r;cases r;exact⟨[],True.intro,.nil⟩
 | p::kvs,_,r=>by
   rw[List.map_cons]at r
   cases r with
   | @cons a b as bs h t =>
     obtain⟨rs,c,q⟩:=Zn (P:=P) (w:=w) t;obtain⟨b1,b2⟩:=b;exact⟨(p.1,b2)::rs,⟨qbs h.1,rfl,c⟩,.cons ⟨rfl,h.2⟩ q⟩
def qdK (trs:List (TE×TE)):TE:=fun σ H Q=>∀ p,H p=none->J3 trs σ (upd H p (.dK [])) fun ps H2=>H2 p=some (.dK [])∧∃ kvs:List (Key×V),ps=kvs.map (fun kv=>(kV kv.1,kv.2))∧kvs.length≤15∧Q (.ref p) (upd H2 p (.dK (jh [] kvs)))
theorem qcA {X:Cx}{pos:Pos}{keys:List (Option Expr)}{values:List Expr}{trs:List (TE×TE)} (h:PPs X pos keys values trs) (hall:keys.all (·.isSome)=true) (hl:keys.length=values.length) (h0:keys≠[])
   (h15:keys.length≤15):PE X (.Dict keys values pos) (qdK trs):=by
 intro pins s σ H Q I q;have hn:=I.hok.fresh (Nat.le_refl s.heap.objs.size);have I1:=I.laid (a:=s.heap.objs.size) (o:=.dK []) (h':=s.heap.push { cls:=.type "dict",data:=.dict #[] }) (t':=s.toks) (fun _ _ q=>Heap.get?_push_of_some _ q) (Nat.le_refl _) (qbC s.heap I.big);refine wpAny_Dict_walk (knd:=qL X.prog X.w) hall hl h0 h15 (thn (h pins _ σ _ _ I1 (q _ hn)) fun ws s2 zz_=>?_);obtain⟨ps,H2,I2,rel,e,kvs,ep,lk,q2⟩:=zz_;subst ep;obtain⟨rs,c,rk⟩:=Zn (P:=X.prog) (w:=X.w) rel;obtain⟨z,hd,vs0,r0,dd⟩:=qdw I2.hok e;cases r0;refine⟨rs,c,dd,fun h' dd' hs=>⟨.ref s.heap.objs.size,_,?_,rfl,q2⟩⟩
 have hz:(jh [] kvs).length≤sizeLine:=by
   have h1:=Qf kvs [];rw[List.length_nil]at h1;rw[sizeLine_eq];omega
 have he:∃ q,h'.get? s.heap.objs.size=some q:=let ⟨q,_,_,hq,_⟩:=dd';⟨q,hq⟩;exact jR I2 (by rw[e];exact True.intro) hs he (qca hz hd (rk.merge .nil) dd')
end L2
namespace Att
open PySem PySem.W PySem.Calls PyProof.Rows
theorem QX {P:Params}{h:Heap}:∀ (ns:List Int) (vs:List Value),WellAll P h vs (ns.map WData.int)->IntsAre vs ns:=by
 intro ns
 induction ns with
 | nil =>
   intro vs w;rw[List.map_nil]at w;cases w;exact .nil
 | cons n ns ih =>
   intro vs w;rw[List.map_cons]at w
   cases w with
   | cons a b =>
     cases a;exact .cons _ _ (ih _ b)
theorem qaa {l:OpenLaw}{n:Nat} (hn:l.most=some n) {P:Params}{h:Heap}{args:List WData}{vals:List Value}
   (hpre:l.row.toRowW.claim.pre args=true) (hwl:WellAll P h vals args) :
   ∃ a vs ns,vals=[Value.ref a]∧args=[WData.list (ns.map WData.int)]∧h.get? a=some { cls:=.type "list",data:=.seq vs.toArray }∧IntsAre vs ns∧ns.length≤n:=by
 have hsh:WShape.hasAll [] args [.list .int]=true:=(pre_splitW hpre).1;have hc:l.pre.holds [] { args:=args }=true:=(pre_splitW hpre).2;obtain⟨d,r,rfl,h1,h2⟩:=hasAllW_cons hsh;obtain rfl:=hasAllW_nil h2;obtain⟨xs,rfl,h3⟩:=hasW_list h1;obtain⟨ns,rfl⟩:=items_int h3
 have hlen:ns.length≤n:=by
   unfold OpenLaw.pre at hc
   have h4:(WTm.not (.lt (.lit (.int (n:Int))) (.len (.arg 0)))).holds [] { args:=[.list (ns.map .int)] }=true:=by
     have h4:=(holds_andW hc).1;rw[hn]at h4;exact h4
   have h5:=condW_of h4 (w_not (w_lt w_lit (w_len_list (w_arg rfl))));rw[List.length_map]at h5;refine Nat.le_of_not_lt fun q=>?_;have q':(n:Int) < ((ns.length:Nat):Int):=by omega
   first
     | (rw[decide_eq_true q']at h5;exact absurd h5 (by decide))
     | (simp at h5;omega)
 cases hwl with
 | cons w1 w2 =>
   cases w2
   cases w1 with
   | list ho hall=>exact⟨_,_,ns,rfl,rfl,ho,QX ns _ hall,hlen⟩
theorem qal (l:OpenLaw) (args:List WData):l.row.toRowW.claim.post args (.bool true) args=true :=
 postW_of (r:=l.row.toRowW) (X:=(true == true))
   (show WShape.has [] (.bool true) .bool=true by first|rfl|decide|simp[WShape.has,WShape.arms,WShape.armsAll])
   (show (WTm.eq .res (.lit (.bool true))).value [] { args:=args,res:=some (.bool true),after:=args }=some (.bool (true == true)) from w_eq_bool (w_res rfl) w_lit) rfl
theorem attach_call {l:OpenLaw}{n:Nat}{q:Program}{loose:List Str}{XP:(Str->Option Value)->Heap->Prop}{YP:World->Heap->Prop}{d:DefRec}
   (hn:l.most=some n) (hdf:d.params.defaults=[])
   (call:∀ (w:World) (s₀ s₁:Shared) (mg mb:Str->Option Value) (fa:Addr) (o:Obj) (pm cd doc:Value) (a:Addr) (vs:List Value) (ns:List Int),
     Ground q loose [] XP w s₀ mg mb s₁.heap->YP w s₁.heap ->
     s₁.heap.get? fa=some o->o.data=.func (docDef d.name d.params d.body d.scope pm cd doc)->s₁.heap.CodeRec cd d.name->mg d.name=some (.ref fa) ->
     s₁.heap.get? a=some { cls:=.type "list",data:=.seq vs.toArray }->IntsAre vs ns->ns.length≤n->s₁.gens=#[] ->
     codeAny (model l.prog w) callerA (.call (.ref fa) ⟨[.ref a],[]⟩) (fun r s'=>r=.ok (.ret (.bool true))∧OldK s₁.heap s'.heap∧s'.os=s₁.os∧AllBare s'.gens) s₁) :
   WalkO q loose XP YP l.row.toRowW d [] (fun f vs=>PySem.call f vs):=by
 intro w s₀ s₁ mg mb G Y fa o pm cd doc dV kV ho hd hcd hD hmg hg args vals as hpre hlay hrd hwl hlo;obtain rfl:dV=.none:=Dflts.none hD hdf;obtain rfl:kV=.none:=Dflts.noKw hD;obtain⟨a,vs,ns,rfl,rfl,hobj,hints,hlen⟩:=qaa hn hpre hwl;refine enter_call (codeAny_mono (call w s₀ s₁ mg mb fa o pm cd doc a vs ns G Y ho (fd_plain hd) hcd hmg hobj hints hlen hg) fun r s' hq=>?_);obtain⟨rfl,h2,h3,h4⟩:=hq;exact⟨.inl ⟨.bool true,.bool true,[],rfl,fun _=>rfl,.bool true,qal l _,fun _=>⟨List.Pairwise.nil,fun _ hm=>(nomatch hm)⟩⟩,h2,h3,h4⟩
end Att
namespace L2
open PySem PySem.Spec PyProof.Rows
open PySem.W (Frag kitOne keepIn fnOf codeIn)
theorem ZN:∀ {vs:List Value}{ns:List Int},IntsAre vs ns->Vals (ns.map V.int) vs
 | _,_,.nil=>.nil
 | _,_,.cons n t h=>.cons ⟨t,rfl⟩ (ZN h)
def qd8 (H:Hp):Prop:=∀ b,H b=none∨∃ o xs,H b=some (.frz o (.lst xs))
theorem law_call {P:Program}{w:World}{K:Frag}{mg mb:Str->Option Value}{CX:CXT}{k:Nat}{fa a:Addr}{fd:FuncData}{x:Str}{sp:Sp}{s₁:Shared}{vs:List Value}{ns:List Int}
   (KX:K.In s₁.heap) (hns:s₁.heap.Ns mainGlobals mg) (hb:s₁.heap.Ns builtinsNs mb) (hbb:∀ x:Str,x≠"__name__"->mb x=bootBuiltins x) (hlim:s₁.heap.NoLimit) (hg:s₁.gens=#[])
   (ha:s₁.heap.get? a=some { cls:=.type "list",data:=.seq vs.toArray }) (hi:IntsAre vs ns) (hl:ns.length≤sizeLine) (hr:Room k callerA)
   (F:∀ base:Heap,K.In base->base.Ns mainGlobals mg->qV P w K mg base CX k fa fd [x] sp) (hbind:∀ (s:Shared) (u:Value),BindsTo s fd ⟨[u],[]⟩ [(x,u)])
   (hsp:∀ H:Hp,qd8 H->SqL K H a (ns.map V.int)->sp [.ref a] H (fun v _=>v=.bl true) fun _ _ _=>False)
   (hCX:∀ H e s',CX [] H s₁ (fun _ _ _=>False) e s'->False) :
   codeAny (model P w) callerA (.call (.ref fa) ⟨[.ref a],[]⟩) (fun r s'=>r=.ok (.ret (.bool true))∧OldK s₁.heap s'.heap∧s'.os=s₁.os∧AllBare s'.gens) s₁:=by
 have rv:=ZN hi;have lenV:=hi.length
 -- from an abstract heap in which nothing but the script may be tracked
 have core:∀ H:Hp,qd8 H->SqL K H a (ns.map V.int)->HOk P w H s₁.heap->(∀ b,H b≠none->b=a)->(H a≠none->K.lookup a=none) ->
     codeAny (model P w) callerA (.call (.ref fa) ⟨[.ref a],[]⟩) (fun r s'=>r=.ok (.ret (.bool true))∧OldK s₁.heap s'.heap∧s'.os=s₁.os∧AllBare s'.gens) s₁:=by
   intro H hO hS hok hA hK;have base_of:∀ {b:Addr}{o:Obj},s₁.heap.get? b=some o->H b=none->(qbx s₁.heap H).get? b=some o:=fun e n=>qbw e n
   have noA:∀ {b:Addr}{o:Obj}{es:Array DictEntry}{ep:Nat},s₁.heap.get? b=some o->o.data=.dict es ep->H b=none:=fun {b o es ep} e d=>by
     cases q:H b with
     | none=>rfl
     | some u =>
       have e':b=a:=hA b (by rw[q];simp);subst e';rw[ha]at e;cases e;have d':Data.seq vs.toArray _=Data.dict es ep:=d;cases d'
   have nsK:∀ {b:Addr}{m:Str->Option Value},s₁.heap.Ns b m->(qbx s₁.heap H).Ns b m:=fun {b m} ⟨o,es,ep,e,d,r⟩=>⟨o,es,ep,base_of e (noA e d),d,r⟩
   have hKb:K.In (qbx s₁.heap H):=fun b o e=>base_of (KX b o e) (by
     cases q:H b with
     | none=>rfl
     | some u =>
       have e':b=a:=hA b (by rw[q];simp);subst e'
       rw[hK (by rw[q];simp)]at e;cases e)
   have hM:Mod K mg (qbx s₁.heap H):=⟨hKb,nsK hns,⟨mb,nsK hb,hbb⟩,let ⟨mc,h1,h2⟩:=hlim;⟨mc,nsK h1,h2⟩⟩
   have e0:qdC P w K mg (qbx s₁.heap H) callerA [] s₁ H:=⟨rfl,hM,fun b o e=>qcD e,Nat.le_of_eq (qaL _ _),trivial,fun b hb=>absurd (show b∈([]:List Addr) from hb) (by simp),hok,.of_eq hg⟩
   refine codeAny_mono ((F _ hKb (nsK hns)).run callerA [] s₁ H ⟨[.ref a],[]⟩ [.ref a] [.ref a] _ _ hr e0 (hbind s₁ (.ref a)) (.cons rfl .nil) (hsp H hO hS)) fun r s' h=>?_
   cases r with
   | error e=>exact(hCX H e s' h).elim
   | ok fl =>
     cases fl with
     | next=>exact False.elim h
     | brk=>exact False.elim h
     | cont=>exact False.elim h
     | ret u =>
       obtain⟨v,H',os,bare,un,hok',r',q⟩:=h;have q':v=.bl true:=q;subst q';obtain rfl:u=Value.bool true:=r';refine⟨rfl,OldK.of_keep fun b o e=>?_,os,bare⟩
       cases q:H b with
       | none=>exact un.keep b o e q (by intro z;exact absurd (show b∈([]:List Addr) from z) (by simp)) (by simp)
       | some u =>
         rcases hO b with z|⟨ob,xs,z⟩
         · rw[q]at z;cases z
         · have z2:=un.frzs b ob _ z;obtain⟨e1,_⟩:=hok b _ z;obtain⟨e2,_⟩:=hok' b _ z2;rw[e]at e1;cases e1;exact e2
 cases hk:K.lookup a with
 | some o =>
   -- the script is one of the module's own objects
   have e:=KX a o hk;rw[ha]at e;cases e;refine core (fun _=>none) (fun _=>.inl rfl) (.inr ⟨_,vs.toArray,_,hk,rfl,rfl,rfl,by rw[List.size_toArray,lenV];exact hl,by simpa using rv⟩) (fun b u z=>by have z':(none:Option HO)=some u:=z;cases z') (fun b z=>absurd rfl z) fun z=>absurd rfl z
 | none =>
   refine core (fun b=>if b=a then some (.frz { cls:=.type "list",data:=.seq vs.toArray } (.lst (ns.map V.int))) else none) (fun b=>?_) (.inl (.inr ⟨{ cls:=.type "list",data:=.seq vs.toArray },if_pos rfl⟩)) (fun b u z=>?_) (fun b z=>?_) fun _=>hk
   · by_cases hb:b=a
     · exact .inr ⟨_,_,if_pos hb⟩
     · exact .inl (if_neg hb)
   · by_cases hb:b=a
     · have z':=(if_pos hb).symm.trans z;cases z';subst hb;exact⟨ha,by rw[List.length_map];exact hl,vs,_,rv,ha⟩
     · have z':=(if_neg hb).symm.trans z;cases z'
   · by_cases hb:b=a
     · exact hb
     · exact absurd (if_neg hb) z
theorem walk_of {l:PySem.W.OpenLaw}{n k:Nat}{q:Program}{loose:List Str}{XP:(Str->Option Value)->Heap->Prop}{YP:World->Heap->Prop}{d:DefRec}{K:Params->Frag}{CX:World->CXT}{sp:World->Sp}{x:Str}
   (hn:l.most=some n) (hn2:n≤sizeLine) (hdf:d.params.defaults=[]) (hr:Room k callerA)
   (hY:∀ (w:World) (h:Heap),YP w h->(K w.params).In h)
   (F:∀ (w:World) (mg:Str->Option Value) (fa:Addr) (h:Heap),(K w.params).In h->h.Ns mainGlobals mg->mg d.name=some (.ref fa) ->
     ∃ fd:FuncData,(∀ (s:Shared) (u:Value),BindsTo s fd ⟨[u],[]⟩ [(x,u)]) ∧
       ∀ base:Heap,(K w.params).In base->base.Ns mainGlobals mg->qV l.prog w (K w.params) mg base (CX w) k fa fd [x] (sp w))
   (hsp:∀ (w:World) (H:Hp) (a:Addr) (ns:List Int),ns.length≤n->qd8 H->SqL (K w.params) H a (ns.map V.int)->sp w [.ref a] H (fun v _=>v=.bl true) fun _ _ _=>False)
   (hCX:∀ (w:World) (H:Hp) (s:Shared) (e:Value) (s':Shared),CX w [] H s (fun _ _ _=>False) e s'->False) :
   PySem.W.WalkO q loose XP YP l.row.toRowW d [] (fun f vs=>PySem.call f vs):=by
 refine Att.attach_call hn hdf fun w s₀ s₁ mg mb fa o pm cd doc a vs ns G Y ho hd hcd hmg hobj hints hlen hg=>?_;have KX:=hY w _ Y;obtain⟨fd,hb,hF⟩:=F w mg fa _ KX G.T.g hmg;exact law_call KX G.T.g G.T.b G.T.builtins G.T.nolimit hg hobj hints (Nat.le_trans hlen hn2) hr hF hb (fun H hO hS=>hsp w H a ns hlen hO hS) fun H e s'=>hCX w H s₁ e s'
def zX (s:Stmt):Arguments:=match s with
 | .FunctionDef _ a _ _ _ _ _ _ _ _=>a
 | _=>{ posonlyargs:=[],args:=[],vararg:=none,kwonlyargs:=[],kw_defaults:=[],kwarg:=none,defaults:=[] }
def zG (s:Stmt):List Stmt:=match s with
 | .FunctionDef _ _ b _ _ _ _ _ _ _=>b
 | _=>[]
def qo (s:Stmt):Scope:=match s with
 | .FunctionDef _ _ _ _ _ _ sc _ _ _=>sc
 | _=>{ kind:=.function,names:=[],isGenerator:=false,isCoroutine:=false }
abbrev CX0:CXT:=fun _ _ _ _ _ _=>False
abbrev E0:XK:=fun _ _ _=>False
theorem qB {X:Cx}:qa2 CX0 X E0:=fun _ _ _ _ _ _ _ h=>h.elim
structure Fun (K:Frag) (x qual:Str) (st:Stmt) (f:Addr) (fd:FuncData):Prop where
 ex:∃ (oc:Value) (od:Option Addr) (kV doc pm:Value) (an:Option Addr) (cdv ct:Value) (osl:Array (Option Value)),
   fd=fnOf x qual (zX st) (zG st) (qo st) .none kV doc pm an cdv ct∧K.lookup f=some ⟨oc,od,.func fd,osl⟩∧codeIn K cdv qual=true
 kp:keepIn K (.ref f)=true
section
variable {P:Program}{w:World}{K:Frag}{mg:Str->Option Value}{base:Heap}
theorem Fun.ok {x qual:Str}{st:Stmt}{f:Addr}{fd:FuncData}{N ps:List Str}{k:Nat}{sp:Sp} (F:Fun K x qual st f fd) (S:qC N ps (qo st)) (len:∀ vs H Q E,sp vs H Q E->vs.length=ps.length)
   (hbody:∀ (cdv:Value) (A:Around) (outer:List Env) (s:Shared) (H:Hp) (vs:List V) (Q:VK) (E:XK),Room k (A.deeper (envOfC qual (qo st) s.heap.objs.size f cdv))->sp vs H Q E ->
     ∃ t,PSs (Qx CX0 P w K mg base N qual (qo st) f cdv A outer s H E).nox (zG st) t∧t { nx:=fun _ H'=>Q .non H',rt:=Q } (ZQ N vs) H):qV P w K mg base CX0 (k+1) f fd ps sp:=by
 obtain⟨oc,od,kV,doc,pm,an,cdv,ct,osl,rfl,lk,hcd⟩:=F.ex;refine qd3 lk hcd S len fun A outer s H vs Q E hr hsp=>?_;obtain⟨t,h,q⟩:=hbody cdv A outer s H vs Q E hr hsp;exact⟨t,h.nox,q⟩
theorem Fun.binds {x qual:Str}{st:Stmt}{f:Addr}{fd:FuncData}{ps:List Str} (F:Fun K x qual st f fd)
   (h:∀ (kV doc pm:Value) (an:Option Addr) (cdv ct:Value) (us:List Value),us.length=ps.length->bindArgs (fnOf x qual (zX st) (zG st) (qo st) .none kV doc pm an cdv ct) ⟨us,[]⟩=pure (ps.zip us)):Binds K fd ps []:=by
 obtain⟨oc,od,kV,doc,pm,an,cdv,ct,osl,rfl,lk,hcd⟩:=F.ex;exact .all (h kV doc pm an cdv ct)
theorem qb9 {x qual:Str}{st:Stmt}{f:Addr}{oc:Value}{od an:Option Addr}{osl:Array (Option Value)}{kV doc pm cdv ct:Value} (l:K.lookup f=some ⟨oc,od,.func (fnOf x qual (zX st) (zG st) (qo st) .none kV doc pm an cdv ct),osl⟩)
   (c:codeIn K cdv qual=true) (k:keepIn K (.ref f)=true):Fun K x qual st f (fnOf x qual (zX st) (zG st) (qo st) .none kV doc pm an cdv ct):=⟨⟨oc,od,kV,doc,pm,an,cdv,ct,osl,rfl,l,c⟩,k⟩
end
theorem zo {A:Around}{k:Nat} (hr:Room k A):A.units+1 < cLine:=Nat.lt_of_le_of_lt (Nat.add_le_add_left (by decide:1≤64) _) hr.units
theorem qj {n:Nat} (h:n≤1000):n < sizeLine:=Nat.lt_of_le_of_lt h (by decide)
section
variable {X:Cx}
theorem pv (i:Nat) {x:Str}{pos:Pos} (hN:X.N[i]?=some x:=by rfl) (hv:Vis X.env.scope x:=by first|exact Or.inl rfl|exact Or.inr (Or.inl rfl)|exact Or.inr (Or.inr rfl)) (hd:(x == ("__debug__":Str))=false:=by decide)
   (hcd:(x == ("__classdict__":Str))=false:=by decide):PE X (.Name x pos) (qcS i):=qde hN hv hd hcd
end
theorem ZG {A B:Prop} (h:B):if false=true then A else B:=by
 rw[if_neg Bool.false_ne_true];exact h
theorem qbu {A B:Prop} (h:A):if true=true then A else B:=by
 rw[if_pos rfl];exact h
def Same (H H':Hp):Prop:=∀ b o,H b=some o->H' b=some o
theorem Same.refl (H:Hp):Same H H:=fun _ _ h=>h
theorem Same.trans {H H1 H2:Hp} (a:Same H H1) (b:Same H1 H2):Same H H2:=fun c o h=>b c o (a c o h)
theorem Same.seq {K:Frag}{H H':Hp}{a:Addr}{xs:List V} (e:Same H H') (h:SqL K H a xs):SqL K H' a xs:=by
 rcases h with (h|⟨o,h⟩)|h
 · exact .inl (.inl (e _ _ h))
 · exact .inl (.inr ⟨o,e _ _ h⟩)
 · exact .inr h
section
variable {X:Cx}{pins:List (Addr×Obj)}{σ:St}{H:Hp}{s:Shared}{h':Heap}
theorem Inv.turnLaid {ch:List Addr}{a:Addr}{o:HO}{t':Nat} (I:Inv X pins σ H s) (k:∀ b u,b∉ch->s.heap.get? b=some u->h'.get? b=some u) (hf:∀ b∈ch,JC X pins H b)
   (hp:s.heap.objs.size≤a) (new:ObjOk X.prog X.w (upd H a o) h' a o):Inv X pins σ (upd H a o) { s with heap:=h',toks:=t' }:=by
 have hn:H a=none:=I.hok.fresh hp;refine I.step (g':=s.gens) (d':=s.drawn) (ch:=ch) (fun b hb=>?_) (fun b u _ _ hc e _=>k b u hc e) (fun b u _ _ hc e _=>⟨u.slots,k b u hc e⟩)
   (fun b u _ e n=>?_) (fun b u hc e=>⟨u,k b u hc e⟩) (fun b xs e=>?_) (fun b u v e=>?_) (fun b ps e=>?_) (fun m hm=>?_) (fun b u e=>?_) I.bare
 · obtain⟨_,f1,_,f3,f4,f5⟩:=hf b hb;exact⟨f3,f1,f4,f5⟩
 · rw[qi (Nat.ne_of_lt (Nat.lt_of_lt_of_le (Heap.lt_size e) hp))];exact n
 · rw[qi (qf e hn)];exact e
 · rw[qi (qf e hn)];exact e
 · exact⟨#[],by rw[qi (qf e hn),e];simp⟩
 · obtain⟨ob,es,ep,ho,r⟩:=hm;exact⟨ob,es,ep,k _ ob (fun z=>(hf _ z).2.1 rfl) ho,r⟩
 · by_cases hb:b=a
   · subst hb;rw[qb]at e;cases e;exact new
   · rw[qi hb]at e;refine(I.hok b u e).stay (fun c v hc q=>k c v ?_ q) (fun c q=>by rw[qi (qf q hn)];exact q) fun c xs q=>by rw[qi (qf q hn)];exact q
     intro z;have zz:=(hf c z).1;rcases hc with rfl|hc
     · rw[e]at zz;cases zz
     · rw[hc]at zz;cases zz
theorem Inv.turnL {ch:List Addr}{t':Nat} (I:Inv X pins σ H s) (k:∀ b u,b∉ch->s.heap.get? b=some u->h'.get? b=some u) (hf:∀ b∈ch,JC X pins H b) :
   Inv X pins σ H { s with heap:=h',toks:=t' }:=by
 refine I.step (g':=s.gens) (d':=s.drawn) (ch:=ch) (fun b hb=>?_) (fun b u _ _ hc e _=>k b u hc e) (fun b u _ _ hc e _=>⟨u.slots,k b u hc e⟩)
   (fun b u _ e n=>n) (fun b u hc e=>⟨u,k b u hc e⟩) (fun b xs e=>e) (fun b u v e=>e) (fun b ps e=>⟨#[],by rw[e];simp⟩) (fun m hm=>?_) (fun b u e=>?_) I.bare
 · obtain⟨_,f1,_,f3,f4,f5⟩:=hf b hb;exact⟨f3,f1,f4,f5⟩
 · obtain⟨ob,es,ep,ho,r⟩:=hm;exact⟨ob,es,ep,k _ ob (fun z=>(hf _ z).2.1 rfl) ho,r⟩
 · refine(I.hok b u e).stay (fun c v hc q=>k c v ?_ q) (fun c q=>q) fun c xs q=>q;intro z;have zz:=(hf c z).1;rcases hc with rfl|hc
   · rw[e]at zz;cases zz
   · rw[hc]at zz;cases zz
end
def Ite (K:Frag) (a:Addr):It :=
 ⟨fun i H=>∃ xs x,SqL K H a xs∧xs[i]?=some x,
  fun i H x H'=>∃ p v,H p=none∧x=.ref p∧(∀ xs,SqL K H a xs->xs[i]?=some v)∧H'=upd H p (.tup [.int i,v]),
  fun i H=>∃ xs,SqL K H a xs∧xs.length≤i⟩
theorem JY {P:Program}{w:World}{K:Frag}{elts:List Expr}{k:Nat}{pos:Pos} (a e it:Addr) (hne:e≠it) :
   qdx P w K (.Tuple elts k pos) (Ite K a) [e,it] e (fun i h=>(∃ old,IsEnum h e it i old)∧h.IsListIter it a i) where
 mem:=by simp
 obj:=fun i h st b hb=>by
   obtain⟨⟨old,he⟩,hit⟩:=st;rcases List.mem_cons.mp hb with rfl|hb
   · exact⟨_,he,fun v z=>by cases z⟩
   · have e1:b=it:=by simpa using hb
     subst e1;obtain⟨o,q,c,d⟩:=hit;exact⟨o,q,fun v z=>by rw[d]at z;cases z⟩
 keep:=fun i h h' st kk=>by
   obtain⟨⟨old,he⟩,hit⟩:=st;exact⟨⟨old,kk e (by simp) _ he⟩,hit.at fun o q=>kk it (by simp) o q⟩
 item:=by
   intro X hP hw hK hc i pins s σ H E I hf st hg;subst hP hw hK;obtain⟨xs,x,hq,hx⟩:=hg;obtain⟨its,rv,p,hz⟩:=I.list hq;obtain⟨u,hu,ru⟩:=rv.get hx;obtain⟨⟨old,he⟩,hit⟩:=st;refine wpAny_pyNext_enum_item he hit p.isList (x:=u) (by simpa using hu) hne fun h1 ho hit1 hT hsz hk=>?_;refine⟨_,rfl,wpAny_letOwnedTupleGo_enum (s:={ s with heap:=h1,toks:=s.toks+1 }) ho fun h2 he2 hs2=>?_⟩;have hel:e < s.heap.objs.size:=Heap.lt_size he;have hil:it < s.heap.objs.size:=by obtain⟨_,q,_⟩:=hit;exact Heap.lt_size q
   have hT2:h2.get? s.heap.objs.size=some { cls:=.type "tuple",data:=.seq #[.int i s.toks,u] }:=(hs2.2 _ (Nat.ne_of_gt hel)).trans hT
   have I1:Inv X pins σ (upd H s.heap.objs.size (.tup [.int i,x])) { s with heap:=h2,toks:=s.toks+1 }:=by
     refine I.turnLaid (ch:=[e,it]) (fun b o hb q=>?_) hf (Nat.le_refl _) ⟨by show 2≤sizeLine;decide,[.int i s.toks,u],.cons ⟨_,rfl⟩ (.cons ru .nil),⟨_,hT2,rfl,_,rfl⟩⟩;have b1:b≠e:=fun z=>hb (by simp[z]);have b2:b≠it:=fun z=>hb (by simp[z]);exact(hs2.2 b b1).trans (hk b o b1 b2 q)
   refine⟨.ref s.heap.objs.size,_,I1,rfl,⟨_,x,I.hok.fresh (Nat.le_refl _),rfl,fun ys hy=>by rw[I.list_inj hy hq];exact hx,rfl⟩,⟨⟨_,by simpa using he2⟩,hit1.at fun o q=>(hs2.2 it hne.symm).trans q⟩,fun b hb=>?_⟩
   have hbl:b < s.heap.objs.size:=by
     rcases List.mem_cons.mp hb with rfl|hb
     · exact hel
     · have e1:b=it:=by simpa using hb
       rw[e1];exact hil
   rw[qi (Nat.ne_of_lt hbl)];exact(hf b hb).1
 done:=by
   intro X hP hw hK hc i pins s σ H E I hf st hg;subst hP hw hK;obtain⟨xs,hq,hx⟩:=hg;obtain⟨its,rv,p,hz⟩:=I.list hq;obtain⟨⟨old,he⟩,hit⟩:=st;have hl:=rv.length;refine wpAny_pyNext_enum_end (I.ok.hd hc) he hit p.isList (by simp;omega) fun h' eb=>⟨rfl,I.turnL (t':=s.toks) (ch:=[e,it]) (fun b o hb q=>eb b o (fun z=>hb (by simp[z])) q) hf⟩
 self:=fun _ _ _ _ _ st h=>by
   obtain⟨⟨old,he⟩,_⟩:=st;exact wpAny_pyIter_enum he h
theorem qaY:bootBuiltins "enumerate"=some (.type "enumerate"):=by decide +kernel
inductive qaK (K:Frag) (R:(It->Hp->Prop)) (vs:List V) (H1:Hp):Prop
 | mk (a:_) (h1:vs=[.ref a]) (h2:(∃ xs,SqL K H1 a xs)) (h3:R (Ite K a) H1):qaK K R vs H1
def qdY (K:Frag) (ta:TA):TI:=fun σ H R=>ta σ H fun vs H1=>qaK K R vs H1
section
variable {X:Cx}
theorem qcz {a:Expr}{ta:TA}{p pos tp:Pos}{elts:List Expr}{kk:Nat} (hg:Gl X "enumerate") (hm:X.mg "enumerate"=none) (ha:PA X [a] ta) (hs:starEach [a] X.env=[(false,eval a X.env)]:=by rfl) :
   PI X (.Tuple elts kk tp) (.Call (.Name "enumerate" p) [a] [] pos) (qdY X.K ta):=by
 intro pins s σ H R I h;refine Call_ (QW I hg hm qaY (PyProof.Rows.callWith_type1 (thn (ha pos pins s σ H _ I h) fun us s1 zz_=>?_) hs rfl));obtain⟨vs,H1,I1,r1,q1⟩:=zz_;obtain⟨l,e,⟨xs,hq⟩,q⟩:=q1;subst e;obtain⟨u,rfl,ru⟩:=JD r1;cases ru;obtain⟨its,rv,pl,hz⟩:=I1.list hq;refine call_enumerate_list pl.isList fun h' he hit hsz hk=>?_;have I2:Inv X pins σ H1 { s1 with heap:=h' }:=I1.kept (t':=s1.toks) hk;refine wpAny_pyIter_enum he ⟨s1.heap.objs.size+1,[s1.heap.objs.size+1,s1.heap.objs.size],_,Ite X.K l,H1,rfl,I2,JY l _ _ (Nat.succ_ne_self _),⟨⟨_,he⟩,hit⟩,fun b hb=>?_,q⟩
 have hb1:s1.heap.objs.size≤b:=by
   rcases List.mem_cons.mp hb with e1|hb
   · rw[e1];exact Nat.le_succ _
   · have e1:b=s1.heap.objs.size:=by simpa using hb
     rw[e1];exact Nat.le_refl _
 exact I1.fpOk hb1 (I1.hok.fresh hb1)
end
theorem qbB {K:Frag}{a:Addr}{xs:List V}{g:TG}{tb:TS}{D:qa3}{σ:St}{H:Hp} (Pv:Nat->St->Hp->Prop) (h0:Pv 0 σ H) (hl:∀ i σ H,i≤xs.length->Pv i σ H->SqL K H a xs)
   (hs:∀ i x σ H p,xs[i]?=some x->Pv i σ H->H p=none->g (.ref p) σ (upd H p (.tup [.int i,x])) fun σ2 H2=>tb { D with nx:=Pv (i+1),ct:=Pv (i+1),bk:=D.nx } σ2 H2) (hd:∀ σ H,Pv xs.length σ H->D.nx σ H) :
   ∃ W:Nat->Nat->St->Hp->Prop,(∃ m,W 0 m σ H)∧∀ i m σ H,W i m σ H ->
     ((Ite K a).stop i H∧D.nx σ H)∨((Ite K a).go i H∧∃ N:St->Hp->Prop,(∀ σ' H',N σ' H'->∃ m',m' < m∧W (i+1) m' σ' H')∧∀ x H',(Ite K a).yld i H x H'->g x σ H' fun σ2 H2=>tb { D with nx:=N,ct:=N,bk:=D.nx } σ2 H2):=by
 refine⟨fun i m σ H=>m=xs.length - i∧i≤xs.length∧Pv i σ H,⟨xs.length,by simp,Nat.zero_le _,h0⟩,?_⟩;rintro i m σ H ⟨rfl,hi,p⟩;have q:=hl i σ H hi p;by_cases hlt:i < xs.length
 · refine .inr ⟨⟨xs,xs[i],q,by simp[hlt]⟩,Pv (i+1),fun σ' H' p'=>⟨xs.length - (i+1),by omega,rfl,hlt,p'⟩,fun x H' y=>?_⟩;obtain⟨t,v,hn,rfl,y,rfl⟩:=y;exact hs i v σ _ t (y xs q) p hn
 · have e:i=xs.length:=by omega
   subst e;exact .inl ⟨⟨xs,q,Nat.le_refl _⟩,hd σ H p⟩
def tyN (H:Hp):V->Option String
 | .non=>some "NoneType"
 | .bl _=>some "bool"
 | .int _=>some "int"
 | .str _=>some "str"
 | .ref a=>match H a with
   | some (.lst _)=>some "list"
   | some (.tup _)=>some "tuple"
   | some (.dK _)=>some "dict"
   | _=>none
 | _=>none
def qeo (c t:String):Bool:=t == c || (t == "bool" && c == "int")
theorem qa7 {K:Frag}{H:Hp}{v:V}{t:String} (h:tyN H v=some t):JW K H v (.type t):=by
 cases v with
 | non=>cases h;exact .non
 | bl b=>cases h;exact .bl b
 | int b=>cases h;exact .int b
 | str b=>cases h;exact .str b
 | byt b=>cases h
 | flt b=>cases h
 | ty b=>cases h
 | ref a =>
   simp only[tyN]at h;split at h
   · rename_i e;cases h;exact .lst e
   · rename_i e;cases h;exact .tup e
   · rename_i e;cases h;exact .dK e
   · cases h
def jC:List String:=["NoneType","bool","int","str","list","tuple","dict"]
theorem qcl {H:Hp}{v:V}{t:String} (h:tyN H v=some t):t∈jC:=by
 cases v with
 | non=>cases h;decide
 | bl b=>cases h;decide
 | int b=>cases h;decide
 | str b=>cases h;decide
 | byt b=>cases h
 | flt b=>cases h
 | ty b=>cases h
 | ref a =>
   simp only[tyN]at h;split at h<;>first|(cases h;decide)|cases h
def ZH:List String:=["bool","int","str","list","tuple","dict"]
theorem qdt (K:Frag) {t c:String} (ht:t∈jC) (hc:c∈ZH):kitOne K (.type t) (.type c)=some (qeo c t):=by
 simp only[jC,ZH,List.mem_cons,List.not_mem_nil,or_false]at ht hc;rcases ht with rfl|rfl|rfl|rfl|rfl|rfl|rfl<;>rcases hc with rfl|rfl|rfl|rfl|rfl|rfl<;>(unfold kitOne PySem.W.kitCls;rfl)
inductive qbX (xs:List V) (H:Hp) (Q:VK):Prop
 | mk (x c t:_) (h1:xs=[x,.ty c]) (h2:c∈ZH) (h3:tyN H x=some t) (h4:Q (.bl (qeo c t)) H):qbX xs H Q
def qeF:List V->Hp->VK->Prop:=fun xs H Q=>qbX xs H Q
section
variable {X:Cx}
theorem zd:CallR X (.builtin "isinstance") qeF:=by
 intro pins s σ H xs us Q I r h;obtain⟨x,c,t,rfl,hc,ht,q⟩:=h;obtain⟨u,w',rfl,ru,rw'⟩:=qa6 r;cases (show w'=Value.type c from rw');exact qaG I ru (qa7 ht) (qdt X.K (qcl ht) hc) fun tk=>⟨.bl _,H,I.tok tk,rfl,q⟩
end
mutual
inductive DV (H:Hp):V->PyData->Prop
 | non:DV H .non .none
 | bl (b):DV H (.bl b) (.bool b)
 | int (i):DV H (.int i) (.int i)
 | str (x):DV H (.str x) (.str x)
 | lst {a xs ds}:Rd H a (.lst xs)->DVs H xs ds->DV H (.ref a) (.list ds)
 | tup {a xs ds}:Rd H a (.tup xs)->DVs H xs ds->DV H (.ref a) (.tuple ds)
inductive DVs (H:Hp):List V->List PyData->Prop
 | nil:DVs H [] []
 | cons {x xs d ds}:DV H x d->DVs H xs ds->DVs H (x::xs) (d::ds)
end
section
variable {P:Program}{w:World}{H:Hp}{h:Heap}
mutual
theorem DV.reads (ok:HOk P w H h):∀ {v:V}{d:PyData}{u:Value},DV H v d->RelV v u->∃ as,Reads h u d as
 | _,_,u,.non,r=>by cases (show u=Value.none from r);exact⟨_,.none⟩
 | _,_,u,.bl b,r=>by cases (show u=Value.bool b from r);exact⟨_,.bool b⟩
 | _,_,u,.int i,r=>by obtain⟨t,q⟩:=(show ∃ t,u=Value.int i t from r);cases q;exact⟨_,.int i t⟩
 | _,_,u,.str x,r=>by obtain⟨t,q⟩:=(show ∃ t,u=Value.str x t from r);cases q;exact⟨_,.str x t⟩
 | _,_,u,.lst (a:=a) rd q,r=>by
   cases (show u=Value.ref a from r);obtain⟨_,its,n,rv,e⟩:=rd.ok ok;obtain⟨as,z⟩:=DVs.reads ok q rv;exact⟨_,.list e rfl rfl z⟩
 | _,_,u,.tup (a:=a) rd q,r=>by
   cases (show u=Value.ref a from r);obtain⟨_,its,rv,ob,e,c,n,d⟩:=rd.ok ok;obtain⟨as,z⟩:=DVs.reads ok q rv;exact⟨_,.tuple e c d z⟩
theorem DVs.reads (ok:HOk P w H h):∀ {vs:List V}{ds:List PyData}{us:List Value},DVs H vs ds->Vals vs us->∃ as,ReadsAll h us ds as
 | _,_,_,.nil,.nil=>⟨_,.nil⟩
 | _,_,_,.cons a b,.cons r t=>by
   obtain⟨as,z⟩:=DV.reads ok a r;obtain⟨bs,y⟩:=DVs.reads ok b t;exact⟨_,.cons z y⟩
end
end
section
variable {X:Cx}
inductive qbY (x:V) (y:V) (H:Hp) (Q:VK):Prop
 | mk (d e:_) (h1:DV H x d) (h2:DV H y e) (h3:SeqAt.shaped d=true) (h4:SeqAt.shaped e=true) (h5:Q (.bl (PyData.eqv d e)) H):qbY x y H Q
def qel:R2:=fun x y H Q=>qbY x y H Q
inductive qbU (x:V) (y:V) (H:Hp) (Q:VK):Prop
 | mk (d e:_) (h1:DV H x d) (h2:DV H y e) (h3:SeqAt.shaped d=true) (h4:SeqAt.shaped e=true) (h5:Q (.bl (!PyData.eqv d e)) H):qbU x y H Q
def qef:R2:=fun x y H Q=>qbU x y H Q
theorem qdi (hu:X.A.units+64 < cLine):OpR X (compareOp .Eq) qel:=by
 intro pins s σ H x y v u Q I rx ry h;obtain⟨d,e,hd,he,sd,se,q⟩:=h;obtain⟨as,ra⟩:=hd.reads I.hok rx;obtain⟨bs,rb⟩:=he.reads I.hok ry;exact eq_dataH ra rb sd se hu ⟨.bl _,H,I,rfl,q⟩
theorem qdg (hu:X.A.units+64 < cLine):OpR X (compareOp .NotEq) qef:=by
 intro pins s σ H x y v u Q I rx ry h;obtain⟨d,e,hd,he,sd,se,q⟩:=h;obtain⟨as,ra⟩:=hd.reads I.hok rx;obtain⟨bs,rb⟩:=he.reads I.hok ry;exact ne_dataH ra rb sd se hu ⟨.bl _,H,I,rfl,q⟩
def qdS:R2:=fun x y H Q=>rI0 (fun i j=>.int (i+j)) x y H Q∨qem x y H Q∨∃ i j,x=.str i∧y=.str j∧i.length+j.length≤sizeLine∧Q (.str (i++j)) H
theorem Qz:OpR X (binaryOp .Add) qdS:=op_add.or (op_cat.or JM)
def qek:R2:=fun x y H Q=>rEq x y H Q∨qel x y H Q
def qc7:R2:=fun x y H Q=>rNe x y H Q∨qef x y H Q
theorem uEq (hU:X.A.units+64 < cLine):OpR X (compareOp .Eq) qek:=op_eq.or (qdi hU)
theorem uNe (hU:X.A.units+64 < cLine):OpR X (compareOp .NotEq) qc7:=op_ne.or (qdg hU)
end
theorem Q4:bootBuiltins "tuple"=some (.type "tuple"):=by decide +kernel
theorem qP:bootBuiltins "list"=some (.type "list"):=by decide +kernel
theorem jo:bootBuiltins "int"=some (.type "int"):=by decide +kernel
theorem Zo:bootBuiltins "bool"=some (.type "bool"):=by decide +kernel
theorem q9:bootBuiltins "len"=some (.builtin "len"):=by decide +kernel
theorem zI:bootBuiltins "max"=some (.builtin "max"):=by decide +kernel
theorem jn:bootBuiltins "min"=some (.builtin "min"):=by decide +kernel
theorem qr:bootBuiltins "isinstance"=some (.builtin "isinstance"):=by decide +kernel
structure Df (K:Frag) (mg:Str->Option Value) (x:Str) (st:Stmt) (ps:List Str) (f:Addr) (fd:FuncData):Prop where
 F:Fun K x x st f fd
 b:Binds K fd ps []
 m:mg x=some (.ref f)
 k:keepIn K (.ref f)=true
theorem Same.new {H:Hp}{p:Addr} (o:HO) (h:H p=none):Same H (upd H p o):=fun b u e=>by rw[qi (qf e h)];exact e
theorem Same.then {H H1:Hp} (s:Same H H1) {p:Addr} (o:HO) (h:H1 p=none):Same H (upd H1 p o):=s.trans (Same.new o h)
def But (p:Addr) (H H':Hp):Prop:=∀ b o,H b=some o->b≠p->H' b=some o
theorem But.refl (p:Addr) (H:Hp):But p H H:=fun _ _ h _=>h
theorem But.trans {p:Addr}{H H1 H2:Hp} (a:But p H H1) (b:But p H1 H2):But p H H2:=fun c o h n=>b c o (a c o h n) n
theorem But.put {p:Addr}{H H1:Hp} (s:But p H H1) (o:HO):But p H (upd H1 p o):=fun b u e n=>by rw[qi n];exact s b u e n
theorem But.same {p:Addr}{H H1 H2:Hp} (a:But p H H1) (b:Same H1 H2):But p H H2:=fun c o h n=>b c o (a c o h n)
theorem But.fresh {p:Addr}{H H':Hp} (a:But p H H') (h:H p=none):Same H H':=fun c o e=>a c o e (qf e h)
theorem qm {n:Nat} (h:n≤1000):n≤sizeLine:=Nat.le_of_lt (qj h)
theorem Qn {b:Bool}{A B:Prop} (e:b=false) (h:B):if b=true then A else B:=by rw[e];exact ZG h
theorem qaF {b:Bool}{A B:Prop} (e:b=true) (h:A):if b=true then A else B:=by rw[e];exact qbu h
theorem jw {c A B:Prop} [Decidable c] (h1:c->A) (h2:¬ c->B):if (decide c)=true then A else B:=by
 by_cases h:c
 · rw[decide_eq_true h];exact qbu (h1 h)
 · rw[decide_eq_false h];exact ZG (h2 h)
theorem qdV {c A B:Prop} [Decidable c] (h1:¬ c->A) (h2:c->B):if (!decide c)=true then A else B:=by
 by_cases h:c
 · rw[decide_eq_true h];exact ZG (h2 h)
 · rw[decide_eq_false h];exact qbu (h1 h)
section
variable {prog:Program}{w:World}{A:Around}{R:Result->Shared->Prop}{s:Shared}
abbrev noE:Value->Shared->Prop:=fun _ _=>False
theorem Q3 {elt target iter:Expr}{ifs:List Expr}{scope:Scope}{pos:Pos}{it acc:Value}{env:Env} (I:Nat->Shared->Prop)
   (turn:∀ n s,I n s->wpAny (model prog w) A (pyNext it) (fun r s₁=>match r with
     | none=>R (.ok .next) s₁
     | some v=>wpAny (model prog w) A (letOwnedTupleGo target it v) (fun _ s₀=>wpAny (model prog w) A (assign target env v) (fun _ s₂ =>
         wpAny (model prog w) A (forIn ifs true fun c r=>if r=true then do let ok ← isTrue c env (eval c env);pure (ForInStep.yield ok) else pure (ForInStep.yield r)) (fun ok s₃ =>
           if ok=true then wpAny (model prog w) A (eval elt env) (fun x s₄ =>
             wpAny (model prog w) A (call (.builtin "list.append") [acc,x]) (fun _ s₅=>∃ m,m < n∧I m s₅) noE s₄) noE s₃
           else ∃ m,m < n∧I m s₃) noE s₂) noE s₀) noE s₁) noE s)
   (n:Nat) (h:I n s) :
   codeAny (model prog w) A (.compLoop (.ListComp elt [⟨target,iter,ifs,0⟩] scope pos) 0 it acc env) R s:=by
 refine codeAny_loop rfl I (fun n s hI=>?_) n h;show wpAny _ A ((compTurn (.ListComp elt [⟨target,iter,ifs,0⟩] scope pos) 0 it acc env).onRaise (fun x=>do noteFrame x env;theTreesLotGoes x)) _ _ s;refine wpAny_noted ?_;rw[compTurn_list];refine wpAny_bind (wpAny_standAt (wpAny_bind (wpAny_mono (turn n s hI) (fun r s₁ h₁=>?_) fun _ _ h'=>h'.elim)))
 cases r with
 | none=>exact wpAny_pure h₁
 | some v =>
   refine wpAny_bind (wpAny_mono h₁ (fun _ s₀ h₀=>?_) fun _ _ h'=>h'.elim);refine wpAny_bind (wpAny_mono h₀ (fun _ s₂ h₂=>wpAny_bind (wpAny_mono h₂ (fun ok s₃ h₃=>?_) fun _ _ h'=>h'.elim)) fun _ _ h'=>h'.elim)
   cases ok with
   | false=>exact wpAny_pure ⟨rfl,h₃⟩
   | true =>
     exact wpAny_bind (wpAny_bind (wpAny_mono h₃ (fun x s₄ h₄=>wpAny_bind (wpAny_mono h₄ (fun _ s₅ h₅=>wpAny_pure (wpAny_pure ⟨rfl,h₅⟩)) fun _ _ h'=>h'.elim)) fun _ _ h'=>h'.elim))
end
def qF (X:Cx) (scope:Scope) (N:List Str) (cl:List (Str×Addr)) (C:Addr) (s₀:Shared) (H₀:Hp) (ex:List Addr) (pn:List (Addr×Obj)):Cx where
 prog:=X.prog
 w:=X.w
 K:=X.K
 mg:=X.mg
 base:=X.base
 A:=X.A
 N:=N
 s₀:=s₀
 H₀:=H₀
 env:=compEnvC scope cl C X.env
 outer:=X.stack
 stack:=X.stack
 ex:=ex
 fn:=fun x=>!(cl.lookup x).isSome
 calm:=X.calm
 pn:=pn
 xe:=noE
def st0 (js:List (Option Nat)) (σ:St):St:=js.map fun o=>o.bind fun j=>(σ[j]?).join
def PTs (X:Cx) (ifs:List Expr) (t:TT):Prop :=
 ∀ (pins:List (Addr×Obj)) (s:Shared) (σ:St) (H:Hp) (Q:Bool->Hp->Prop),Inv X pins σ H s->t σ H Q ->
   wpAny (model X.prog X.w) X.A (forIn ifs true fun c r=>if r=true then do let ok ← isTrue c X.env (eval c X.env);pure (ForInStep.yield ok) else pure (ForInStep.yield r)) (TP X pins σ Q) X.xe s
def qev:TT:=fun _ H Q=>Q true H
theorem Zz {X:Cx}:PTs X [] qev:=fun _ _ _ H _ I h=>wpAny_tests_nil ⟨H,I,h⟩
theorem QQ {X:Cx}{c:Expr}{t:TT} (h:PT X c t):PTs X [c] t:=fun pins s σ H Q I q=>wpAny_tests_one (h pins s σ H Q I q)
def ZK (J:It) (g:TG) (tt:TT) (te:TE) (D:Addr) (Q:VK) (σ0:St) (H0:Hp):Prop :=
 ∃ W:Nat->Nat->St->Hp->Prop,(∃ m,W 0 m σ0 H0)∧∀ i m σ' H',W i m σ' H' ->
   (J.stop i H'∧Q (.ref D) H')∨(J.go i H'∧∃ N:St->Hp->Prop,(∀ σ2 H2,N σ2 H2->∃ m',m' < m∧W (i+1) m' σ2 H2) ∧
     ∀ x H2,J.yld i H' x H2->g x σ' H2 fun σ3 H3=>tt σ3 H3 fun ok H4=>if ok=true then te σ3 H4 fun y H5=>∃ ys,H5 D=some (.lst ys)∧ys.length < sizeLine∧N σ3 (upd H5 D (.lst (ys++[y]))) else N σ3 H4)
def qc0 (wi:TI) (g:TG) (tt:TT) (te:TE) (js:List (Option Nat)):TE:=fun σ H Q=>wi σ H fun J H1=>∀ D,H1 D=none->ZK J g tt te D Q (st0 js σ) (upd H1 D (.lst []))
structure CompOk (X:Cx) (scope:Scope) (N:List Str) (cl:List (Str×Addr)) (js:List (Option Nat)):Prop where
 clos:closureFor scope X.env=pure cl
 sub:∀ x c,cl.lookup x=some c->X.env.cells.lookup x=some c
 all:∀ x,((relabel scope X.env).names.lookup x=some .cell∨(relabel scope X.env).names.lookup x=some .free)->∃ c,cl.lookup x=some c
 cell:∀ y∈scope.names,y.2≠.cell
 kind:scope.kind=.function
 names:∀ y∈scope.names,y.2=.local->scope.names.lookup y.1=some .local
 len:js.length=N.length
 fr:∀ (i j:Nat) (x:Str),js[i]?=some (some j)->N[i]?=some x->X.N[j]?=some x∧X.env.kindOf x=some .cell∧((relabel scope X.env).names.lookup x=some .cell∨(relabel scope X.env).names.lookup x=some .free)
section
variable {X:Cx}
theorem qcr {js:List (Option Nat)}{σ:St}{i:Nat}{v:V} (h:(st0 js σ)[i]?=some (some v)):∃ j,js[i]?=some (some j)∧σ[j]?=some (some v):=by
 unfold st0 at h;rw[List.getElem?_map]at h
 cases e:js[i]? with
 | none=>rw[e]at h;cases h
 | some o =>
   rw[e]at h
   cases o with
   | none=>cases h
   | some j =>
     refine⟨j,rfl,?_⟩;have h':(σ[j]?).join=some v:=by simpa using h
     cases e2:σ[j]? with
     | none=>rw[e2]at h';cases h'
     | some o2=>rw[e2]at h';cases o2 with
       | none=>cases h'
       | some u=>rw[show u=v by simpa using h']
theorem qcQ {pins:List (Addr×Obj)}{σ:St}{H:Hp}{s:Shared}{scope:Scope}{N:List Str}{cl:List (Str×Addr)}{js:List (Option Nat)}{C:Addr}{fp:List Addr} (k:CompOk X scope N cl js) (I:Inv X pins σ H s)
   (hf:∀ b∈fp,JC X pins H b) (hfl:∀ b∈fp,b < s.heap.objs.size) (hC:s.heap.objs.size≤C):(qF X scope N cl C s H fp (X.pn++pins)).Ok where
 mod:=I.ok.mod
 kind:=k.kind
 glob:=I.ok.glob
 blt:=I.ok.blt
 above:=hC
 inj:=fun x y c h1 h2=>I.ok.inj x y c (k.sub _ _ h1) (k.sub _ _ h2)
 has:=fun x h=>k.all x h
 cab:=fun x c h1 h2=>by
   have h1':(!(cl.lookup x).isSome)=true:=h1;have h2':cl.lookup x=some c:=h2;rw[h2']at h1';cases h1'
 hd:=I.ok.hd
 frames:=I.ok.frames
 stk:=.inl rfl
 exf:=fun b hb=>⟨Nat.ne_of_lt (Nat.lt_of_lt_of_le (hfl b hb) hC),fun x c h=>(hf b hb).2.2.2.2.1 x c (k.sub _ _ h)⟩
 bs:=I.bs
 bsz:=Nat.le_trans I.ok.bsz I.sz
 noex:=fun b o e hb=>by
   rcases (hf b hb).2.2.2.1 with z|z
   · exact I.ok.noex b o e z
   · exact absurd (Nat.lt_of_lt_of_le (Heap.lt_size e) (Nat.le_trans I.ok.bsz z)) (Nat.lt_irrefl _)
 exfs:=fun b hb z=>by
   rcases List.mem_cons.mp (I.stkSub b z) with e|e
   · exact(hf b hb).2.1 e
   · exact(hf b hb).2.2.1 e
 funs:=I.stack
 frf:=I.stkFree
theorem Jy {pins:List (Addr×Obj)}{σ:St}{H:Hp}{s:Shared}{h1:Heap}{t':Nat}{scope:Scope}{N:List Str}{cl:List (Str×Addr)}{js:List (Option Nat)}{C D:Addr}{fp:List Addr}{m:Str->Option Value} (k:CompOk X scope N cl js) (I:Inv X pins σ H s)
   (hf:∀ b∈fp,JC X pins H b) (hfl:∀ b∈fp,b < s.heap.objs.size) (hD:s.heap.objs.size≤D) (hC:s.heap.objs.size≤C) (hDC:D≠C)
   (hn:h1.Ns C m) (hl:h1.get? D=some { cls:=.type "list",data:=.seq ([]:List Value).toArray }) (hk:∀ b o,s.heap.get? b=some o->h1.get? b=some o) :
   Inv (qF X scope N cl C s H fp (X.pn++pins)) [] (st0 js σ) (upd H D (.lst [])) { s with heap:=h1,toks:=t' }:=by
 have fD:H D=none:=I.hok.fresh hD;have fC:H C=none:=I.hok.fresh hC;have nC:∀ b,b < s.heap.objs.size->b≠C:=fun b hb=>Nat.ne_of_lt (Nat.lt_of_lt_of_le hb hC);refine⟨qcQ k I hf hfl hC,rfl,I.bare,?_,?_,?_,?_,?_,?_,?_,?_⟩
 · exact(Un.laid (fs:=frs X.stack) (ex:=fp) (o:=.lst []) hk hD fD)
 · refine⟨m,hn,fun i x v e1 e2 e3=>?_⟩;obtain⟨j,f1,f2⟩:=qcr e2;obtain⟨g1,g2,g3⟩:=k.fr i j x f1 e1;obtain⟨m',hn',hl'⟩:=I.loc;obtain⟨u,ru,lk⟩:=hl' j x v g1 f2 (.inr (.inl g2));refine⟨u,ru,.inr ⟨g3,?_⟩⟩;obtain⟨c,hc⟩:=k.all x g3;rcases lk with ⟨z,_⟩|⟨_,c',hc',ic⟩
   · rw[g2]at z;cases z
   · have e:=k.sub _ _ hc;rw[hc']at e;cases e;obtain⟨o,ho,hd⟩:=ic;exact⟨c,hc,o,hk _ _ ho,hd⟩
 · intro x c h;obtain⟨v,o,ho,hd⟩:=I.cell x c (k.sub _ _ h);exact⟨v,o,hk _ _ ho,hd⟩
 · show (upd H D (.lst [])) C=none;rw[qi hDC.symm];exact fC
 · intro x c h;obtain⟨v,o,ho,hd⟩:=I.cell x c (k.sub _ _ h);rw[qi (Nat.ne_of_lt (Nat.lt_of_lt_of_le (Heap.lt_size ho) hD))];exact I.freeC x c (k.sub _ _ h)
 · intro p hp;have hp':p∈X.pn++pins:=by simpa[qF] using hp
   obtain⟨e,n,ne,nf,d⟩:=I.pin p hp';have lt:=Heap.lt_size e;refine⟨hk _ _ e,by rw[qi (Nat.ne_of_lt (Nat.lt_of_lt_of_le lt hD))];exact n,nC _ lt,fun z=>?_,d⟩;rcases List.mem_cons.mp (I.stkSub _ z) with e|e
   · exact ne e
   · exact nf e
 · exact I.hok.laid hk hD ⟨Nat.zero_le _,[],0,.nil,hl⟩
 · show (st0 js σ).length=N.length;unfold st0;rw[List.length_map];exact k.len
theorem zE {elt iter tg:Expr}{ifs:List Expr}{scope:Scope}{pos:Pos}{wi:TI}{g:TG}{tt:TT}{te:TE}{N:List Str}{cl:List (Str×Addr)}{js:List (Option Nat)} (hc:X.calm=true) (k:CompOk X scope N cl js) (hi:PI X tg iter wi)
   (hg:∀ C s₀ H₀ ex pn,PG (qF X scope N cl C s₀ H₀ ex pn) tg g) (ht:∀ C s₀ H₀ ex pn,PTs (qF X scope N cl C s₀ H₀ ex pn) ifs tt) (he:∀ C s₀ H₀ ex pn,PE (qF X scope N cl C s₀ H₀ ex pn) elt te)
   (hs:∀ x,foldedSetIterable iter X.env x=pure x:=by intro _;rfl) :
   PE X (.ListComp elt [⟨tg,iter,ifs,0⟩] scope pos) (qc0 wi g tt te js):=by
 intro pins s σ H Q I h;rw[eval_ListComp];refine wpAny_comprehension_free (use:=none) rfl hs k.clos k.kind k.names ?_;refine thn (hi pins s σ H _ I h) fun v s1 h1=>thn h1 fun itv s2 h2=>?_;obtain⟨it,fp,tn,J,H2,e,I2,T,st2,f2,hD⟩:=h2;subst e;refine wpAny_newObj_type (wpAny_newFunctionEnv k.cell (by intro y hy;simp at hy) (fun h₁ hns₁ hsb₁=>?_) k.kind);dsimp only at hns₁ hsb₁ ⊢;generalize hH2:s2.heap.push { cls:=.type "list",dict:=none,data:=.seq ([]:List Value).toArray }=P2 at hns₁ hsb₁ ⊢;have hC:P2.objs.size=s2.heap.objs.size+1:=by rw[← hH2,Heap.size_push]
 have hDC:s2.heap.objs.size≠P2.objs.size:=by rw[hC];exact Nat.ne_of_lt (Nat.lt_succ_self _)
 have hCle:s2.heap.objs.size≤P2.objs.size:=by rw[hC];exact Nat.le_succ _
 have old:∀ b o,s2.heap.get? b=some o->h₁.get? b=some o:=fun b o e=>hsb₁.extBut b o (Nat.ne_of_lt (Nat.lt_of_lt_of_le (Heap.lt_size e) hCle)) (Heap.get?_push_of_some _ (hH2▸Heap.get?_push_of_some _ e));have hacc:h₁.get? s2.heap.objs.size=some { cls:=.type "list",data:=.seq ([]:List Value).toArray }:=hsb₁.extBut _ _ hDC (Heap.get?_push_of_some _ (hH2▸Heap.get?_push_size _ rfl))
 have hfl:∀ b∈fp,b < s2.heap.objs.size:=fun b hb=>by
   obtain⟨o,e,_⟩:=T.obj _ _ st2 b hb;exact Heap.lt_size e
 have fD:H2 s2.heap.objs.size=none:=I2.hok.fresh (Nat.le_refl _);obtain⟨W,⟨m0,w0⟩,turn⟩:=hD _ fD
 have IX:Inv (qF X scope N cl P2.objs.size s2 H2 fp (X.pn++pins)) [] (st0 js σ) (upd H2 s2.heap.objs.size (.lst [])) { s2 with heap:=h₁,toks:=s2.toks+([]:List (Str×Value)).length } :=
   Jy k I2 f2 hfl (Nat.le_refl _) hCle hDC hns₁ hacc old
 have hg':=hg P2.objs.size s2 H2 fp (X.pn++pins);have ht':=ht P2.objs.size s2 H2 fp (X.pn++pins);have he':=he P2.objs.size s2 H2 fp (X.pn++pins)
 have stat:∀ {H':Hp},(∀ b∈fp,H' b=none)->∀ b∈fp,JC (qF X scope N cl P2.objs.size s2 H2 fp (X.pn++pins)) [] H' b:=fun hn b hb=>by
   obtain⟨g0,g1,g2,g3,g4,g5⟩:=f2 b hb;refine⟨hn b hb,Nat.ne_of_lt (Nat.lt_of_lt_of_le (hfl b hb) hCle),fun z=>?_,.inl hb,fun x c h=>g4 x c (k.sub _ _ h),fun p hp=>g5 p (by simpa[qF] using hp)⟩;rcases List.mem_cons.mp (I2.stkSub b z) with e|e
   · exact g1 e
   · exact g2 e
 have loop:∀ s₃:Shared,s₃={ s2 with heap:=h₁,toks:=s2.toks+([]:List (Str×Value)).length } ->
     codeAny (model X.prog X.w) X.A (.compLoop (.ListComp elt [⟨tg,iter,ifs,0⟩] scope pos) 0 (.ref it) (.ref s2.heap.objs.size) (compEnvC scope cl P2.objs.size X.env))
       (compPost (model X.prog X.w) X.A X.xe none (EP X pins σ Q) (.ref s2.heap.objs.size) P2.objs.size) s₃:=by
   rintro s₃ rfl;refine Q3 (fun n s'=>∃ i σ' H',Inv (qF X scope N cl P2.objs.size s2 H2 fp (X.pn++pins)) [] σ' H' s'∧tn i s'.heap∧(∀ b∈fp,H' b=none)∧W i n σ' H') ?_ m0
     ⟨0,st0 js σ,_,IX,T.keep _ _ _ st2 (fun b hb o e=>old b o e),fun b hb=>by rw[qi (Nat.ne_of_lt (hfl b hb))];exact(f2 b hb).1,w0⟩
   rintro n s3 ⟨i,σ3,H3,I3,st3,fr3,w3⟩;rcases turn i n σ3 H3 w3 with ⟨stop,qn⟩|⟨go,N2,hN,step⟩
   · refine thn (T.done (qF X scope N cl P2.objs.size s2 H2 fp (X.pn++pins)) rfl rfl rfl hc i [] s3 σ3 H3 noE I3 (stat fr3) st3 stop) fun r s4 ⟨hr,I4⟩=>?_;subst hr;obtain⟨m4,hn4,_⟩:=id I4.loc;refine⟨m4,hn4,fun h' hsb=>⟨.ref s2.heap.objs.size,H3,?_,rfl,qn⟩⟩;have u4:Un (frs X.stack) fp H2 H3 s2.heap s4.heap:=I4.base;have ltC:∀ b o,s2.heap.get? b=some o->b≠P2.objs.size:=fun b o e=>Nat.ne_of_lt (Nat.lt_of_lt_of_le (Heap.lt_size e) hCle)
     have u5:Un (frs X.stack) fp H2 H3 s2.heap h' :=
       { keep:=fun b o e n hb hx=>hsb.extBut b o (ltC b o e) (u4.keep b o e n hb hx)
         slot:=fun b o e n hb hx=>by
           obtain⟨sl,q⟩:=u4.slot b o e n hb hx;exact⟨sl,hsb.extBut b _ (ltC b o e) q⟩
         free:=u4.free
         there:=fun b o e hx=>by
           obtain⟨o',q⟩:=u4.there b o e hx;exact⟨o',hsb.extBut b _ (ltC b o e) q⟩
         tups:=u4.tups
         frzs:=u4.frzs
         tbls:=u4.tbls }
     have fC:H3 P2.objs.size=none:=I4.free
     have hok5:HOk X.prog X.w H3 h':=fun b u e=>(I4.hok b u e).stay (fun c v hc' q=>hsb.extBut c v (fun z=>by
       rcases hc' with y|y
       · rw[y]at z;rw[z,fC]at e;cases e
       · rw[z,fC]at y;cases y) q) (fun _ q=>q) fun _ _ q=>q
     exact I2.call' (s':={ s4 with heap:=h' }) I4.os u5 hok5 I4.bare fun b hb=>by
       obtain⟨g0,g1,g2,g3,g4,g5⟩:=f2 b hb;exact⟨g3,g1,g4,g5⟩
   · refine thn (T.item (qF X scope N cl P2.objs.size s2 H2 fp (X.pn++pins)) rfl rfl rfl hc i [] s3 σ3 H3 noE I3 (stat fr3) st3 go) fun r s4 ⟨u,hr,h4⟩=>?_;subst hr;refine thn h4 fun _ s5 zz_=>?_;obtain⟨x,H5,I5,r5,y5,st5,fr5⟩:=zz_;have I5':=I5.pinned (stat fr5) (T.obj _ _ st5);refine thn (hg' _ s5 σ3 H5 x u _ I5' r5 (step x H5 y5)) fun _ s6 zz_=>?_;obtain⟨σ6,H6,I6,q6⟩:=zz_;refine thn (ht' _ s6 σ6 H6 _ I6 q6) fun ok s7 zz_=>?_;obtain⟨H7,I7,q7⟩:=zz_;have again:∀ {s8:Shared}{σ8:St}{H8:Hp},Inv (qF X scope N cl P2.objs.size s2 H2 fp (X.pn++pins)) ([]++Zh fp s5.heap) σ8 H8 s8->N2 σ8 H8 ->
         ∃ m,m < n∧∃ i σ' H',Inv (qF X scope N cl P2.objs.size s2 H2 fp (X.pn++pins)) [] σ' H' s8∧tn i s8.heap∧(∀ b∈fp,H' b=none)∧W i m σ' H':=fun {s8 σ8 H8} I8 n8=>by
       obtain⟨m',hm,w8⟩:=hN σ8 H8 n8;refine⟨m',hm,i+1,σ8,H8,I8.unpinned,T.keep _ _ _ st5 fun b hb o e=>(I8.pin (b,o) (List.mem_append_right _ (List.mem_append_right _ (qO hb e)))).1,fun b hb=>?_,w8⟩;obtain⟨o,e,d⟩:=T.obj _ _ st5 b hb;exact(I8.pin (b,o) (List.mem_append_right _ (List.mem_append_right _ (qO hb e)))).2.1
     cases ok with
     | false=>exact again I7 (by simpa using q7)
     | true =>
       have q7':te σ6 H7 fun y H5=>∃ ys,H5 s2.heap.objs.size=some (.lst ys)∧ys.length < sizeLine∧N2 σ6 (upd H5 s2.heap.objs.size (.lst (ys++[y]))):=by simpa using q7
       refine thn (he' _ s7 σ6 H7 _ I7 q7') fun xv s8 zz_=>?_;obtain⟨y,H8,I8,r8,ys,hy,hlen,n8⟩:=zz_;refine thn (qX (X:=qF X scope N cl P2.objs.size s2 H2 fp (X.pn++pins)) _ s8 σ6 H8 (.ref s2.heap.objs.size) [y] (.ref s2.heap.objs.size) [xv] (fun _ H9=>N2 σ6 H9) I8 rfl (.cons r8 .nil) ⟨_,ys,y,rfl,rfl,hy,hlen,n8⟩) fun _ s9 ⟨_,H9,I9,_,n9⟩=>again I9 n9
 exact codeAny_compStart_list (loop _ rfl) (T.self _ 0 _ _ _ (T.keep _ _ _ st2 (fun b hb o e=>old b o e)) (loop _ rfl))
end
theorem qQ {K:Frag}{a:Addr}{xs:List V}{g:TG}{tt:TT}{te:TE}{D:Addr}{Q:VK}{σ:St}{H:Hp} (Pv:Nat->St->Hp->Prop) (h0:Pv 0 σ H) (hl:∀ i σ H,i≤xs.length->Pv i σ H->SqL K H a xs)
   (hs:∀ i x σ H,xs[i]?=some x->Pv i σ H->g x σ H fun σ3 H3=>tt σ3 H3 fun ok H4=>if ok=true then te σ3 H4 fun y H5=>∃ ys,H5 D=some (.lst ys)∧ys.length < sizeLine∧Pv (i+1) σ3 (upd H5 D (.lst (ys++[y]))) else Pv (i+1) σ3 H4)
   (hd:∀ σ H,Pv xs.length σ H->Q (.ref D) H) :
   ZK (Itl K a) g tt te D Q σ H:=by
 refine⟨fun i m σ H=>m=xs.length - i∧i≤xs.length∧Pv i σ H,⟨xs.length,by simp,Nat.zero_le _,h0⟩,?_⟩;rintro i m σ H ⟨rfl,hi,p⟩;have q:=hl i σ H hi p;by_cases hlt:i < xs.length
 · refine .inr ⟨⟨xs,xs[i],q,by simp[hlt]⟩,Pv (i+1),fun σ' H' p'=>⟨xs.length - (i+1),by omega,rfl,hlt,p'⟩,fun v H' y=>?_⟩;obtain⟨e,y⟩:=y;subst e;exact hs i v σ _ (y xs q) p
 · have e:i=xs.length:=by omega
   subst e;exact .inl ⟨⟨xs,q,Nat.le_refl _⟩,hd σ H p⟩
section
variable {X:Cx}
def qed:V->Option Int->Option Int->Hp->VK->Prop:=fun x lo hi H Q=>∃ z,x=.str z∧z.length≤sizeLine∧Q (.str (Txt.slice z lo hi)) H
theorem qc3:SlR X qed:=by
 intro pins s σ H x v vl vu lo hi sl Q I rx hs pl pu h;obtain⟨z,rfl,hz,q⟩:=h;obtain⟨t,rfl⟩:=rx;refine⟨"str",_,F.slot_str_getitem.lookup,typeIs_str _ _ _,?_⟩;have fin:∀ t' k,EP X pins σ Q (.str (Txt.slice z lo hi) t') { s with toks:=k }:=fun t' k=>⟨.str _,H,I.tok k,⟨_,rfl⟩,q⟩
 obtain⟨o,e1,e2,e3⟩:=hs
 cases pl with
 | none =>
   cases pu with
   | none=>exact wpAny_getItem_str_slice (l:=none) (u:=none) (st:=none) ⟨o,e1,e2,e3⟩ rfl (post_val_or_str ⟨Nat.le_trans (Txt.slice_le z _ _) hz,fin⟩)
   | int j u=>exact wpAny_getItem_str_slice (l:=none) (u:=some (j,u)) (st:=none) ⟨o,e1,e2,e3⟩ rfl (post_val_or_str ⟨Nat.le_trans (Txt.slice_le z _ _) hz,fin⟩)
 | int i ui =>
   cases pu with
   | none=>exact wpAny_getItem_str_slice (l:=some (i,ui)) (u:=none) (st:=none) ⟨o,e1,e2,e3⟩ rfl (post_val_or_str ⟨Nat.le_trans (Txt.slice_le z _ _) hz,fin⟩)
   | int j u=>exact wpAny_getItem_str_slice (l:=some (i,ui)) (u:=some (j,u)) (st:=none) ⟨o,e1,e2,e3⟩ rfl (post_val_or_str ⟨Nat.le_trans (Txt.slice_le z _ _) hz,fin⟩)
theorem uSl:SlR X (fun x lo hi H Q=>qee X.K x lo hi H Q∨qed x lo hi H Q):=sl_list.or qc3
end
def Qg (cells:List (Str×Addr)):List (Str×NameKind)->List (Str×Addr)->List (Str×Addr)
 | [],acc=>acc
 | (n,k)::r,acc=>Qg cells r (if k == .free then (n,(cells.lookup n).getD 0)::acc else acc)
def qcd (env:Env) (x:Str×NameKind) (cs:List (Str×Addr)):Sem (ForInStep (List (Str×Addr))):=match x with
 | (name,kind)=>if (kind == NameKind.free)=true then (do let a ← cellOf env name;pure (ForInStep.yield ((name,a)::cs))) else pure (ForInStep.yield cs)
theorem qaT {env:Env}{n:Str}{k:NameKind}{acc:List (Str×Addr)} (h:k=.free->∃ c,env.cells.lookup n=some c) :
   qcd env (n,k) acc=pure (ForInStep.yield (if k == .free then (n,(env.cells.lookup n).getD 0)::acc else acc)):=by
 by_cases hk:k=.free
 · subst hk;obtain⟨c,hc⟩:=h rfl;show (do let a ← cellOf env n;pure (ForInStep.yield ((n,a)::acc)))=(pure (ForInStep.yield ((n,(env.cells.lookup n).getD 0)::acc)):Sem _);unfold cellOf;rw[hc];rfl
 · cases k<;>first|exact absurd rfl hk|rfl
theorem Zm {env:Env}:∀ (names:List (Str×NameKind)) (acc:List (Str×Addr)),(∀ y∈names,y.2=.free->∃ c,env.cells.lookup y.1=some c) ->
   (forIn names acc (qcd env))=(pure (Qg env.cells names acc):Sem (List (Str×Addr)))
 | [],acc,_=>rfl
 | (n,k)::r,acc,h=>by
   rw[List.forIn_cons,qaT fun e=>h (n,k) List.mem_cons_self e];exact Zm (env:=env) r _ fun y hy=>h y (List.mem_cons_of_mem _ hy)
theorem JS {scope:Scope}{env:Env} (h:∀ y∈scope.names,y.2=.free->∃ c,env.cells.lookup y.1=some c):closureFor scope env=pure (Qg env.cells scope.names []):=by
 unfold closureFor;exact(congrArg (fun (m:Sem (List (Str×Addr)))=>m >>= fun cs=>pure cs) (Zm (env:=env) scope.names [] h)).trans rfl
theorem qU {cells:List (Str×Addr)}{x:Str}:∀ (names:List (Str×NameKind)) (acc:List (Str×Addr)),(∀ y∈names,y.2=.free->∃ c,cells.lookup y.1=some c)->(∀ c,acc.lookup x=some c->cells.lookup x=some c) ->
   (∀ c,(Qg cells names acc).lookup x=some c->cells.lookup x=some c)∧(((x,NameKind.free)∈names∨(acc.lookup x).isSome=true)->((Qg cells names acc).lookup x).isSome=true)
 | [],acc,_,ha=>⟨ha,fun h=>h.elim (fun z=>nomatch z) id⟩
 | (n,k)::r,acc,h,ha=>by
   unfold Qg;have hr:∀ y∈r,y.2=.free->∃ c,cells.lookup y.1=some c:=fun y hy=>h y (List.mem_cons_of_mem _ hy)
   cases hk:(k == NameKind.free) with
   | false =>
     obtain⟨i1,i2⟩:=qU (cells:=cells) (x:=x) r acc hr ha;refine⟨by simpa using i1,fun z=>?_⟩
     have:((Qg cells r acc).lookup x).isSome=true:=i2 (by
       rcases z with z|z
       · rcases List.mem_cons.mp z with e|e
         · cases e;cases hk
         · exact .inl e
       · exact .inr z)
     simpa using this
   | true =>
     obtain⟨c,hc⟩:=h (n,k) List.mem_cons_self (by simpa using hk);have hc:cells.lookup n=some c:=hc;have ek:k=NameKind.free:=by simpa using hk
     subst ek
     have ha':∀ c',((n,(cells.lookup n).getD 0)::acc).lookup x=some c'->cells.lookup x=some c':=fun c' z=>by
       rw[List.lookup_cons]at z
       cases e:x == n with
       | true =>
         rw[e]at z;have e':x=n:=by simpa using e
         rw[e',hc]at *;simpa using z
       | false=>rw[e]at z;exact ha c' z
     obtain⟨i1,i2⟩:=qU (cells:=cells) (x:=x) r _ hr ha';refine⟨i1,fun z=>i2 ?_⟩;by_cases e:x=n
     · right;rw[List.lookup_cons,e];simp
     · rcases z with z|z
       · rcases List.mem_cons.mp z with q|q
         · cases q;exact absurd rfl e
         · exact .inl q
       · right;rw[List.lookup_cons]
         have:(x == n)=false:=by simpa using e
         rw[this];exact z
theorem zM {x:Str}{k:NameKind}:∀ {names:List (Str×NameKind)},names.lookup x=some k->(x,k)∈names
 | [],h=>by cases h
 | (n,j)::r,h=>by
   rw[List.lookup_cons]at h
   cases e:x == n with
   | true =>
     rw[e]at h;have e':x=n:=by simpa using e
     cases h;rw[e'];exact List.mem_cons_self
   | false=>rw[e]at h;exact List.mem_cons_of_mem _ (zM h)
theorem QP {scope:Scope}{env:Env}{x:Str}{k:NameKind} (h:(x,k)∈(relabel scope env).names):(x,k)∈scope.names∨(k=.cell∧(x,NameKind.free)∈scope.names):=by
 have h':(x,k)∈scope.names.map fun (n,k)=>if (k == .free && env.scope.kind == .function && env.kindOf n == some .cell) then (n,.cell) else (n,k):=h
 obtain⟨⟨n,j⟩,hm,e⟩:=List.mem_map.mp h';simp only at e;split at e
 · rename_i c
   cases e
   have:j=.free:=by
     have c1:=(Bool.and_eq_true_iff.mp (Bool.and_eq_true_iff.mp c).1).1;simpa using c1
   subst this;exact .inr ⟨rfl,hm⟩
 · cases e;exact .inl hm
theorem qZ {env:Env}{x:Str} (hX:env.scope.kind=.function) (g3:env.kindOf x=some .cell):∀ {names:List (Str×NameKind)},names.lookup x=some .free ->
   (names.map fun (n,k)=>if (k == NameKind.free && env.scope.kind == .function && env.kindOf n == some .cell) then (n,NameKind.cell) else (n,k)).lookup x=some .cell
 | [],h=>by cases h
 | (n,k)::r,h=>by
   have ih:=qZ hX g3 (names:=r);show List.lookup x ((if (k == NameKind.free && env.scope.kind == .function && env.kindOf n == some .cell)=true then (n,NameKind.cell) else (n,k))::_)=_;rw[List.lookup_cons]at h
   cases e:x == n with
   | true =>
     rw[e]at h;have e':x=n:=by simpa using e
     have ek:k=.free:=by simpa using h
     rw[ek,← e',if_pos (show (NameKind.free == NameKind.free && env.scope.kind == .function && env.kindOf x == some .cell)=true by rw[hX,g3];decide),List.lookup_cons];simp
   | false =>
     rw[e]at h;by_cases hc:(k == NameKind.free && env.scope.kind == .function && env.kindOf n == some .cell)=true
     · rw[if_pos hc,List.lookup_cons,e];exact ih h
     · rw[if_neg hc,List.lookup_cons,e];exact ih h
theorem CompOk.of {X:Cx}{scope:Scope}{N:List Str}{js:List (Option Nat)} (hkind:scope.kind=.function) (hcell:∀ y∈scope.names,y.2≠.cell) (hnames:∀ y∈scope.names,y.2=.local->scope.names.lookup y.1=some .local)
   (hX:X.env.scope.kind=.function) (hfree:∀ y∈scope.names,y.2=.free->X.env.kindOf y.1=some .cell∧∃ c,X.env.cells.lookup y.1=some c) (len:js.length=N.length)
   (hfr:∀ (i j:Nat) (x:Str),js[i]?=some (some j)->N[i]?=some x->X.N[j]?=some x∧scope.names.lookup x=some .free) :
   CompOk X scope N (Qg X.env.cells scope.names []) js where
 clos:=JS fun y hy z=>(hfree y hy z).2
 sub:=fun x c h=>(qU scope.names [] (fun y hy z=>(hfree y hy z).2) (fun c h=>by cases h)).1 c h
 all:=fun x h=>by
   have hm:(x,NameKind.free)∈scope.names:=by
     rcases h with h|h
     · rcases QP (zM h) with z|⟨_,z⟩
       · exact absurd rfl (hcell _ z)
       · exact z
     · rcases QP (zM h) with z|⟨e,_⟩
       · exact z
       · cases e
   have:=(qU (cells:=X.env.cells) (x:=x) scope.names [] (fun y hy z=>(hfree y hy z).2) (fun c h=>by cases h)).2 (.inl hm)
   exact Option.isSome_iff_exists.mp this
 cell:=hcell
 kind:=hkind
 names:=hnames
 len:=len
 fr:=fun i j x h1 h2=>by
   obtain⟨g1,g2⟩:=hfr i j x h1 h2;obtain⟨g3,_⟩:=hfree (x,.free) (zM g2) rfl;refine⟨g1,g3,.inl ?_⟩;exact qZ hX g3 g2
def qdu (sc:Scope) (N0 N:List Str) (js:List (Option Nat)):Bool:=(js.zip N).all fun p=>match p.1 with
 | none=>true
 | some j=>N0[j]? == some p.2 && sc.names.lookup p.2 == some .free
theorem qbA {sc:Scope}{N0:List Str}:∀ {js:List (Option Nat)}{N:List Str},qdu sc N0 N js=true->∀ (i j:Nat) (x:Str),js[i]?=some (some j)->N[i]?=some x->N0[j]?=some x∧sc.names.lookup x=some .free:=by
 intro js N h i j x h1 h2
 have hm:(some j,x)∈js.zip N:=by
   refine List.mem_of_getElem? (i:=i) ?_;rw[List.getElem?_zip_eq_some];exact⟨h1,h2⟩
 have:=List.all_eq_true.mp h _ hm
 simpa using this
theorem CompOk.def {CX:CXT}{P:Program}{w:World}{K:Frag}{mg:Str->Option Value}{base:Heap}{N0:List Str}{qual:Str}{sc0:Scope}{f:Addr}{cd:Value}{A:Around}{outer:List Env}{s:Shared}{H:Hp}{E:XK}{scope:Scope}
   (N:List Str) (js:List (Option Nat)) (hk0:sc0.kind=.function:=by rfl) (hk:scope.kind=.function:=by rfl) (hcell:∀ y∈scope.names,y.2≠.cell:=by decide +kernel) (hnames:∀ y∈scope.names,y.2=.local->scope.names.lookup y.1=some .local:=by decide +kernel)
   (hfr0:∀ y∈scope.names,y.2=.free->sc0.names.lookup y.1=some .cell:=by decide +kernel) (len:js.length=N.length:=by rfl) (hfr:qdu scope N0 N js=true:=by decide +kernel) :
   CompOk (Qx CX P w K mg base N0 qual sc0 f cd A outer s H E).nox scope N (Qg (Qx CX P w K mg base N0 qual sc0 f cd A outer s H E).nox.env.cells scope.names []) js :=
 CompOk.of hk hcell hnames hk0 (fun y hy z=>⟨hfr0 y hy z,Option.isSome_iff_exists.mp (PySem.W.cellsFrom_some _ _ _ (.inl (hfr0 y hy z)))⟩) len (qbA hfr)
section
variable {prog:Program}{w:World}{A:Around}{E:Value->Shared->Prop}{s:Shared}
theorem qbm {j u:Addr}{k:Nat}{xs:Array Value}{x:Value}{Q:Value->Shared->Prop} (a:s.heap.IsTupleIter j u k) (b:s.heap.IsTuple u xs) (e:xs[k]?=some x)
   (q:∀ h',h'.IsTupleIter j u (k+1)->Heap.SameBut j s.heap h'->Q x { s with heap:=h' }):wpAny (model prog w) A (Builtin.SmallTypes.nextOf (.ref j)) Q E s:=by
 obtain⟨oj,gj,cj,dj⟩:=id a;obtain⟨ou,gu,_,nu,du⟩:=b;unfold Builtin.SmallTypes.nextOf;refine wpAny_bind (wpAny_callSpecial?_slot (name:=Str.ofString "__next__") a.typeIs F.slot_tuple_iterator_next (wpAny_call_entry F.slot_tuple_iterator_next a.typeIs F.entry_tuple_iterator_next ?_ (F.args_tuple_iterator_next_1 _)));show wpAny _ _ (field (.ref j) 0 >>= _) _ _ s;refine wpAny_bind (wpAny_field gj dj (x:=.ref u) rfl ?_);show wpAny _ _ (if (Value.ref u == Value.none)=true then _ else _) _ _ s;rw[if_neg (show ¬ ((Value.ref u == Value.none)=true) from Bool.false_ne_true)];show wpAny _ _ (field (.ref j) 1 >>= _) _ _ s;refine wpAny_bind (wpAny_field gj dj (x:=.int k 0) rfl ?_);show wpAny _ _ (seqItems? (.ref u) >>= _) _ _ s;refine wpAny_bind (wpAny_seqItems gu du ?_);simp only[Int.toNat_natCast,e];refine wpAny_bind (wpAny_setField gj dj (by simp) (wpAny_pure ⟨x,rfl,wpAny_pure (q _ ?_ (Heap.SameBut.update ..))⟩));refine⟨_,Heap.get?_update_self _ gj (Obj.isFreed_of_fields (Obj.data_mapFields dj _)),(Obj.cls_mapFields ..).trans cj,?_⟩;rw[Obj.data_mapFields dj];simp[rawInt]
theorem qcE {j u:Addr}{k:Nat}{xs:Array Value}{Q:Value->Shared->Prop} (hd:A.handled=none) (a:s.heap.IsTupleIter j u k) (b:s.heap.IsTuple u xs) (e:xs[k]?=none)
   (q:∀ h' z,Heap.ExtBut j s.heap h'->(∃ o,h'.get? z=some o∧o.cls=.type "StopIteration")->E (.ref z) { s with heap:=h' }):wpAny (model prog w) A (Builtin.SmallTypes.nextOf (.ref j)) Q E s:=by
 obtain⟨oj,gj,cj,dj⟩:=id a;obtain⟨ou,gu,_,nu,du⟩:=b;unfold Builtin.SmallTypes.nextOf;refine wpAny_bind (wpAny_callSpecial?_slot (name:=Str.ofString "__next__") a.typeIs F.slot_tuple_iterator_next (wpAny_call_entry F.slot_tuple_iterator_next a.typeIs F.entry_tuple_iterator_next ?_ (F.args_tuple_iterator_next_1 _)));show wpAny _ _ (field (.ref j) 0 >>= _) _ _ s;refine wpAny_bind (wpAny_field gj dj (x:=.ref u) rfl ?_);show wpAny _ _ (if (Value.ref u == Value.none)=true then _ else _) _ _ s;rw[if_neg (show ¬ ((Value.ref u == Value.none)=true) from Bool.false_ne_true)];show wpAny _ _ (field (.ref j) 1 >>= _) _ _ s;refine wpAny_bind (wpAny_field gj dj (x:=.int k 0) rfl ?_);show wpAny _ _ (seqItems? (.ref u) >>= _) _ _ s;refine wpAny_bind (wpAny_seqItems gu du ?_);simp only[Int.toNat_natCast,e];refine wpAny_bind (wpAny_rule (wpAny_bind (wpAny_setField gj dj (by simp) ?_)));show wpAny _ _ (newExc (.type "StopIteration") [] >>= _) _ _ { s with heap:=_ };refine wpAny_bind ?_;simp only[newExc,newTuple];refine wpAny_bind (wpAny_newObj_type ?_ (by size_fits));refine wpAny_bind (m:=firstArgMember _ _) (wpAny_of_eq (a:=Value.none) (by first|rfl|(simp only[firstArgMember];rfl)) (wpAny_newObj_type ?_ (by size_fits)));simp only[raiseNew];refine wpAny_bind (wpAny_handled ?_)
 first|rw[show A.in1.handled=none from hd]|rw[hd]
 exact wpAny_bind (wpAny_pure (wpAny_throw (q _ _ (((Heap.SameBut.update ..).extBut.push _).push _) ⟨_,Heap.get?_push_size _ rfl,rfl⟩)))
def itK:Bool->Heap->Addr->Addr->Nat->Prop
 | false,h,j,u,k=>h.IsListIter j u k
 | true,h,j,u,k=>h.IsTupleIter j u k
def sqK:Bool->Heap->Addr->Array Value->Prop
 | false,h,u,xs=>h.IsList u xs
 | true,h,u,xs=>h.IsTuple u xs
theorem itK.at {t:Bool}{h h':Heap}{j u:Addr}{k:Nat} (x:itK t h j u k) (e:∀ o,h.get? j=some o->h'.get? j=some o):itK t h' j u k:=by
 cases t with
 | false=>exact Heap.IsListIter.at x e
 | true=>obtain⟨o,g,r⟩:=x;exact⟨o,e o g,r⟩
theorem sqK.at {t:Bool}{h h':Heap}{u:Addr}{xs:Array Value} (x:sqK t h u xs) (e:∀ o,h.get? u=some o->h'.get? u=some o):sqK t h' u xs:=by
 cases t with
 | false=>exact Heap.IsList.at x e
 | true=>obtain⟨o,g,r⟩:=x;exact⟨o,e o g,r⟩
theorem Jr {t:Bool}{j u:Addr}{k:Nat}{xs:Array Value}{x:Value}{Q:Value->Shared->Prop} (a:itK t s.heap j u k) (b:sqK t s.heap u xs) (e:xs[k]?=some x)
   (q:∀ h',itK t h' j u (k+1)->Heap.SameBut j s.heap h'->Q x { s with heap:=h' }):wpAny (model prog w) A (Builtin.SmallTypes.nextOf (.ref j)) Q E s:=by
 cases t with
 | false=>exact wpAny_nextOf_list_item a b e q
 | true=>exact qbm a b e q
theorem qcF {t:Bool}{j u:Addr}{k:Nat}{xs:Array Value}{Q:Value->Shared->Prop} (hd:A.handled=none) (a:itK t s.heap j u k) (b:sqK t s.heap u xs) (e:xs[k]?=none)
   (q:∀ h' z,Heap.ExtBut j s.heap h'->(∃ o,h'.get? z=some o∧o.cls=.type "StopIteration")->E (.ref z) { s with heap:=h' }):wpAny (model prog w) A (Builtin.SmallTypes.nextOf (.ref j)) Q E s:=by
 cases t with
 | false=>exact wpAny_nextOf_list_end hd a b e q
 | true=>exact qcE hd a b e q
theorem qci {t:Bool}{z TI TO i1 i2 l1 l2:Addr}{k:Nat}{xs ys:Array Value}{x y a b:Value}{Q:Value->Shared->Prop} (D:ZipApart z TI TO i1 i2 l1 l2)
   (gz:IsZip s.heap z TI TO .none) (gI:IsPair s.heap TI (.ref i1) (.ref i2)) (gO:IsPair s.heap TO a b) (j1:itK t s.heap i1 l1 k) (j2:itK t s.heap i2 l2 k) (m1:sqK t s.heap l1 xs) (m2:sqK t s.heap l2 ys) (ex:xs[k]?=some x) (ey:ys[k]?=some y)
   (q:∀ h',IsZip h' z TI TO (rawInt s.heap.objs.size)->IsPair h' TO x y->itK t h' i1 l1 (k+1)->itK t h' i2 l2 (k+1)->IsPair h' s.heap.objs.size x y ->
     (∀ c o,c≠z->c≠TO->c≠i1->c≠i2->s.heap.get? c=some o->h'.get? c=some o)->Q (.ref s.heap.objs.size) { s with heap:=h' }) :
   wpAny (model prog w) A (Builtin.«zip.__next__» ⟨[.ref z],[]⟩) (fun fin s'=>∃ v,fin=.done (.ret v)∧Q v s') E s:=by
 show wpAny _ _ (field (.ref z) 2 >>= _) _ _ s;refine wpAny_bind (wpAny_field gz rfl (x:=.bool false) rfl ?_);show wpAny _ _ (field (.ref z) 3 >>= _) _ _ s;refine wpAny_bind (wpAny_field gz rfl (x:=.ref TI) rfl (wpAny_bind (wpAny_seqItems gI rfl ?_)));show wpAny _ _ (Builtin.SmallTypes.ownedTupleIsFree (.ref z) >>= _) _ _ s;refine wpAny_bind ?_;unfold Builtin.SmallTypes.ownedTupleIsFree;refine wpAny_bind (wpAny_field gz rfl (x:=.none) rfl (wpAny_pure ?_));simp only[if_true];refine wpAny_bind (wpAny_rule (wpAny_bind (wpAny_field gz rfl (x:=.ref TO) rfl (wpAny_bind (wpAny_setField_rec gz (by simp) fun g1 z1 n1=>?_)))));replace z1:IsZip g1 z TI TO .ellipsis:=z1;refine wpAny_bind ?_;simp only[List.zipIdx_cons,List.zipIdx_nil,List.forIn_cons,List.forIn_nil];refine wpAny_bind (wpAny_bind (wpAny_onRaise ?_));show wpAny _ _ (Builtin.SmallTypes.nextOf (.ref i1) >>= _) _ _ { s with heap:=g1 };refine wpAny_bind (Jr (t:=t) (s:={ s with heap:=g1 }) (j1.at fun o e=>n1.extBut _ o D.i1z e) (m1.at fun o e=>n1.extBut _ o D.l1z e) ex fun g2 j12 n2=>wpAny_pure ?_);have O2:IsPair g2 TO a b:=n2.extBut _ _ D.TOi1 (n1.extBut _ _ D.TOz gO);refine wpAny_bind (wpAny_seqItems O2 rfl (wpAny_bind (wpAny_updateSeq_pair O2 fun g3 O3 n3=>?_)));replace O3:IsPair g3 TO x b:=O3;refine wpAny_bind (wpAny_letGo (wpAny_pure (wpAny_bind (wpAny_bind (wpAny_onRaise ?_)))));show wpAny _ _ (Builtin.SmallTypes.nextOf (.ref i2) >>= _) _ _ { s with heap:=g3 };have k3:∀ c o,c≠z->c≠i1->c≠TO->s.heap.get? c=some o->g3.get? c=some o:=fun c o c1 c2 c3 e=>n3.extBut _ _ c3 (n2.extBut _ _ c2 (n1.extBut _ _ c1 e));refine wpAny_bind (Jr (t:=t) (s:={ s with heap:=g3 }) (j2.at fun o e=>k3 _ o D.i2z D.i12.symm D.TOi2.symm e) (m2.at fun o e=>k3 _ o D.l2z D.l2i1 D.l2TO e) ey fun g4 j24 n4=>wpAny_pure ?_);have O4:IsPair g4 TO x b:=n4.extBut _ _ D.TOi2 O3;refine wpAny_bind (wpAny_seqItems O4 rfl (wpAny_bind (wpAny_updateSeq_pair O4 fun g5 O5 n5=>?_)));replace O5:IsPair g5 TO x y:=O5;refine wpAny_bind (wpAny_letGo (wpAny_pure (wpAny_pure (wpAny_bind (wpAny_seqItems O5 rfl (wpAny_bind (wpAny_newTuple ?_)))))));have sz:g5.objs.size=s.heap.objs.size:=by rw[n5.1,n4.1,n3.1,n2.1,n1.1]
 have z5:IsZip g5 z TI TO .ellipsis:=n5.extBut _ _ D.TOz.symm (n4.extBut _ _ D.i2z.symm (n3.extBut _ _ D.TOz.symm (n2.extBut _ _ D.i1z.symm z1)));have k5:∀ c o,c≠z->c≠TO->c≠i1->c≠i2->s.heap.get? c=some o->g5.get? c=some o:=fun c o c1 c2 c3 c4 e=>n5.extBut _ _ c2 (n4.extBut _ _ c4 (k3 c o c1 c3 c2 e));have p1:itK t g5 i1 l1 (k+1):=((j12.at fun o e=>n3.extBut _ o D.TOi1.symm e).at fun o e=>n4.extBut _ o D.i12 e).at fun o e=>n5.extBut _ o D.TOi1.symm e;have p2:itK t g5 i2 l2 (k+1):=j24.at fun o e=>n5.extBut _ o D.TOi2.symm e;have lz:z < g5.objs.size:=Heap.lt_size z5;show wpAny _ _ (Builtin.SmallTypes.ownedTupleHandOut (.ref z) (.ref g5.objs.size) >>= _) _ _ { s with heap:=_ };refine wpAny_bind ?_;unfold Builtin.SmallTypes.ownedTupleHandOut;have z6:IsZip (g5.push { cls:=.type "tuple",data:=.seq #[x,y] }) z TI TO .ellipsis:=Heap.get?_push_of_some _ z5;refine wpAny_bind (wpAny_setField_rec z6 (by simp) fun g7 z7 n7=>?_);replace z7:IsZip g7 z TI TO (rawInt g5.objs.size):=z7;refine wpAny_setField_rec z7 (by simp) fun g8 z8 n8=>?_;replace z8:IsZip g8 z TI TO (rawInt g5.objs.size):=z8;have up:∀ c o,c≠z->g5.get? c=some o->g8.get? c=some o:=fun c o c1 e=>n8.extBut _ _ c1 (n7.extBut _ _ c1 (Heap.get?_push_of_some _ e));have T8:IsPair g8 g5.objs.size x y:=n8.extBut _ _ (Nat.ne_of_gt lz) (n7.extBut _ _ (Nat.ne_of_gt lz) (Heap.get?_push_size _ rfl));rw[sz]at z8 T8;refine wpAny_pure ⟨_,rfl,?_⟩;show Q (.ref g5.objs.size) { s with heap:=g8 };rw[sz];exact q g8 z8 (up _ _ D.TOz O5) (p1.at fun o e=>up _ o D.i1z e) (p2.at fun o e=>up _ o D.i2z e) T8 fun c o c1 c2 c3 c4 e=>up c o c1 (k5 c o c1 c2 c3 c4 e)
theorem qbj {t:Bool}{z TI TO i1 i2 l1 l2:Addr}{k:Nat}{xs ys:Array Value}{x y a b:Value}{Q:Option Value->Shared->Prop} (D:ZipApart z TI TO i1 i2 l1 l2)
   (gz:IsZip s.heap z TI TO .none) (gI:IsPair s.heap TI (.ref i1) (.ref i2)) (gO:IsPair s.heap TO a b) (j1:itK t s.heap i1 l1 k) (j2:itK t s.heap i2 l2 k) (m1:sqK t s.heap l1 xs) (m2:sqK t s.heap l2 ys) (ex:xs[k]?=some x) (ey:ys[k]?=some y)
   (q:∀ h',IsZip h' z TI TO (rawInt s.heap.objs.size)->IsPair h' TO x y->itK t h' i1 l1 (k+1)->itK t h' i2 l2 (k+1)->IsPair h' s.heap.objs.size x y ->
     (∀ c o,c≠z->c≠TO->c≠i1->c≠i2->s.heap.get? c=some o->h'.get? c=some o)->Q (some (.ref s.heap.objs.size)) { s with heap:=h' }) :
   wpAny (model prog w) A (pyNext (.ref z)) Q E s:=by
 have T:s.TypeIs (.ref z) "zip":=⟨_,gz,rfl⟩
 unfold pyNext
 exact wpAny_bind (wpAny_attempt (wpAny_callSpecial?_slot (name:=Str.ofString "__next__") T F.slot_zip_next (wpAny_call_entry F.slot_zip_next T F.entry_zip_next
   (qci D gz gI gO j1 j2 m1 m2 ex ey fun h' c1 c2 c3 c4 c5 c6=>wpAny_pure (q h' c1 c2 c3 c4 c5 c6)) (F.args_zip_next_1 _))))
end
def itN:Bool->String
 | false=>"list_iterator"
 | true=>"tuple_iterator"
abbrev zk1 (t:Bool) (h:Heap) (u:Addr):Heap:=h.push { cls:=.type (itN t),data:=.fields #[.ref u,.int 0 0] }
abbrev zk3 (t:Bool) (h:Heap) (u v:Addr):Heap:=(zk1 t (zk1 t h u) v).push { cls:=.type "tuple",data:=.seq #[.ref h.objs.size,.ref (zk1 t h u).objs.size] }
abbrev zk4 (t:Bool) (h:Heap) (u v:Addr):Heap:=(zk3 t h u v).push { cls:=.type "tuple",data:=.seq #[.none,.none] }
abbrev zk5 (t:Bool) (h:Heap) (u v:Addr):Heap:=(zk4 t h u v).push { cls:=.type "zip",data:=.fields #[.none,.bool false,.bool false,.ref (zk1 t (zk1 t h u) v).objs.size,.ref (zk3 t h u v).objs.size] }
theorem qcV (t:Bool) (u v:Addr) (xs ys:Array Value):Meets (Builtin.«zip.__new__» ⟨[.type "zip",.ref u,.ref v],[]⟩) (fun _ R s=>sqK t s.heap u xs∧sqK t s.heap v ys ∧
     R (.ok (.ret (.ref (zk4 t s.heap u v).objs.size))) { s with heap:=zk5 t s.heap u v }) :=
 .of_wp fun prog w A R s h=>by
   obtain⟨hp,g,d,tk,os⟩:=s;obtain⟨m1,m2,h⟩:=h;have hsub:=sub_zip
   cases t with
   | false =>
     have L1:Heap.IsList (Shared.heap ⟨hp,g,d,tk,os⟩) u xs:=m1;have L2:Heap.IsList (Shared.heap ⟨hp.push { cls:=.type "list_iterator",data:=.fields #[.ref u,.int 0 0] },g,d,tk,os⟩) v ys:=Heap.IsList.push m2 _
     wp_walk using wpAny_pyIter_list L1,wpAny_pyIter_list L2
     exact⟨_,rfl,h⟩
   | true =>
     have L1:Heap.IsTuple (Shared.heap ⟨hp,g,d,tk,os⟩) u xs:=m1;have L2:Heap.IsTuple (Shared.heap ⟨hp.push { cls:=.type "tuple_iterator",data:=.fields #[.ref u,.int 0 0] },g,d,tk,os⟩) v ys:=Heap.IsTuple.push m2 _
     wp_walk using wpAny_pyIter_tuple L1,wpAny_pyIter_tuple L2
     exact⟨_,rfl,h⟩
section
variable {prog:Program}{w:World}{A:Around}{E:Value->Shared->Prop}{s:Shared}
theorem itK.new {t:Bool}{h:Heap}{j u:Addr} (g:h.get? j=some { cls:=.type (itN t),data:=.fields #[.ref u,.int 0 0] }):itK t h j u 0:=by
 cases t with
 | false=>exact⟨_,g,rfl,rfl⟩
 | true=>exact⟨_,g,rfl,rfl⟩
theorem qaV {t:Bool}{u v:Addr}{xs ys:Array Value}{Q:Value->Shared->Prop} (m1:sqK t s.heap u xs) (m2:sqK t s.heap v ys)
   (q:∀ h',IsZip h' (s.heap.objs.size+4) (s.heap.objs.size+2) (s.heap.objs.size+3) .none->IsPair h' (s.heap.objs.size+2) (.ref s.heap.objs.size) (.ref (s.heap.objs.size+1)) ->
     IsPair h' (s.heap.objs.size+3) .none .none->itK t h' s.heap.objs.size u 0->itK t h' (s.heap.objs.size+1) v 0->(∀ c o,s.heap.get? c=some o->h'.get? c=some o)->Q (.ref (s.heap.objs.size+4)) { s with heap:=h' }) :
   wpAny (model prog w) A (call (.type "zip") [.ref u,.ref v]) Q E s:=by
 refine callType_new F.called_zip (by decide) (F.typeCall_zip_2 _ _) (F.newCall_zip_2 _ _) (fun obj=>F.args_object_init_3 obj _ _) F.entry_zip_new (qcV t u v xs ys) ⟨m1,m2,?_⟩;have y1:(zk1 t s.heap u).objs.size=s.heap.objs.size+1:=Heap.size_push ..;have y2:(zk1 t (zk1 t s.heap u) v).objs.size=s.heap.objs.size+2:=by rw[Heap.size_push,y1]
 have y3:(zk3 t s.heap u v).objs.size=s.heap.objs.size+3:=by rw[Heap.size_push,y2]
 have y4:(zk4 t s.heap u v).objs.size=s.heap.objs.size+4:=by rw[Heap.size_push,y3]
 have f5:(zk5 t s.heap u v).get? (zk4 t s.heap u v).objs.size=some _:=Heap.get?_push_size _ rfl;have f4:(zk5 t s.heap u v).get? (zk3 t s.heap u v).objs.size=some _:=Heap.get?_push_of_some _ (Heap.get?_push_size _ rfl);have f3:(zk5 t s.heap u v).get? (zk1 t (zk1 t s.heap u) v).objs.size=some _:=Heap.get?_push_of_some _ (Heap.get?_push_of_some _ (Heap.get?_push_size _ rfl));have f2:(zk5 t s.heap u v).get? (zk1 t s.heap u).objs.size=some _:=Heap.get?_push_of_some _ (Heap.get?_push_of_some _ (Heap.get?_push_of_some _ (Heap.get?_push_size _ rfl)));have f1:(zk5 t s.heap u v).get? s.heap.objs.size=some _:=Heap.get?_push_of_some _ (Heap.get?_push_of_some _ (Heap.get?_push_of_some _ (Heap.get?_push_of_some _ (Heap.get?_push_size _ rfl))));show _∧_;rw[y2,y3,y4]at f5;rw[y1,y2]at f3;rw[y3]at f4;rw[y1]at f2;rw[y4];exact⟨⟨_,f5,rfl⟩,q _ f5 f3 f4 (.new f1) (.new f2) fun c o e=>Heap.get?_push_of_some _ (Heap.get?_push_of_some _ (Heap.get?_push_of_some _ (Heap.get?_push_of_some _ (Heap.get?_push_of_some _ e))))⟩
end
theorem qaX:bootBuiltins "zip"=some (.type "zip"):=by decide +kernel
theorem Same.put {G H:Hp}{p:Addr} (s:Same G H) (n:G p=none) (o:HO):Same G (upd H p o):=fun c u e=>by rw[qi (qf e n)];exact s c u e
theorem Same.none {G H:Hp}{p:Addr} (s:Same G H) (n:H p=none):G p=none:=by
 cases e:G p with
 | none=>rfl
 | some o=>rw[s p o e]at n;cases n
theorem But.none {H H':Hp}{p q:Addr} (b:But p H H') (n:H' q=none) (h:q≠p):H q=none:=by
 cases e:H q with
 | none=>rfl
 | some o=>rw[b q o e h]at n;cases n
theorem But.putN {H H':Hp}{p q:Addr} (b:But p H H') (n:H q=Option.none) (o:HO):But p H (upd H' q o):=fun c u e h=>by rw[qi (qf e n)];exact b c u e h
theorem Zv {α:Type}{xs:List α}{x y:α}{i:Nat} (h:(xs++[x])[i]?=some y):xs[i]?=some y∨(i=xs.length∧y=x):=by
 rw[List.getElem?_append]at h;by_cases hi:i < xs.length
 · rw[if_pos hi]at h;exact .inl h
 · rw[if_neg hi]at h
   have e:i - xs.length=0:=by
     cases n:i - xs.length with
     | zero=>rfl
     | succ k=>rw[n]at h;simp at h
   rw[e]at h;exact .inr ⟨by omega,by simpa using h.symm⟩
theorem ZL {xs:List V}{i:Int} (h0:0≤i) (h1:i < xs.length):∃ v,atI xs i=some v∧v∈xs:=by
 obtain⟨n,rfl⟩:=Int.eq_ofNat_of_zero_le h0;have hn:n < xs.length:=by omega
 exact⟨xs[n],zm (List.getElem?_eq_getElem hn),List.getElem_mem hn⟩
def qdB (K:Frag):List V->Hp->VK->Prop:=fun xs H Q=>∃ p ys,xs=[.ref p]∧(SqL K H p ys∨SqT K H p ys)∧∀ l,H l=none->Q (.ref l) (upd H l (.lst ys))
section
variable {X:Cx}
theorem qcw {i:Nat}{x:Str}{pos' pos:Pos}{elt iter tg:Expr}{ifs:List Expr}{scope:Scope}{cpos:Pos}{wi:TI}{g:TG}{tt:TT}{te:TE}{N:List Str}{cl:List (Str×Addr)}{js:List (Option Nat)} (hN:X.N.Nodup) (hi0:X.N[i]?=some x) (hx:Loc X.env.scope x)
   (hc:X.calm=true) (k:CompOk X scope N cl js) (hi:PI X tg iter wi)
   (hg:∀ C s₀ H₀ ex pn,PG (qF X scope N cl C s₀ H₀ ex pn) tg g) (ht:∀ C s₀ H₀ ex pn,PTs (qF X scope N cl C s₀ H₀ ex pn) ifs tt) (he:∀ C s₀ H₀ ex pn,PE (qF X scope N cl C s₀ H₀ ex pn) elt te)
   (hsw:swapsWith (.ListComp elt [⟨tg,iter,ifs,0⟩] scope cpos) (some (.Name x pos')) pos.line X.env=pure true:=by rfl)
   (hf:X.fn x=true∨X.env.scope.names.lookup x=some .local:=by first|exact .inl rfl|exact .inr rfl|assumption)
   (hs:∀ x,foldedSetIterable iter X.env x=pure x:=by intro _;rfl) :
   PS X (.Assign [.Name x pos'] (.ListComp elt [⟨tg,iter,ifs,0⟩] scope cpos) pos) (qc2 (qc0 wi g tt te js) (qbz i)):=by
 intro pins s σ H D0 I h;rw[exec_Assign_Name_used _ _ _ _ hsw];refine wpAny_bind (wpAny_standAt (wpAny_bind ?_));show wpAny _ X.A (do let _ ← comprehension (.ListComp elt [⟨tg,iter,ifs,0⟩] scope cpos) scope X.env _ (newList []) false (eval iter X.env) (some (assign (.Name x pos') X.env))) _ _ s;refine wpAny_bind (wpAny_mono (wpAny_comprehension_free (use:=some (assign (.Name x pos') X.env)) (Q:=fun _ s'=>∃ σ' H',Inv X pins σ' H' s'∧D0.nx σ' H') rfl hs k.clos k.kind k.names ?_) (fun _ s' hq=>wpAny_pure (wpAny_pure hq)) fun _ _ e=>e);refine thn (hi pins s σ H _ I h) fun v s1 h1=>thn h1 fun itv s2 h2=>?_;obtain⟨it,fp,tn,J,H2,e,I2,T,st2,f2,hD⟩:=h2;subst e;refine wpAny_newObj_type (wpAny_newFunctionEnv k.cell (by intro y hy;simp at hy) (fun h₁ hns₁ hsb₁=>?_) k.kind);dsimp only at hns₁ hsb₁ ⊢;generalize hH2:s2.heap.push { cls:=.type "list",dict:=none,data:=.seq ([]:List Value).toArray }=P2 at hns₁ hsb₁ ⊢;have hC:P2.objs.size=s2.heap.objs.size+1:=by rw[← hH2,Heap.size_push]
 have hDC:s2.heap.objs.size≠P2.objs.size:=by rw[hC];exact Nat.ne_of_lt (Nat.lt_succ_self _)
 have hCle:s2.heap.objs.size≤P2.objs.size:=by rw[hC];exact Nat.le_succ _
 have old:∀ b o,s2.heap.get? b=some o->h₁.get? b=some o:=fun b o e=>hsb₁.extBut b o (Nat.ne_of_lt (Nat.lt_of_lt_of_le (Heap.lt_size e) hCle)) (Heap.get?_push_of_some _ (hH2▸Heap.get?_push_of_some _ e));have hacc:h₁.get? s2.heap.objs.size=some { cls:=.type "list",data:=.seq ([]:List Value).toArray }:=hsb₁.extBut _ _ hDC (Heap.get?_push_of_some _ (hH2▸Heap.get?_push_size _ rfl))
 have hfl:∀ b∈fp,b < s2.heap.objs.size:=fun b hb=>by
   obtain⟨o,e,_⟩:=T.obj _ _ st2 b hb;exact Heap.lt_size e
 have fD:H2 s2.heap.objs.size=none:=I2.hok.fresh (Nat.le_refl _);obtain⟨W,⟨m0,w0⟩,turn⟩:=hD _ fD
 have IX:Inv (qF X scope N cl P2.objs.size s2 H2 fp (X.pn++pins)) [] (st0 js σ) (upd H2 s2.heap.objs.size (.lst [])) { s2 with heap:=h₁,toks:=s2.toks+([]:List (Str×Value)).length } :=
   Jy k I2 f2 hfl (Nat.le_refl _) hCle hDC hns₁ hacc old
 have hg':=hg P2.objs.size s2 H2 fp (X.pn++pins);have ht':=ht P2.objs.size s2 H2 fp (X.pn++pins);have he':=he P2.objs.size s2 H2 fp (X.pn++pins)
 have stat:∀ {H':Hp},(∀ b∈fp,H' b=none)->∀ b∈fp,JC (qF X scope N cl P2.objs.size s2 H2 fp (X.pn++pins)) [] H' b:=fun hn b hb=>by
   obtain⟨g0,g1,g2,g3,g4,g5⟩:=f2 b hb;refine⟨hn b hb,Nat.ne_of_lt (Nat.lt_of_lt_of_le (hfl b hb) hCle),fun z=>?_,.inl hb,fun x c h=>g4 x c (k.sub _ _ h),fun p hp=>g5 p (by simpa[qF] using hp)⟩;rcases List.mem_cons.mp (I2.stkSub b z) with e|e
   · exact g1 e
   · exact g2 e
 have loop:∀ s₃:Shared,s₃={ s2 with heap:=h₁,toks:=s2.toks+([]:List (Str×Value)).length } ->
     codeAny (model X.prog X.w) X.A (.compLoop (.ListComp elt [⟨tg,iter,ifs,0⟩] scope cpos) 0 (.ref it) (.ref s2.heap.objs.size) (compEnvC scope cl P2.objs.size X.env))
       (compPost (model X.prog X.w) X.A X.xe (some (assign (.Name x pos') X.env)) (fun _ s'=>∃ σ' H',Inv X pins σ' H' s'∧D0.nx σ' H') (.ref s2.heap.objs.size) P2.objs.size) s₃:=by
   rintro s₃ rfl;refine Q3 (fun n s'=>∃ i σ' H',Inv (qF X scope N cl P2.objs.size s2 H2 fp (X.pn++pins)) [] σ' H' s'∧tn i s'.heap∧(∀ b∈fp,H' b=none)∧W i n σ' H') ?_ m0
     ⟨0,st0 js σ,_,IX,T.keep _ _ _ st2 (fun b hb o e=>old b o e),fun b hb=>by rw[qi (Nat.ne_of_lt (hfl b hb))];exact(f2 b hb).1,w0⟩
   rintro n s3 ⟨i,σ3,H3,I3,st3,fr3,w3⟩;rcases turn i n σ3 H3 w3 with ⟨stop,qn⟩|⟨go,N2,hN,step⟩
   · refine thn (T.done (qF X scope N cl P2.objs.size s2 H2 fp (X.pn++pins)) rfl rfl rfl hc i [] s3 σ3 H3 noE I3 (stat fr3) st3 stop) fun r s4 ⟨hr,I4⟩=>?_;subst hr;obtain⟨m4,hn4,_⟩:=id I4.loc;have u4:Un (frs X.stack) fp H2 H3 s2.heap s4.heap:=I4.base;have fC:H3 P2.objs.size=none:=I4.free
     have I6:Inv X pins σ H3 s4:=I2.call' (s':=s4) I4.os u4 I4.hok I4.bare fun b hb=>by
       obtain⟨g0,g1,g2,g3,g4,g5⟩:=f2 b hb;exact⟨g3,g1,g4,g5⟩
     have fpC:JC X pins H3 P2.objs.size:=I2.fpOk hCle fC;have hn4':s4.heap.Ns P2.objs.size m4:=hn4;obtain⟨oC,esC,epC,gC,rC⟩:=id hn4';have I7:=I6.pinned (fp:=[P2.objs.size]) (fun b hb=>by rw[show b=P2.objs.size by simpa using hb];exact fpC) (fun b hb=>⟨oC,by rw[show b=P2.objs.size by simpa using hb];exact gC,fun v z=>by rw[rC.1]at z;cases z⟩);show wpAny _ X.A (assign (.Name x pos') X.env (.ref s2.heap.objs.size)) _ _ s4;refine wpAny_assign_Name (QC I7 hN hi0 hx (v:=.ref s2.heap.objs.size) rfl (fun s5 I8=>?_) hf);have g5:=(I8.pin (P2.objs.size,oC) (List.mem_append_right _ (List.mem_append_right _ (qO (by simp) gC)))).1;refine⟨m4,hn4'.at' (fun o e=>by rw[gC]at e;cases e;exact g5),fun h' hsb=>⟨_,H3,?_,qn⟩⟩;exact I8.unpinned.turnL (t':=s5.toks) (ch:=[P2.objs.size]) (fun b o hb e=>hsb.extBut b o (fun z=>hb (by simp[z])) e) (fun b hb=>by rw[show b=P2.objs.size by simpa using hb];exact fpC)
   · refine thn (T.item (qF X scope N cl P2.objs.size s2 H2 fp (X.pn++pins)) rfl rfl rfl hc i [] s3 σ3 H3 noE I3 (stat fr3) st3 go) fun r s4 ⟨u,hr,h4⟩=>?_;subst hr;refine thn h4 fun _ s5 zz_=>?_;obtain⟨x,H5,I5,r5,y5,st5,fr5⟩:=zz_;have I5':=I5.pinned (stat fr5) (T.obj _ _ st5);refine thn (hg' _ s5 σ3 H5 x u _ I5' r5 (step x H5 y5)) fun _ s6 zz_=>?_;obtain⟨σ6,H6,I6,q6⟩:=zz_;refine thn (ht' _ s6 σ6 H6 _ I6 q6) fun ok s7 zz_=>?_;obtain⟨H7,I7,q7⟩:=zz_;have again:∀ {s8:Shared}{σ8:St}{H8:Hp},Inv (qF X scope N cl P2.objs.size s2 H2 fp (X.pn++pins)) ([]++Zh fp s5.heap) σ8 H8 s8->N2 σ8 H8 ->
         ∃ m,m < n∧∃ i σ' H',Inv (qF X scope N cl P2.objs.size s2 H2 fp (X.pn++pins)) [] σ' H' s8∧tn i s8.heap∧(∀ b∈fp,H' b=none)∧W i m σ' H':=fun {s8 σ8 H8} I8 n8=>by
       obtain⟨m',hm,w8⟩:=hN σ8 H8 n8;refine⟨m',hm,i+1,σ8,H8,I8.unpinned,T.keep _ _ _ st5 fun b hb o e=>(I8.pin (b,o) (List.mem_append_right _ (List.mem_append_right _ (qO hb e)))).1,fun b hb=>?_,w8⟩;obtain⟨o,e,d⟩:=T.obj _ _ st5 b hb;exact(I8.pin (b,o) (List.mem_append_right _ (List.mem_append_right _ (qO hb e)))).2.1
     cases ok with
     | false=>exact again I7 (by simpa using q7)
     | true =>
       have q7':te σ6 H7 fun y H5=>∃ ys,H5 s2.heap.objs.size=some (.lst ys)∧ys.length < sizeLine∧N2 σ6 (upd H5 s2.heap.objs.size (.lst (ys++[y]))):=by simpa using q7
       refine thn (he' _ s7 σ6 H7 _ I7 q7') fun xv s8 zz_=>?_;obtain⟨y,H8,I8,r8,ys,hy,hlen,n8⟩:=zz_;refine thn (qX (X:=qF X scope N cl P2.objs.size s2 H2 fp (X.pn++pins)) _ s8 σ6 H8 (.ref s2.heap.objs.size) [y] (.ref s2.heap.objs.size) [xv] (fun _ H9=>N2 σ6 H9) I8 rfl (.cons r8 .nil) ⟨_,ys,y,rfl,rfl,hy,hlen,n8⟩) fun _ s9 ⟨_,H9,I9,_,n9⟩=>again I9 n9
 exact codeAny_compStart_list (loop _ rfl) (T.self _ 0 _ _ _ (T.keep _ _ _ st2 (fun b hb o e=>old b o e)) (loop _ rfl))
end
theorem zg {t u:TS}{D:qa3}{σ:St}{H:Hp} (Post:St->Hp->Prop) (h1:∀ N:St->Hp->Prop,(∀ σ' H',Post σ' H'->N σ' H')->t { D with nx:=N } σ H) (h2:∀ σ' H',Post σ' H'->u D σ' H'):qdD t u D σ H:=h1 (u D) h2
inductive qdy {β:Type} (f:β->List V) (H:Hp) (ps:List β) (i:Nat) (z:V):Prop
 | mk (p:β) (t:Addr) (h1:ps[i]?=some p) (h2:z=.ref t) (h3:H t=some (.tup (f p))):qdy f H ps i z
inductive qdz {β:Type} (f:β->List V) (H:Hp) (zs:List V) (i:Nat) (p:β):Prop
 | mk (t:Addr) (h1:zs[i]?=some (.ref t)) (h2:H t=some (.tup (f p))):qdz f H zs i p
def TupL {β:Type} (f:β->List V) (H:Hp) (zs:List V) (ps:List β):Prop:=zs.length=ps.length∧∀ (i:Nat) z p,zs[i]?=some z->ps[i]?=some p->∃ t,z=.ref t∧H t=some (.tup (f p))
section
variable {β:Type}{f:β->List V}{H H':Hp}{zs:List V}{ps:List β}
theorem TupL.nil:TupL f H [] []:=⟨rfl,fun i z p e=>by simp at e⟩
theorem TupL.same (h:TupL f H zs ps) (s:Same H H'):TupL f H' zs ps:=⟨h.1,fun i z p e1 e2=>by
 obtain⟨t,e,q⟩:=h.2 i z p e1 e2
 exact⟨t,e,s _ _ q⟩⟩
theorem TupL.put {q:Addr}{xs ys:List V} (h:TupL f H zs ps) (hq:H q=some (.lst xs)):TupL f (upd H q (.lst ys)) zs ps:=⟨h.1,fun i z y e1 e2=>by
 obtain⟨t,e,r⟩:=h.2 i z y e1 e2
 exact⟨t,e,by rw[qi (je r hq (by intro z;cases z))];exact r⟩⟩
theorem TupL.snoc {t:Addr}{p:β} (h:TupL f H zs ps) (q:H t=some (.tup (f p))):TupL f H (zs++[.ref t]) (ps++[p]):=⟨by rw[List.length_append,List.length_append,h.1];rfl,fun i z y e1 e2=>by
 rcases Zv e1 with e|⟨ei,e⟩
 · rcases Zv e2 with e'|⟨ei',_⟩
   · exact h.2 i z y e e'
   · have:=(List.getElem?_eq_some_iff.mp e).1
     rw[ei',← h.1]at this;exact absurd this (Nat.lt_irrefl _)
 · rcases Zv e2 with e'|⟨_,e'⟩
   · have:=(List.getElem?_eq_some_iff.mp e').1
     rw[ei,h.1]at this;exact absurd this (Nat.lt_irrefl _)
   · exact⟨t,e,e'▸q⟩⟩
theorem TupL.at_ (h:TupL f H zs ps) {i:Nat}{p:β} (e:ps[i]?=some p):qdz f H zs i p:=by
 have hi:i < zs.length:=by rw[h.1];exact(List.getElem?_eq_some_iff.mp e).1
 obtain⟨t,et,q⟩:=h.2 i _ p (List.getElem?_eq_getElem hi) e;exact⟨t,by rw[List.getElem?_eq_getElem hi,et],q⟩
theorem TupL.of (h:TupL f H zs ps) {i:Nat}{z:V} (e:zs[i]?=some z):qdy f H ps i z:=by
 have hi:i < ps.length:=by rw[← h.1];exact(List.getElem?_eq_some_iff.mp e).1
 obtain⟨t,et,q⟩:=h.2 i z _ e (List.getElem?_eq_getElem hi);exact⟨_,t,List.getElem?_eq_getElem hi,et,q⟩
end
end L2
namespace KC
open PySem L2 PySem.NumText PyProof.Rows
end KC
namespace L2
open PySem PySem.Spec PyProof.Rows
open PySem.W (Frag)
section
variable {M:Model}{A:Around}{E:Value->Shared->Prop}{h:Heap}{g:Array GenState}{d:Drawn}{t:Nat}{os:OsState}
variable {nm q:Str}{C N:Addr}{bs bm bmB:List Value}{sn:List Str}{sub:List Value}{ab:Bool}{col:Option Bool}{dd:Option Addr}{k0 k1 k2 k3 k5:Option Value}{B newId initId:String}
end
section
variable {prog:Program}{w:World}{A:Around}{R:Result->Shared->Prop}{E:Value->Shared->Prop}{h:Heap}{g:Array GenState}{d:Drawn}{t:Nat}{os:OsState}
variable {nm q:Str}{C N:Addr}{bs bm bmB:List Value}{sn:List Str}{sub:List Value}{ab:Bool}{col:Option Bool}{dd:Option Addr}{k0 k1 k2 k3 k5:Option Value}{B newId initId:String}
end
theorem qbD (zs:List V) (n:Nat) (k:Int) (hk:k=(n:Int)):qcc zs none (some k)=zs.take n:=by
 subst hk;unfold qcc;rw[HT.sIx_none,HT.sIx_nat,Nat.sub_zero,List.drop_zero];by_cases h:n≤zs.length
 · rw[Nat.min_eq_left h]
 · rw[Nat.min_eq_right (by omega),List.take_of_length_le (Nat.le_refl _),List.take_of_length_le (by omega)]
theorem qbE (zs:List V) (n:Nat) (k:Int) (hk:k=(n:Int)):qcc zs (some k) none=zs.drop n:=by
 subst hk;unfold qcc;rw[HT.sIx_none,HT.sIx_nat];by_cases h:n≤zs.length
 · rw[Nat.min_eq_left h,List.take_of_length_le (by rw[List.length_drop];exact Nat.le_refl _)]
 · rw[Nat.min_eq_right (by omega),List.drop_of_length_le (Nat.le_refl _),List.drop_of_length_le (by omega),List.take_nil]
end L2
namespace Srt
open PySem PySem.W PyProof.Rows
def RunP {α:Type} (lt:Nat->Nat->Bool) (n:Nat):KasT α->(α->Prop)->Prop
 | .ret a,P=>P a
 | .ask i j k,P=>i < n∧j < n∧RunP lt n (k (lt i j)) P
section
variable {lt:Nat->Nat->Bool}{n:Nat}
theorem RunP.bind {α β:Type}{f:α->KasT β}{P:β->Prop}:∀ {t:KasT α},RunP lt n t (fun a=>RunP lt n (f a) P)->RunP lt n (t.bind f) P
 | .ret _,h=>h
 | .ask i j k,h=>⟨h.1,h.2.1,RunP.bind (t:=k (lt i j)) h.2.2⟩
theorem RunP.mono {α:Type}{P P':α->Prop} (hp:∀ a,P a->P' a):∀ {t:KasT α},RunP lt n t P->RunP lt n t P'
 | .ret _,h=>hp _ h
 | .ask i j k,h=>⟨h.1,h.2.1,RunP.mono hp (t:=k (lt i j)) h.2.2⟩
theorem RunP.wp {α:Type}{cmp:Nat->Nat->(Bool->Shared->Prop)->Shared->Prop}{Q:α->Shared->Prop}{P:α->Prop}{s:Shared} (hc:∀ i j (C:Bool->Shared->Prop),i < n->j < n->C (lt i j) s->cmp i j C s) (hq:∀ a,P a->Q a s):∀ {t:KasT α},RunP lt n t P->t.kasWp cmp Q s
 | .ret _,h=>hq _ h
 | .ask i j k,h=>hc i j _ h.1 h.2.1 (RunP.wp hc hq (t:=k (lt i j)) h.2.2)
theorem RunP.ite {α:Type}{c:Prop} [Decidable c] {t u:KasT α}{P:α->Prop} (h1:c->RunP lt n t P) (h2:¬ c->RunP lt n u P):RunP lt n (if c then t else u) P:=by
 by_cases h:c
 · rw[if_pos h];exact h1 h
 · rw[if_neg h];exact h2 h
def Bd (n:Nat) (p:Array Nat):Prop:=∀ x,p.getD x 0 < n
theorem QY {p q:Array Nat}{x y:Nat} (h:p[x]?=q[y]?):p.getD x 0=q.getD y 0:=by
 simp only[Array.getD_eq_getD_getElem?,h]
theorem Zf {p:Array Nat}{i j:Nat} (hj:j≤p.size) (x:Nat):(kas_rev p i j).getD x 0=if i≤x∧x < j then p.getD (i+j - 1 - x) 0 else p.getD x 0:=by
 have h:=getElem?_mirror_all (xs:=p) (i:=i) hj x;by_cases c:i≤x∧x < j
 · rw[if_pos c]at h ⊢;exact QY h
 · rw[if_neg c]at h ⊢;exact QY h
theorem Bd.rev {p:Array Nat}{i j:Nat} (h:Bd n p) (hj:j≤p.size):Bd n (kas_rev p i j):=fun x=>by
 rw[Zf hj];split<;>exact h _
theorem qaW {p:Array Nat}{k d:Nat} (hk:k < p.size) (hd:d≤k) (x:Nat):(bubble p k d).getD x 0=if x=k - d then p.getD k 0 else if k - d < x∧x≤k then p.getD (x - 1) 0 else p.getD x 0:=by
 have h:=getElem?_bubble (xs:=p) hk d hd x;by_cases c:x=k - d
 · rw[if_pos c]at h ⊢;exact QY h
 · rw[if_neg c]at h ⊢;by_cases c2:k - d < x∧x≤k
   · rw[if_pos c2]at h ⊢;exact QY h
   · rw[if_neg c2]at h ⊢;exact QY h
theorem Bd.bub {p:Array Nat}{k d:Nat} (h:Bd n p) (hk:k < p.size) (hd:d≤k):Bd n (bubble p k d):=fun x=>by
 rw[qaW hk hd];by_cases c:x=k - d
 · rw[if_pos c];exact h _
 · rw[if_neg c];by_cases c2:k - d < x∧x≤k
   · rw[if_pos c2];exact h _
   · rw[if_neg c2];exact h _
structure Ord (lt:Nat->Nat->Bool):Prop where
 tr:∀ a b c,lt b a=false->lt c b=false->lt c a=false
 asy:∀ a b,lt a b=true->lt b a=false
theorem Ord.irr (O:Ord lt) (a:Nat):lt a a=false:=by
 cases h:lt a a with
 | false=>rfl
 | true=>rw[← h];exact O.asy _ _ h
def Up (lt:Nat->Nat->Bool) (p:Array Nat) (k:Nat):Prop:=∀ x,x+1 < k->lt (p.getD (x+1) 0) (p.getD x 0)=false
def Dn (lt:Nat->Nat->Bool) (p:Array Nat) (k:Nat):Prop:=∀ x,x+1 < k->lt (p.getD x 0) (p.getD (x+1) 0)=false
def Eqv (lt:Nat->Nat->Bool) (a b:Nat):Prop:=lt a b=false∧lt b a=false
theorem Eqv.not (O:Ord lt) {a a' b b':Nat} (h1:Eqv lt a a') (h2:Eqv lt b b') (h:lt a b=false):lt a' b'=false:=O.tr _ _ _ (O.tr _ _ _ h2.1 h) h1.2
theorem Up.le (O:Ord lt) {p:Array Nat}{k:Nat} (h:Up lt p k) {x:Nat}:∀ d,x+d < k->lt (p.getD (x+d) 0) (p.getD x 0)=false
 | 0,_=>O.irr _
 | d+1,hd=>O.tr _ _ _ (Up.le O h d (by omega)) (h (x+d) (by omega))
theorem qa0 (p:Array Nat) (hb:Bd n p):∀ (f m:Nat),1≤m->Up lt p m->RunP lt n (kas_asc p f m) fun r=>m≤r∧r≤m+f∧Up lt p r∧(r < m+f->lt (p.getD r 0) (p.getD (r - 1) 0)=true)
 | 0,m,_,hu=>⟨Nat.le_refl _,Nat.le_refl _,hu,fun h=>absurd h (by omega)⟩
 | f+1,m,h1,hu=>by
   refine⟨hb _,hb _,RunP.ite (fun c=>?_) (fun c=>?_)⟩
   · exact⟨Nat.le_refl _,by omega,hu,fun _=>c⟩
   · have c:lt (p.getD m 0) (p.getD (m - 1) 0)=false:=by simpa using c
     refine RunP.mono (fun r h=>?_) (qa0 p hb f (m+1) (by omega) (fun x hx=>?_))
     · exact⟨by omega,by omega,h.2.2.1,fun z=>h.2.2.2 (by omega)⟩
     · by_cases e:x+1=m
       · have e1:x=m - 1:=by omega
         rw[e1,show m - 1+1=m by omega];exact c
       · exact hu x (by omega)
def Blk (lt:Nat->Nat->Bool) (p:Array Nat) (m q:Nat):Prop:=q+1≤m∧∀ x,m - (q+1)≤x->x < m->Eqv lt (p.getD x 0) (p.getD (m - 1) 0)
theorem Blk.rev (O:Ord lt) {p:Array Nat}{m q:Nat} (hm:m≤p.size) (h:Blk lt p m q) (x:Nat) (hx:x < m):Eqv lt (p.getD x 0) ((kas_rev p (m - (q+1)) m).getD x 0):=by
 rw[Zf hm];by_cases c:m - (q+1)≤x∧x < m
 · rw[if_pos c];have h1:=h.2 x c.1 c.2;have hq:=h.1;have h2:=h.2 (m - (q+1)+m - 1 - x) (by omega) (by omega);exact⟨O.tr _ _ _ h2.2 h1.1,O.tr _ _ _ h1.2 h2.1⟩
 · rw[if_neg c];exact⟨O.irr _,O.irr _⟩
theorem Dn.eqv (O:Ord lt) {p p':Array Nat}{m:Nat} (h:Dn lt p m) (e:∀ x,x < m->Eqv lt (p.getD x 0) (p'.getD x 0)):Dn lt p' m:=fun x hx=>(e x (by omega)).not O (e (x+1) hx) (h x hx)
theorem ZJ (O:Ord lt):∀ (f:Nat) (p:Array Nat) (m q:Nat),Bd n p->1≤m->m+f≤p.size->Dn lt p m->Blk lt p m q->RunP lt n (kas_desc f p m q) fun r =>
   Bd n r.1∧r.1.Perm p∧r.1.size=p.size∧m≤r.2.1∧r.2.1≤m+f∧Dn lt r.1 r.2.1∧Blk lt r.1 r.2.1 r.2.2
 | 0,p,m,q,hb,h1,hs,hd,bl=>⟨hb,Array.Perm.refl _,rfl,Nat.le_refl _,Nat.le_refl _,hd,bl⟩
 | f+1,p,m,q,hb,h1,hs,hd,bl=>by
   have one:∀ p':Array Nat,p'.getD m 0=p'.getD (m+1 - 1) 0:=fun p'=>rfl;refine⟨hb _,hb _,RunP.ite (fun c=>RunP.ite (fun hq=>?_) (fun hq=>?_)) (fun c=>⟨hb _,hb _,RunP.ite (fun d=>?_) (fun d=>?_)⟩)⟩
   · have hm:m≤p.size:=by omega
     have ev:=bl.rev O hm;have sz:(kas_rev p (m - (q+1)) m).size=p.size:=kas_rev_size _ _;have out:(kas_rev p (m - (q+1)) m).getD m 0=p.getD m 0:=by rw[Zf hm,if_neg (by omega)]
     refine RunP.mono (fun r h=>?_) (ZJ O f (kas_rev p (m - (q+1)) m) (m+1) 0 (hb.rev hm) (by omega) (by omega) (fun x hx=>?_) ⟨by omega,fun x h0 h2=>?_⟩)
     · exact⟨h.1,h.2.1.trans (mirror_perm _ _ _ _),by rw[h.2.2.1,sz],by omega,by omega,h.2.2.2.2.2.1,h.2.2.2.2.2.2⟩
     · by_cases e:x+1=m
       · have e1:x=m - 1:=by omega
         subst e1;rw[show m - 1+1=m by omega,out];exact(ev (m - 1) (by omega)).not O ⟨O.irr _,O.irr _⟩ (O.asy _ _ c)
       · exact hd.eqv O ev x (by omega)
     · have e:x=m:=by omega
       subst e;exact⟨O.irr _,O.irr _⟩
   · refine RunP.mono (fun r h=>?_) (ZJ O f p (m+1) 0 hb (by omega) (by omega) (fun x hx=>?_) ⟨by omega,fun x h0 h2=>?_⟩)
     · exact⟨h.1,h.2.1,h.2.2.1,by omega,by omega,h.2.2.2.2.2.1,h.2.2.2.2.2.2⟩
     · by_cases e:x+1=m
       · have e1:x=m - 1:=by omega
         subst e1;rw[show m - 1+1=m by omega];exact O.asy _ _ c
       · exact hd x (by omega)
     · have e:x=m:=by omega
       subst e;exact⟨O.irr _,O.irr _⟩
   · exact⟨hb,Array.Perm.refl _,rfl,Nat.le_refl _,(by show m≤m+(f+1);omega),hd,bl⟩
   · have c:lt (p.getD m 0) (p.getD (m - 1) 0)=false:=by simpa using c
     have d:lt (p.getD (m - 1) 0) (p.getD m 0)=false:=by simpa using d
     refine RunP.mono (fun r h=>?_) (ZJ O f p (m+1) (q+1) hb (by omega) (by omega) (fun x hx=>?_) ⟨by have:=bl.1;omega,fun x h0 h2=>?_⟩)
     · exact⟨h.1,h.2.1,h.2.2.1,by omega,by omega,h.2.2.2.2.2.1,h.2.2.2.2.2.2⟩
     · by_cases e:x+1=m
       · have e1:x=m - 1:=by omega
         subst e1;rw[show m - 1+1=m by omega];exact d
       · exact hd x (by omega)
     · show Eqv lt (p.getD x 0) (p.getD m 0);by_cases e:x=m
       · rw[e];exact⟨O.irr _,O.irr _⟩
       · have:=bl.2 x (by omega) (by omega)
         exact⟨O.tr _ _ _ d this.1,O.tr _ _ _ this.2 c⟩
theorem Dn.rev {p:Array Nat}{m:Nat} (h:Dn lt p m) (hm:m≤p.size):Up lt (kas_rev p 0 m) m:=fun x hx=>by
 rw[Zf hm,Zf hm,if_pos ⟨Nat.zero_le _,by omega⟩,if_pos ⟨Nat.zero_le _,by omega⟩]
 have:=h (m - 2 - x) (by omega)
 rw[show m - 2 - x+1=0+m - 1 - x by omega]at this;rw[show 0+m - 1 - (x+1)=m - 2 - x by omega];exact this
def Cnt (lt:Nat->Nat->Bool) (n N:Nat) (p:Array Nat) (r:Nat×Array Nat):Prop:=Bd n r.2∧r.2.Perm p∧r.2.size=p.size∧1≤r.1∧r.1≤N∧Up lt r.2 r.1
theorem jZ {N m:Nat}{p:Array Nat} (hb:Bd n p) (h1:1≤m) (hm:m≤N) (hs:N≤p.size) (hd:Dn lt p m):RunP lt n (kas_tail3 m N p) (Cnt lt n N p):=by
 unfold kas_tail3;refine RunP.bind (RunP.mono (fun r h=>?_) (qa0 (kas_rev p 0 m) (hb.rev (by omega)) (N - m) m h1 (hd.rev (by omega))));exact⟨hb.rev (by omega),mirror_perm _ _ _ _,kas_rev_size _ _,by omega,by omega,h.2.2.1⟩
theorem QZ (O:Ord lt) {N m:Nat}{p:Array Nat} (hb:Bd n p) (h1:1≤m) (hm:m < N) (hs:N≤p.size) (hd:Dn lt p (m+1)):RunP lt n (kas_descPart m N p) (Cnt lt n N p):=by
 unfold kas_descPart
 refine RunP.bind (RunP.mono (fun r h=>?_) (ZJ O (N - (m+1)) p (m+1) 0 hb (by omega) (by omega) hd ⟨by omega,fun x h0 h2=>by
   have e:x=m:=by omega
   subst e
   exact⟨O.irr _,O.irr _⟩⟩))
 obtain⟨g1,g2,g3,g4,g5,g6,g7⟩:=h;refine RunP.ite (fun hq=>?_) (fun hq=>?_)
 · have hm2:r.2.1≤r.1.size:=by omega
   refine RunP.mono (fun z hz=>?_) (jZ (g1.rev hm2) (by omega) (by omega) (by rw[kas_rev_size];omega) (g6.eqv O (g7.rev O hm2)));exact⟨hz.1,(hz.2.1.trans (mirror_perm _ _ _ _)).trans g2,by rw[hz.2.2.1,kas_rev_size,g3],hz.2.2.2⟩
 · refine RunP.mono (fun z hz=>?_) (jZ g1 (by omega) (by omega) (by omega) g6);exact⟨hz.1,hz.2.1.trans g2,by rw[hz.2.2.1,g3],hz.2.2.2⟩
theorem qbF (O:Ord lt) {N:Nat}{p:Array Nat} (hb:Bd n p) (h2:1≤N) (hs:N≤p.size):RunP lt n (kas_count N p) (Cnt lt n N p):=by
 unfold kas_count;refine RunP.bind (RunP.mono (fun m h=>?_) (qa0 p hb (N - 1) 1 (Nat.le_refl _) (fun x hx=>by omega)));obtain⟨m1,mN,up,stop⟩:=h;refine RunP.ite (fun c=>?_) (fun c=>?_)
 · exact⟨hb,Array.Perm.refl _,rfl,m1,by omega,up⟩
 · have c:m≠N:=by simpa using c
   have st:=stop (by omega);refine RunP.ite (fun g=>⟨hb _,hb _,RunP.ite (fun e=>?_) (fun e=>?_)⟩) (fun g=>?_)
   · exact⟨hb,Array.Perm.refl _,rfl,m1,by omega,up⟩
   · have e:lt (p.getD 0 0) (p.getD (m - 1) 0)=false:=by simpa using e
     -- all of the first m are alike
     have alike:∀ x,x < m->Eqv lt (p.getD x 0) (p.getD (m - 1) 0):=fun x hx=>by
       have a1:=up.le O (x:=x) (m - 1 - x) (by omega);rw[show x+(m - 1 - x)=m - 1 by omega]at a1;have a2:=up.le O (x:=0) x (by omega);rw[Nat.zero_add]at a2;exact⟨O.tr _ _ _ e a2,a1⟩
     have hmp:m≤p.size:=by omega
     have blk:Blk lt p m (m - 1):=⟨by omega,fun x _ hx=>alike x hx⟩
     have ev:=blk.rev O hmp;rw[show m - (m - 1+1)=0 by omega]at ev;have dn0:Dn lt p m:=fun x hx=>O.tr _ _ _ (alike (x+1) hx).2 (alike x (by omega)).1
     have dn:Dn lt (kas_rev p 0 m) (m+1):=fun x hx=>by
       by_cases e1:x+1=m
       · have e2:x=m - 1:=by omega
         subst e2;have out:(kas_rev p 0 m).getD (m - 1+1) 0=p.getD m 0:=by rw[Zf hmp,if_neg (by omega),show m - 1+1=m by omega]
         rw[out];exact(ev (m - 1) (by omega)).not O ⟨O.irr _,O.irr _⟩ (O.asy _ _ st)
       · exact dn0.eqv O ev x (by omega)
     refine RunP.mono (fun z hz=>?_) (QZ O (hb.rev hmp) m1 (by omega) (by rw[kas_rev_size];exact hs) dn);exact⟨hz.1,hz.2.1.trans (mirror_perm _ _ _ _),by rw[hz.2.2.1,kas_rev_size],hz.2.2.2⟩
   · have e1:m=1:=by omega
     subst e1
     exact QZ O hb (Nat.le_refl _) (by omega) hs (fun x hx=>by
       have:x=0:=by omega
       subst this
       exact O.asy _ _ st)
theorem ZB (O:Ord lt) {p:Array Nat}{k:Nat} (hb:Bd n p) (up:Up lt p k):∀ (f l r:Nat),l≤r->r≤k->r - l≤f->(∀ x,x < l->lt (p.getD k 0) (p.getD x 0)=false)->(∀ x,r≤x->x < k->lt (p.getD k 0) (p.getD x 0)=true) ->
   RunP lt n (kas_place p k f l r) fun m=>m≤k∧(∀ x,x < m->lt (p.getD k 0) (p.getD x 0)=false)∧∀ x,m≤x->x < k->lt (p.getD k 0) (p.getD x 0)=true
 | 0,l,r,h1,h2,h3,a,b=>⟨by omega,a,fun x hx=>b x (by omega)⟩
 | f+1,l,r,h1,h2,h3,a,b=>by
   refine RunP.ite (fun c=>?_) (fun c=>⟨hb _,hb _,RunP.ite (fun d=>?_) (fun d=>?_)⟩)
   · exact⟨by omega,a,fun x hx=>b x (by omega)⟩
   · refine ZB O hb up f l ((l+r) / 2) (by omega) (by omega) (by omega) a fun x hx hk=>?_
     cases hz:lt (p.getD k 0) (p.getD x 0) with
     | true=>rfl
     | false =>
       have q:=up.le O (x:=(l+r) / 2) (x - (l+r) / 2) (by omega);rw[show (l+r) / 2+(x - (l+r) / 2)=x by omega]at q
       have:=O.tr _ _ _ q hz
       rw[d]at this;cases this
   · have d:lt (p.getD k 0) (p.getD ((l+r) / 2) 0)=false:=by simpa using d
     refine ZB O hb up f ((l+r) / 2+1) r (by omega) h2 (by omega) (fun x hx=>?_) b;have q:=up.le O (x:=x) ((l+r) / 2 - x) (by omega);rw[show x+((l+r) / 2 - x)=(l+r) / 2 by omega]at q;exact O.tr _ _ _ q d
theorem qce (O:Ord lt):∀ (f:Nat) (p:Array Nat) (k:Nat),Bd n p->k+f≤p.size->Up lt p k->RunP lt n (kas_bin f p k) fun r=>r.Perm p∧Up lt r (k+f)
 | 0,p,k,hb,hs,up=>⟨Array.Perm.refl _,up⟩
 | f+1,p,k,hb,hs,up=>by
   refine RunP.bind (RunP.mono (fun l h=>?_) (ZB O hb up k 0 k (Nat.zero_le _) (Nat.le_refl _) (by omega) (fun x hx=>absurd hx (by omega)) (fun x h1 h2=>absurd h1 (by omega))));obtain⟨lk,lo,hi⟩:=h;have hk:k < p.size:=by omega
   refine RunP.mono (fun r h=>⟨h.1.trans (bubble_perm _ _ _),by rw[show k+(f+1)=k+1+f by omega];exact h.2⟩) (qce O f (bubble p k (k - l)) (k+1) (hb.bub hk (by omega)) (by rw[bubble_size];omega) (fun x hx=>?_));have e:k - (k - l)=l:=by omega
   rw[qaW hk (by omega),qaW hk (by omega),e];by_cases c1:x+1=l
   · rw[if_pos c1,if_neg (by omega),if_neg (by omega)];exact lo x (by omega)
   · rw[if_neg c1];by_cases c2:x=l
     · rw[if_pos c2,if_pos ⟨by omega,by omega⟩,show x+1 - 1=x by omega];exact O.asy _ _ (hi x (by omega) (by omega))
     · rw[if_neg c2];by_cases c3:l < x
       · rw[if_pos ⟨by omega,by omega⟩,if_pos ⟨c3,by omega⟩]
         have:=up (x - 1) (by omega)
         rw[show x - 1+1=x by omega]at this;rw[show x+1 - 1=x by omega];exact this
       · rw[if_neg (by omega),if_neg (by omega)];exact up x (by omega)
theorem sort_ok (O:Ord lt) (h:1≤n):RunP lt n (kas_sort n) fun r=>r.Perm (List.toArray (List.range n))∧Up lt r n:=by
 have hb:Bd n (List.toArray (List.range n)):=fun x=>by
   simp only[Array.getD_eq_getD_getElem?,List.getElem?_toArray];by_cases hx:x < n
   · rw[List.getElem?_range hx];exact hx
   · rw[List.getElem?_eq_none (by simp;omega)];exact h
 have sz:(List.toArray (List.range n)).size=n:=by simp
 unfold kas_sort;refine RunP.bind (RunP.mono (fun r hr=>?_) (qbF O hb h (by omega)));obtain⟨g1,g2,g3,g4,g5,g6⟩:=hr;refine RunP.ite (fun c=>?_) (fun c=>?_)
 · have e:max r.1 1=r.1:=by omega
   rw[e];refine RunP.mono (fun z hz=>⟨hz.1.trans g2,?_⟩) (qce O (n - r.1) r.2 r.1 g1 (by omega) g6)
   have:=hz.2
   rw[show r.1+(n - r.1)=n by omega]at this;exact this
 · have e:r.1=n:=by omega
   rw[e]at g6;exact⟨g2,g6⟩
end
end Srt
namespace L2
open PySem PySem.Spec PyProof.Rows
open PySem.W (Frag)
theorem ObjOk.lies {P:Program}{w:World}{H:Hp}{h:Heap}{a:Addr}{o:HO} (x:ObjOk P w H h a o):∃ ob,h.get? a=some ob:=by
 cases o with
 | lst xs=>obtain⟨_,_,_,_,e⟩:=x;exact⟨_,e⟩
 | tup xs=>obtain⟨_,_,_,o,e,_⟩:=x;exact⟨_,e⟩
 | dK kvs=>obtain⟨_,_,_,_,o,_,_,e,_⟩:=x;exact⟨_,e⟩
 | dT kvs=>obtain⟨_,_,_,_,o,_,_,e,_⟩:=x;exact⟨_,e⟩
 | set S n=>obtain⟨o,_,_,_,e,_⟩:=x;exact⟨_,e⟩
 | ins C dx fs=>obtain⟨_,_,_,e,_⟩:=x;exact⟨_,e⟩
 | own y=>obtain⟨_,e⟩:=x;exact⟨_,e⟩
 | xd fs=>obtain⟨_,⟨_,_,_,e,_⟩,_⟩:=x;exact⟨_,e⟩
 | rng lo hi=>obtain⟨_,_,_,e⟩:=x;exact⟨_,e⟩
 | frz ob u=>obtain⟨e,_⟩:=x;exact⟨_,e⟩
 | tbl ps=>exact⟨_,(show h.get? a=some _ from x)⟩
 | met f y=>exact⟨_,(show h.get? a=some _ from x)⟩
 | ext φ=>obtain⟨_,⟨_,e⟩,_⟩:=x;exact⟨_,e⟩
section
variable {X:Cx}{pins:List (Addr×Obj)}{σ:List (Option V)}{H:Hp}{s:Shared}{h':Heap}
theorem Inv.unlaid {a:Addr} (I:Inv X pins σ H s) (e:s.heap.get? a=none):H a=none:=by
 cases q:H a with
 | none=>rfl
 | some o =>
   obtain⟨ob,z⟩:=(I.hok a o q).lies;rw[e]at z;cases z
theorem Inv.laidL {a:Addr}{o:HO}{t':Nat} (I:Inv X pins σ H s) (k:∀ b u,b≠X.env.locals->s.heap.get? b=some u->h'.get? b=some u) (ns:∀ m,s.heap.Ns X.env.locals m->h'.Ns X.env.locals m)
   (hp:s.heap.get? a=none) (new:ObjOk X.prog X.w (upd H a o) h' a o):Inv X pins σ (upd H a o) { s with heap:=h',toks:=t' }:=by
 have hn:H a=none:=I.unlaid hp;have nL:∀ b u,H b=some u->b≠X.env.locals:=fun b u e z=>by rw[z,I.free]at e;cases e
 have na:∀ b u,s.heap.get? b=some u->b≠a:=fun b u q z=>by rw[z,hp]at q;cases q
 refine I.step (g':=s.gens) (d':=s.drawn) (ch:=[]) (fun _ z=>nomatch z) (fun b o hb _ _ e _=>k b o hb e) (fun b o hb _ _ e _=>⟨o.slots,k b o hb e⟩) (fun b o _ e n=>by rw[qi (na b o e)];exact n) (fun b o _ e=>?_)
   (fun b xs q=>by rw[qi (qf q hn)];exact q) (fun b u xs q=>by rw[qi (qf q hn)];exact q) (fun b ps q=>⟨#[],by rw[qi (qf q hn),q];simp⟩) ns (fun b u e=>?_) I.bare
 · by_cases z:b=X.env.locals
   · obtain⟨m,hm,_⟩:=I.loc;obtain⟨o',_,_,ho',_⟩:=ns m hm;exact⟨o',by rw[z];exact ho'⟩
   · exact⟨o,k b o z e⟩
 · by_cases z:b=a
   · subst z;rw[qb]at e;cases e;exact new
   · rw[qi z]at e;refine(I.hok b u e).stay (fun c v hc q=>k c v ?_ q) (fun c q=>by rw[qi (qf q hn)];exact q) fun c xs q=>by rw[qi (qf q hn)];exact q
     rcases hc with z|z
     · rw[z];exact nL b u e
     · exact nL c _ z
end
def jV (base h:Heap) (L:Addr):List (Addr×Obj):=(List.range h.objs.size).filterMap fun a=>if a=L then none else if (base.get? a).isSome then none else (h.get? a).map fun o=>(a,o)
theorem JV (base h:Heap) (L:Addr):News base L h (jV base h L):=by
 intro p hp;unfold jV at hp;obtain⟨a,_,e⟩:=List.mem_filterMap.mp hp;by_cases c1:a=L
 · rw[if_pos c1]at e;cases e
 · rw[if_neg c1]at e;by_cases c2:(base.get? a).isSome=true
   · rw[if_pos c2]at e;cases e
   · rw[if_neg c2]at e
     cases q:h.get? a with
     | none=>rw[q]at e;cases e
     | some o =>
       rw[q]at e;cases e;refine⟨q,c1,?_⟩
       cases z:base.get? a with
       | none=>rfl
       | some _=>rw[z]at c2;exact absurd rfl c2
theorem Q5 {base h:Heap}{L b:Addr}{o:Obj} (e:h.get? b=some o) (ne:b≠L) (n:base.get? b=none):(b,o)∈jV base h L:=by
 unfold jV;refine List.mem_filterMap.mpr ⟨b,List.mem_range.mpr (Heap.lt_size e),?_⟩;rw[if_neg ne,n,e];rfl
theorem qdk {h:Heap}{a:Addr}{m m':Str->Option Value} (x:h.Ns a m) (y:h.Ns a m'):m=m':=by
 obtain⟨o,es,ep,ho,hd,_,f⟩:=x;obtain⟨o',es',ep',ho',hd',_,f'⟩:=y;rw[ho]at ho';cases ho';rw[hd]at hd';cases hd';exact funext fun n=>(f n).symm.trans (f' n)
section
variable {X:Cx}{pins:List (Addr×Obj)}{σ:List (Option V)}{H:Hp}{s:Shared}{h':Heap}
theorem Inv.laidN {D:Addr}{m:Str->Option Value}{vs:List Value}{c:Nat}{ys:List V} (I:Inv X pins σ H s) (F:Fr X.base X.env.locals s.heap m) (F':Fr X.base X.env.locals h' m)
   (N':News X.base X.env.locals h' ((D,PySem.W.listOf vs.toArray c)::jV X.base s.heap X.env.locals)) (hD:∀ q∈jV X.base s.heap X.env.locals,q.1 < D) (r:Vals ys vs) (hz:ys.length≤sizeLine) :
   H D=none∧Inv X pins σ (upd H D (.lst ys)) { s with heap:=h' }:=by
 obtain⟨e1,e2,e3⟩:=N' _ (.head _)
 have free:s.heap.get? D=none:=by
   cases q:s.heap.get? D with
   | none=>rfl
   | some o=>exact absurd (hD _ (Q5 q e2 e3)) (Nat.lt_irrefl _)
 have kp:∀ b u,b≠X.env.locals->s.heap.get? b=some u->h'.get? b=some u:=fun b u ne q=>by
   cases z:X.base.get? b with
   | some o =>
     have:=I.bk b o z
     rw[q]at this;cases this;exact F'.keep b _ z
   | none=>exact(N' _ (List.mem_cons_of_mem _ (Q5 q ne z))).1
 refine⟨I.unlaid free,I.laidL (t':=s.toks) kp (fun m' hm=>?_) free ⟨hz,vs,c,r,?_⟩⟩
 · rw[qdk hm F.ns];exact F'.ns
 · exact e1
end
def qK:List Int->List Int->Bool
 | a::as,b::bs=>if a=b then qK as bs else decide (a < b)
 | _,_=>false
theorem qY:∀ as bs,qK as bs=true->qK bs as=false
 | [],_,h=>by simp[qK]at h
 | _::_,[],h=>by simp[qK]at h
 | a::as,b::bs,h=>by
   unfold qK at h ⊢;by_cases e:a=b
   · rw[if_pos e]at h;rw[if_pos e.symm];exact qY as bs h
   · rw[if_neg e]at h;rw[if_neg fun z=>e z.symm]
     have:=of_decide_eq_true h
     exact decide_eq_false (by omega)
theorem Qe:∀ {as bs cs:List Int},as.length=bs.length->bs.length=cs.length->qK as bs=false->qK bs cs=false->qK as cs=false
 | [],_,_,_,_,_,_=>rfl
 | _::_,[],_,h,_,_,_=>by simp at h
 | _::_,_::_,[],_,h,_,_=>by simp at h
 | a::as,b::bs,c::cs,h1,h2,x,y=>by
   unfold qK at x y ⊢;by_cases e1:a=b
   · subst e1;rw[if_pos rfl]at x;by_cases e2:a=c
     · subst e2;rw[if_pos rfl]at y ⊢;exact Qe (by simpa using h1) (by simpa using h2) x y
     · rw[if_neg e2]at y ⊢;exact y
   · rw[if_neg e1]at x;have x':=of_decide_eq_false x;by_cases e2:b=c
     · subst e2;rw[if_neg e1];exact x
     · rw[if_neg e2]at y;have y':=of_decide_eq_false y;rw[if_neg (by omega)];exact decide_eq_false (by omega)
section
variable {prog:Program}{w:World}{A:Around}{s:Shared}
theorem Jt {b:Bool}{Q:Bool->Shared->Prop}:∀ {as bs:List Int}{us vs:List Value}{i:Nat},Vals (as.map V.int) us->Vals (bs.map V.int) vs->as.length=bs.length->Q (qK as bs) s->PySem.W.KatLex prog w A b false Q (us.zip vs) i s
 | [],[],_,_,_,.nil,.nil,_,h=>PySem.W.kat_nil h
 | [],_::_,_,_,_,_,_,e,_=>by simp at e
 | _::_,[],_,_,_,_,_,e,_=>by simp at e
 | a::as,c::cs,_,_,i,.cons r1 t1,.cons r2 t2,e,h=>by
   obtain⟨x,rfl⟩:=(show ∃ t,_=Value.int a t from r1)
   obtain⟨y,rfl⟩:=(show ∃ t,_=Value.int c t from r2)
   refine PySem.W.kat_cons (wpAny_eqBool_int ?_);unfold qK at h;by_cases z:a=c
   · rw[if_pos z]at h;rw[show (a == c)=true by rw[z];exact beq_self_eq_true c];exact PySem.W.kat_yes (Jt t1 t2 (by simpa using e) h)
   · rw[if_neg z]at h;rw[show (a == c)=false by exact beq_eq_false_iff_ne.mpr z];refine PySem.W.kat_no ?_
     cases (b && i == 0) with
     | true=>exact oneLt_int h
     | false=>exact PySem.W.kat_one _ _ (wpAny_lt_int h)
end
structure TupI (H:Hp) (zs:List V) (rs:List (List Int)):Prop where
 len:zs.length=rs.length
 at_:∀ (i:Nat) (z:V) (r:List Int),zs[i]?=some z->rs[i]?=some r->∃ t,z=.ref t∧H t=some (.tup (r.map V.int))
def ltI (k:Nat) (rs:List (List Int)) (i j:Nat):Bool:=qK (rs.getD i (List.replicate k 0)) (rs.getD j (List.replicate k 0))
theorem qT {k:Nat}{rs:List (List Int)} (h:∀ r∈rs,r.length=k) (i:Nat):(rs.getD i (List.replicate k 0)).length=k:=by
 rw[List.getD_eq_getElem?_getD]
 cases e:rs[i]? with
 | none=>exact List.length_replicate
 | some r=>exact h r (List.mem_of_getElem? e)
theorem qax {k:Nat}{rs:List (List Int)} (h:∀ r∈rs,r.length=k):Srt.Ord (ltI k rs) :=
 ⟨fun a b c x y=>Qe ((qT h c).trans (qT h b).symm) ((qT h b).trans (qT h a).symm) y x,fun a b=>qY _ _⟩
section
variable {X:Cx}{pins:List (Addr×Obj)}{σ:List (Option V)}{H:Hp}{s:Shared}
theorem Inv.tupI {t:Addr}{r:List Int} (I:Inv X pins σ H s) (h:H t=some (.tup (r.map V.int))):∃ (o:Obj) (us:List Value) (n:Nat),Vals (r.map V.int) us∧s.heap.get? t=some o∧o.cls=.type "tuple"∧o.data=.seq us.toArray n:=by
 obtain⟨_,its,rv,o,e,c,n,d⟩:=I.hok t _ h;exact⟨o,its,n,rv,e,c,d⟩
theorem Inv.kpN {h':Heap}{m:Str->Option Value}{x:Addr×Obj} (I:Inv X pins σ H s) (F':Fr X.base X.env.locals h' m) (N':News X.base X.env.locals h' (x::jV X.base s.heap X.env.locals)) :
   ∀ b u,b≠X.env.locals->s.heap.get? b=some u->h'.get? b=some u:=fun b u ne q=>by
 cases z:X.base.get? b with
 | some o =>
   have:=I.bk b o z
   rw[q]at this;cases this;exact F'.keep b _ z
 | none=>exact(N' _ (List.mem_cons_of_mem _ (Q5 q ne z))).1
end
theorem TupI.tail {H:Hp}{z:V}{zs:List V}{r:List Int}{rs:List (List Int)} (h:TupI H (z::zs) (r::rs)):TupI H zs rs :=
 ⟨by have:=h.len;simpa using this,fun i z' r' e1 e2=>h.at_ (i+1) z' r' (by simpa using e1) (by simpa using e2)⟩
inductive qa1 (h:Heap) (v:Value) (r:List Int):Prop
 | mk (t:Addr) (o:Obj) (us:List Value) (n:Nat) (h1:v=.ref t) (h2:Vals (r.map V.int) us) (h3:h.get? t=some o) (h4:o.cls=.type "tuple") (h5:o.data=.seq us.toArray n):qa1 h v r
def jv (h:Heap) (v:Value) (r:List Int):Prop:=qa1 h v r
theorem QA {h:Heap}:∀ {vs:List Value}{rs:List (List Int)},Paired (jv h) vs rs->(∀ r∈rs,0 < r.length)->∃ fs,PySem.W.KatTups h vs fs∧fs.length=vs.length∧∀ v∈fs,∃ i t,v=Value.int i t
 | _,_,.nil,_=>⟨[],.nil,rfl,fun _ z=>nomatch z⟩
 | _,r::rs,.cons ⟨t,o,us,n,e,rv,ho,hc,hd⟩ q,k=>by
   obtain⟨fs,k1,k2,k3⟩:=QA q fun r hr=>k r (List.mem_cons_of_mem _ hr);subst e;have pos:=k r List.mem_cons_self
   match r,us,rv,pos with
   | a::r,_,.cons ra rt,_ =>
     obtain⟨tk,rfl⟩:=(show ∃ t,_=Value.int a t from ra)
     refine⟨_::fs,.cons ho hc hd (by simp;rfl) k1,by simp[k2],fun v hv=>?_⟩;rcases List.mem_cons.mp hv with rfl|hv
     · exact⟨_,_,rfl⟩
     · exact k3 v hv
theorem qN {α β:Type}{F:α->β->Prop}:∀ {xs:List α}{ys:List β}{i:Nat}{d:α}{e:β},Paired F xs ys->i < xs.length->F (xs.getD i d) (ys.getD i e)
 | _,_,_,_,_,.nil,h=>by simp at h
 | _,_,0,_,_,.cons r _,_=>by simpa using r
 | _,_,i+1,_,_,.cons _ t,h=>by
   simp only[List.getD_cons_succ];exact qN t (by simpa using h)
theorem Ql {α β:Type}{F:α->β->Prop}{xs:List α}{ys:List β}{d:α}{e:β} (r:Paired F xs ys):∀ {is:List Nat},(∀ i∈is,i < xs.length)->Paired F (is.map fun i=>xs.getD i d) (is.map fun i=>ys.getD i e)
 | [],_=>.nil
 | i::is,h=>.cons (qN r (h i List.mem_cons_self)) (Ql r fun j hj=>h j (List.mem_cons_of_mem _ hj))
theorem ze {α:Type} (l:List α) (d:α):(List.range l.length).map (fun i=>l.getD i d)=l:=by
 apply List.ext_getElem
 · simp
 · intro i h1 h2;simp[h2]
section
variable {prog:Program}{w:World}{A:Around}{E:Value->Shared->Prop}{s:Shared}
theorem qba {a:Addr}{vs:List Value}{n:Nat}{P:PySem.Fin->Shared->Prop} (ho:s.heap.get? a=some (seqObj "list" vs.toArray n)) (h2:vs.length < 2)
   (h:∀ c h',(∀ b o,b≠a->s.heap.get? b=some o->h'.get? b=some o)->h'.get? a=some (seqObj "list" vs.toArray c)->P (.done (.ret .none)) { s with heap:=h' }) :
   wpAny (model prog w) A (Builtin.«list.sort» ⟨[.ref a],[]⟩) P E s:=by
 obtain⟨e1,ho1⟩:∃ e1,(s.heap.update a (Obj.mapSeq fun _=>(#[]:Array Value))).get? a=some (seqObj "list" #[] e1):=⟨_,get?_update_seq ho fun _=>#[]⟩
 have s1:=Heap.SameBut.update s.heap a (Obj.mapSeq fun _=>(#[]:Array Value));rw[list_sort_plain];refine wpAny_bind (listItems_at ho rfl ?_);refine wpAny_bind (listUpdate_at ho rfl ?_ (by rw[List.size_toArray,sizeLine_eq];omega) (Nat.zero_le _));refine wpAny_bind (seqEpoch_at ho1 rfl ?_);refine wpAny_bind (wpAny_newTuple ?_ (by show vs.length≤_;rw[sizeLine_eq];omega));refine wpAny_bind (wpAny_newList ?_ (Nat.zero_le _));refine wpAny_holding ?_;dsimp only;have hn2:vs.toArray.size < 2:=by rw[List.size_toArray];omega
 rw[if_pos hn2];refine wpAny_bind (wpAny_pure ?_);rw[if_pos hn2];refine wpAny_bind (wpAny_pure ?_);have ho2:(((s.heap.update a (Obj.mapSeq fun _=>(#[]:Array Value))).push (seqObj "tuple" vs.toArray 0)).push (seqObj "list" #[] 0)).get? a=some (seqObj "list" #[] e1):=Heap.get?_push_of_some _ (Heap.get?_push_of_some _ ho1)
 have hsnd:Array.map (fun x:Keyed=>x.snd) (arrOf (SortSt.mk' general' (vs.toArray.zip vs.toArray) #[] 7 none))=vs.toArray:=by
   show Array.map (fun x:Value×Value=>x.snd) (vs.toArray.zip vs.toArray)=vs.toArray;apply Array.toList_inj.mp;simp only[Array.toList_map,Array.toList_zip];exact List.map_snd_zip (Nat.le_refl _)
 refine wpAny_bind (seqEpoch_at ho2 rfl ?_);dsimp only;rw[hsnd];refine wpAny_bind (listUpdate_at ho2 rfl ?_ (Nat.zero_le _) (by rw[List.size_toArray,sizeLine_eq];omega));show wpAny (model prog w) A (if (e1 != e1)=true then _ else ret Value.none) P E _;rw[if_neg (by simp)];refine wpAny_pure (h _ _ (fun b o hb q=>?_) (get?_update_seq ho2 fun _=>vs.toArray));rw[(Heap.SameBut.update _ a _).2 b hb];exact Heap.get?_push_of_some _ (Heap.get?_push_of_some _ ((s1.2 b hb).trans q))
theorem Zd {l:Addr}{vs:List Value}{Q:Value->Shared->Prop} (hl:s.heap.IsList l vs.toArray) (h2:vs.length < 2)
   (h:∀ D c h',s.heap.get? D=none->(∀ b o,s.heap.get? b=some o->h'.get? b=some o)->h'.get? D=some (seqObj "list" vs.toArray c)->Q (.ref D) { s with heap:=h' }) :
   wpAny (model prog w) A (call (.builtin "sorted") [.ref l]) Q E s:=by
 refine Calls.call_function_entry kind_sorted plain_sorted entry_sorted (args_sorted1 _) ?_;unfold Builtin.«sorted»;refine wpAny_bind (m:=checkCount "sorted" 1 1 _) (wpAny_pure ?_);refine wpAny_bind (collect_list hl ?_ (by rw[sizeLine_eq];omega));refine wpAny_bind (wpAny_newList ?_ (by rw[sizeLine_eq];omega))
 have hsz:((s.heap.push (seqObj "list" #[] 0)).update s.heap.objs.size (Obj.mapSeq (·++vs.toArray))).objs.size=s.heap.objs.size+1:=by
   rw[Heap.size_update,size_push']
 have hoL:(((s.heap.push (seqObj "list" #[] 0)).update s.heap.objs.size (Obj.mapSeq (·++vs.toArray))).push (seqObj "list" vs.toArray 0)).get? (s.heap.objs.size+1)=some (seqObj "list" vs.toArray 0):=by
   rw[← hsz];exact Heap.get?_push_size _ rfl
 have keep:∀ b o,s.heap.get? b=some o->(((s.heap.push (seqObj "list" #[] 0)).update s.heap.objs.size (Obj.mapSeq (·++vs.toArray))).push (seqObj "list" vs.toArray 0)).get? b=some o:=fun b o q=>by
   have hlt:b < s.heap.objs.size:=Heap.lt_size q;rw[Heap.get?_push_ne _ _ _ (by rw[hsz];exact Nat.ne_of_lt (Nat.lt_succ_of_lt hlt)),Heap.get?_update_ne _ _ _ _ (Nat.ne_of_lt hlt),Heap.get?_push_ne _ _ _ (Nat.ne_of_lt hlt)];exact q
 show wpAny _ _ _ _ _ { s with heap:=((s.heap.push (seqObj "list" #[] 0)).update s.heap.objs.size (Obj.mapSeq (·++vs.toArray))).push (seqObj "list" vs.toArray 0) };rw[hsz];refine wpAny_bind (wpAny_holding (wpAny_call_entry slot_list_sort ⟨_,hoL,rfl⟩ entry_list_sort ?body (args_list_sort _)))
 case body =>
   refine qba (s:={ s with heap:=((s.heap.push (seqObj "list" #[] 0)).update s.heap.objs.size (Obj.mapSeq (·++vs.toArray))).push (seqObj "list" vs.toArray 0) }) hoL h2 fun c h' k e=>?_;exact⟨_,rfl,wpAny_pure ⟨_,rfl,h (s.heap.objs.size+1) c h' (Heap.get?_none_of_le (Nat.le_succ _)) (fun b o q=>k b o (Nat.ne_of_lt (Nat.lt_succ_of_lt (Heap.lt_size q))) (keep b o q)) e⟩⟩
end
inductive Jj (K:Frag) (xs:List V) (H:Hp) (Q:VK):Prop
 | mk (l:Addr) (zs:List V) (rs:List (List Int)) (k:Nat) (h1:xs=[.ref l]) (h2:SqL K H l zs) (h3:TupI H zs rs) (h4:(∀ r∈rs,r.length=k)) (h5:0 < k) (h6:zs.length < 64) (h7:∀ (p:Addr) (zs':List V) (rs':List (List Int)),H p=none->rs'.Perm rs->TupI H zs' rs'->rs'.Pairwise (fun a b=>qK b a=false)->Q (.ref p) (upd H p (.lst zs'))):Jj K xs H Q
def qbS (K:Frag):List V->Hp->VK->Prop:=fun xs H Q=>Jj K xs H Q
theorem Zr {X:Cx}{pins:List (Addr×Obj)}{σ:List (Option V)}{H:Hp}{s:Shared}{h':Heap} (I:Inv X pins σ H s) (kp:∀ b u,b≠X.env.locals->s.heap.get? b=some u->h'.get? b=some u) :
   ∀ {zs:List V}{rs:List (List Int)}{vs:List Value},TupI H zs rs->Vals zs vs->Paired (jv h') vs rs
 | [],rs,_,h,.nil=>by
   have:rs=[]:=List.eq_nil_of_length_eq_zero h.len.symm
   subst this;exact .nil
 | z::zs,[],_,h,_=>by have:=h.len;simp at this
 | z::zs,r::rs,_,h,.cons r1 t1=>by
   refine .cons ?_ (Zr I kp h.tail t1);obtain⟨t,rfl,ht⟩:=h.at_ 0 z r rfl rfl;obtain⟨o,us,n,rv,e,c,d⟩:=I.tupI ht;exact⟨t,o,us,n,r1,rv,kp t o (fun q=>by rw[q,I.free]at ht;cases ht) e,c,d⟩
theorem ZO {H:Hp}{zs:List V}{rs:List (List Int)}{d:V}{e:List Int} (h:TupI H zs rs) {is:List Nat} (hi:∀ i∈is,i < zs.length):TupI H (is.map fun i=>zs.getD i d) (is.map fun i=>rs.getD i e):=by
 refine⟨by rw[List.length_map,List.length_map],fun j z r e1 e2=>?_⟩;rw[List.getElem?_map]at e1 e2
 cases q:is[j]? with
 | none=>rw[q]at e1;cases e1
 | some i =>
   rw[q]at e1 e2;have lt:=hi i (List.mem_of_getElem? q);have lt2:i < rs.length:=by rw[← h.len];exact lt
   have z1:zs.getD i d=z:=Option.some.inj e1;have r1:rs.getD i e=r:=Option.some.inj e2;rw[List.getD_eq_getElem?_getD,List.getElem?_eq_getElem lt]at z1;rw[List.getD_eq_getElem?_getD,List.getElem?_eq_getElem lt2]at r1;exact h.at_ i z r (by rw[List.getElem?_eq_getElem lt];exact congrArg some z1) (by rw[List.getElem?_eq_getElem lt2];exact congrArg some r1)
section
variable {X:Cx}
theorem call_sortT:CallR X (.builtin "sorted") (qbS X.K):=by
 intro pins s σ H xs us Q I r h;obtain⟨l,zs,rs,k,rfl,hq,tp,hk,k0,h64,q⟩:=h;obtain⟨u,rfl,ru⟩:=JD r;cases (show u=Value.ref l from ru);obtain⟨its,rv,p,hz⟩:=I.list hq;have hlen:=rv.length;by_cases h2:its.length < 2
 · refine Zd p.isList h2 fun D c h' free kp e=>?_;have I':Inv X pins σ (upd H D (.lst zs)) { s with heap:=h' }:=I.laidL (t':=s.toks) (fun b u _ z=>kp b u z) (fun m ⟨o,es,ep,ho,r⟩=>⟨o,es,ep,kp _ _ ho,r⟩) free ⟨hz,its,c,rv,e⟩;refine⟨.ref D,_,I',rfl,q D zs rs (I.unlaid free) (List.Perm.refl _) tp ?_⟩;have l2:rs.length < 2:=by rw[← tp.len,hlen];exact h2
   match rs,l2 with
   | [],_=>exact .nil
   | [r],_=>exact List.pairwise_singleton _ _
   | _::_::_,l2=>simp at l2;omega
 · obtain⟨m,F⟩:=I.fr;refine PySem.W.kat_sorted F (JV X.base s.heap X.env.locals) p.isList (by omega) (by omega) fun D e1 h' F' N' hD=>?_;have kp:=I.kpN F' N';have pa:=Zr I kp tp rv;obtain⟨fs,t1,t2,t3⟩:=QA pa fun r hr=>by rw[hk r hr];exact k0
   refine PySem.W.kat_kind (T:=.type "int") t1 (by omega) (fun v hv=>?_) rfl ?_
   · obtain⟨i,t,rfl⟩:=t3 v hv;exact PySem.W.Looks.of_pure rfl
   refine Srt.RunP.wp (fun i j C hi hj hC=>?_) (fun a ha=>?_) (Srt.sort_ok (n:=its.length) (qax hk) (by omega))
   · obtain⟨x,ox,ux,nx,ex,rx,hx,cx,dx⟩:=qN (d:=Value.none) (e:=List.replicate k 0) pa hi;obtain⟨y,oy,uy,ny,ey,ry,hy,cy,dy⟩:=qN (d:=Value.none) (e:=List.replicate k 0) pa hj;unfold PySem.W.kas_ask;rw[ex,ey];refine PySem.W.kat_lt hx dx hy dy ?_;have lx:=qT hk i;have ly:=qT hk j;have e1':=rx.length;have e2':=ry.length;rw[List.length_map]at e1' e2';rw[show decide (ux.toArray.size < uy.toArray.size)=false from decide_eq_false (by rw[List.size_toArray,List.size_toArray];omega)];exact Jt rx ry (by omega) hC
   · obtain⟨hp,up⟩:=ha
     have pl:a.toList.Perm (List.range its.length):=by
       have:=Array.perm_iff_toList_perm.mp hp
       simpa using this
     have inR:∀ i∈a.toList,i < zs.length:=fun i hi=>by rw[hlen];exact List.mem_range.mp (pl.mem_iff.mp hi)
     refine PySem.W.KasFin.intro F' N' (.head fun q hq=>Nat.ne_of_lt (hD q hq)) fun h2 c F2 N2=>?_;have rv2:Vals (a.toList.map fun i=>zs.getD i .non) (a.toList.map fun i=>its.getD i Value.none):=Ql rv inR;obtain⟨hn,I'⟩:=I.laidN F F2 N2 hD rv2 (by rw[List.length_map,pl.length_eq,List.length_range,← hlen];exact hz);refine⟨.ref D,_,I',rfl,q D _ (a.toList.map fun i=>rs.getD i (List.replicate k 0)) hn ?_ (ZO tp inR) ?_⟩
     · have:=pl.map fun i=>rs.getD i (List.replicate k 0)
       rw[← hlen,tp.len,ze]at this;exact this
     · have sz:a.size=its.length:=by
         have:=pl.length_eq
         rw[Array.length_toList,List.length_range]at this;exact this
       refine List.pairwise_iff_getElem.mpr fun i j hi hj lt=>?_;have hj':j < a.size:=by simpa using hj
       have hi':i < a.size:=by omega
       have:=Srt.Up.le (qax hk) up (x:=i) (j - i) (by omega)
       rw[show i+(j - i)=j by omega]at this;simp only[List.getElem_map,Array.getElem_toList];simp only[ltI,Array.getD_eq_getD_getElem?,Array.getElem?_eq_getElem hj',Array.getElem?_eq_getElem hi',Option.getD_some]at this;exact this
end
def qd9 (i j:Int):Prop:=0 < j∧j < 340282366920938463463374607431768211456
theorem ZC {X:Cx}:OpR X (binaryOp .FloorDiv) (rI qd9 fun i j=>.int (i / j)):=opI fun i j _ _ _ _ _ hc q=>by
 have h1:(0:Int) < j:=hc.1;have h2:j < 340282366920938463463374607431768211456:=hc.2;have h3:j.natAbs < 2 ^ 128:=by omega
 have h4:j.natAbs.log2 < 128:=(Nat.log2_lt (by omega)).mpr h3;exact floordiv_int (by omega) (by rw[Int.fdiv_eq_ediv_of_nonneg i (by omega)];exact q) (.inl (PyProof.noPylong_of_log2 (by omega)))
end L2
namespace L2
open PySem PySem.Spec PyProof.Rows PySem.W
open PySem.W (Frag)
theorem jg:∀ (f n r:Nat),r≤1->minRun' f n r≤n+r
 | 0,n,r,_=>Nat.le_refl _
 | f+1,n,r,hr=>by
   rw[minRun'_succ];split
   · exact Nat.le_refl _
   · have ih:=jg f (n / 2) (max r (n % 2)) (by omega);omega
section
variable {prog:Program}{w:World}{A:Around}{E:Value->Shared->Prop}{κ:SortKind}{it:Array Keyed}{s:Shared}
theorem qcu {r:Nat}{Q:Unit->SortSt->Shared->Prop}{G:Shared->Prop} (hG:∀ st s',arrOf st=(List.toArray (List.range (r+2))).map (kas_item it)->failedOf st=none->G s'->Q () st s')
   (up:(kas_asc (List.toArray (List.range (r+2))) (r+1) 1).kasWp (kas_cmp prog w A κ it) (fun k s'=>k=r+2∧G s') s):kasC (model prog w) A E sortRuns' Q (kas_st κ it (List.toArray (List.range (r+2)))) s:=by
 have z0:(List.toArray (List.range (r+2))).size=r+2:=by rw[List.size_toArray,List.length_range]
 have z1:(arrOf (kas_st κ it (List.toArray (List.range (r+2))))).size=r+2:=(Array.size_map ..).trans z0
 have cnt:(kas_count (r+2) (List.toArray (List.range (r+2)))).kasWp (kas_cmp prog w A κ it) (fun x s'=>x.1=r+2∧x.2=List.toArray (List.range (r+2))∧G s') s:=by
   unfold kas_count;rw[KasT.kasWp_bind];refine kas_wp_mono up fun k s' zz_=>?_;obtain⟨e,g⟩:=zz_;subst e;rw[if_pos (beq_self_eq_true _)];exact⟨rfl,rfl,g⟩
 rw[sortRuns'_eq];refine kasC_bind (kasC_get ?_);simp only[z1];refine kasC_bind (kasC_range ?_);show kasC _ _ _ (forIn (0::1::List.range' 2 r) _ _) _ _ s;refine kasC_cons ?_;dsimp only;rw[if_neg (by omega)];simp only[Nat.zero_add,Nat.sub_zero];refine kasC_bind (kas_count_ (by omega) (Nat.le_of_eq z0.symm) (fun k q s' _ _ _ hk=>?_) cnt);obtain⟨k1,k2,g⟩:=hk;simp only at k1 k2;subst k1 k2;dsimp only;rw[if_neg (Nat.not_lt.mpr (jg (r+2) (r+2) 0 (Nat.zero_le _)))];refine kasC_bind (kasC_get ?_);rw[show (pendingOf (kas_st κ it (List.toArray (List.range (r+2))))).back?=none from rfl];dsimp only;refine kasC_bind (kasC_modify (kasC_pure ?_));show kasC _ _ _ (forIn (1::List.range' 2 r) _ _) _ _ s';refine kasC_cons ?_;dsimp only;rw[if_pos (Nat.le_refl _)];refine kasC_pure ?_;refine kasC_bind (kasC_range ?_);show kasC _ _ _ (forIn (0::1::List.range' 2 r) _ _) _ _ s';refine kasC_cons (kasC_bind (kasC_get ?_));rw[if_pos (show (pendingOf (setPending (kas_st κ it (List.toArray (List.range (r+2)))) ((pendingOf (kas_st κ it (List.toArray (List.range (r+2))))).push (0,r+2,0)))).size≤1 from Nat.le_refl 1)];exact kasC_pure (kasC_pure (hG _ _ rfl rfl g))
theorem qcf {vs:List Value}{G:Shared->Prop} (g:G s) (lt:∀ i,i+1 < vs.length->∀ C:Bool->Shared->Prop,C false s->wpAny (model prog w) A (keyLt' κ (vs.getD (i+1) Value.none) (vs.getD i Value.none)) C (fun _ _=>False) s) :
   ∀ (f k:Nat),1≤k->k+f=vs.length->(kas_asc (List.toArray (List.range vs.length)) f k).kasWp (kas_cmp prog w A κ (vs.toArray.zip vs.toArray)) (fun m s'=>m=vs.length∧G s') s
 | 0,k,_,h=>⟨by omega,g⟩
 | f+1,k,h1,h=>by
   have at_:∀ i,i < vs.length->(List.toArray (List.range vs.length)).getD i 0=i:=fun i hi=>by simp[Array.getD,hi]
   show kas_cmp prog w A κ (vs.toArray.zip vs.toArray) ((List.toArray (List.range vs.length)).getD k 0) ((List.toArray (List.range vs.length)).getD (k - 1) 0) _ s;rw[at_ k (by omega),at_ (k - 1) (by omega)];unfold kas_cmp;rw[kat_item rfl,kat_item rfl];have q:=lt (k - 1) (by omega);rw[show k - 1+1=k by omega]at q;refine q _ ?_;dsimp only;rw[if_neg (by decide)];exact qcf g lt f (k+1) (by omega) (by omega)
theorem qcs {a:Addr}{vs:List Value}{n:Nat}{P:PySem.Fin->Shared->Prop} (ho:s.heap.get? a=some (seqObj "list" vs.toArray n)) (h2:2≤vs.length) (hz:vs.length≤sizeLine)
   (ask:∀ h',(∀ b o,b≠a->s.heap.get? b=some o->h'.get? b=some o)->wpAny (model prog w) A (keyKind' vs.toArray) (fun κ s'=>s'={ s with heap:=h' }∧∀ i,i+1 < vs.length->∀ C:Bool->Shared->Prop,C false s'->wpAny (model prog w) A (keyLt' κ (vs.getD (i+1) Value.none) (vs.getD i Value.none)) C (fun _ _=>False) s') (fun _ _=>False) { s with heap:=h' })
   (h:∀ c h',(∀ b o,b≠a->s.heap.get? b=some o->h'.get? b=some o)->h'.get? a=some (seqObj "list" vs.toArray c)->P (.done (.ret .none)) { s with heap:=h' }) :
   wpAny (model prog w) A (Builtin.«list.sort» ⟨[.ref a],[]⟩) P E s:=by
 obtain⟨r,hr⟩:∃ r,vs.length=r+2:=⟨vs.length - 2,by omega⟩
 have big:¬ vs.toArray.size < 2:=by rw[List.size_toArray];omega
 have zz:vs.toArray.size≤sizeLine:=by rw[List.size_toArray];exact hz
 obtain⟨e1,ho1⟩:∃ e1,(s.heap.update a (Obj.mapSeq fun _=>(#[]:Array Value))).get? a=some (seqObj "list" #[] e1):=⟨_,get?_update_seq ho fun _=>#[]⟩
 rw[list_sort_plain];refine wpAny_bind (listItems_at ho rfl (wpAny_bind (listUpdate_at ho rfl ?_ zz (Nat.zero_le _))));refine wpAny_bind (seqEpoch_at ho1 rfl (wpAny_bind (wpAny_newTuple ?_ zz)));refine wpAny_bind (wpAny_newList (wpAny_holding ?_) (Nat.zero_le _))
 have k3:∀ b o,b≠a->s.heap.get? b=some o->(((s.heap.update a (Obj.mapSeq fun _=>(#[]:Array Value))).push (seqObj "tuple" vs.toArray 0)).push (seqObj "list" #[] 0)).get? b=some o:=fun b o hb q =>
   Heap.get?_push_of_some _ (Heap.get?_push_of_some _ (((Heap.SameBut.update s.heap a _).2 b hb).trans q))
 have ho2:(((s.heap.update a (Obj.mapSeq fun _=>(#[]:Array Value))).push (seqObj "tuple" vs.toArray 0)).push (seqObj "list" #[] 0)).get? a=some (seqObj "list" #[] e1):=Heap.get?_push_of_some _ (Heap.get?_push_of_some _ ho1);dsimp only;rw[if_neg big,if_neg big];refine wpAny_bind (wpAny_mono (ask _ k3) (fun κ s' zz_=>?_) fun _ _ x=>x.elim);obtain⟨es,lt⟩:=zz_;subst es
 have it0:(List.toArray (List.range (r+2))).map (kas_item (vs.toArray.zip vs.toArray))=vs.toArray.zip vs.toArray:=by
   have:=kas_range (vs.toArray.zip vs.toArray)
   rwa [show (vs.toArray.zip vs.toArray).size=r+2 by simp[hr]]at this
 have st0:SortSt.mk' κ (vs.toArray.zip vs.toArray) #[] 7 none=kas_st κ (vs.toArray.zip vs.toArray) (List.toArray (List.range (r+2))):=by
   unfold kas_st;rw[it0]
 have up:=qcf (G:=fun s'=>s'={ s with heap:=((s.heap.update a (Obj.mapSeq fun _=>(#[]:Array Value))).push (seqObj "tuple" vs.toArray 0)).push (seqObj "list" #[] 0) }) rfl lt (r+1) 1 (Nat.le_refl _) (by omega);rw[hr]at up;have run:=qcu (E:=E) (Q:=fun _ st s'=>arrOf st=vs.toArray.zip vs.toArray∧failedOf st=none∧s'={ s with heap:=((s.heap.update a (Obj.mapSeq fun _=>(#[]:Array Value))).push (seqObj "tuple" vs.toArray 0)).push (seqObj "list" #[] 0) }) (fun st s' x y z=>⟨x.trans it0,y,z⟩) up;rw[← st0]at run;unfold kasC at run;refine wpAny_bind (wpAny_mono run ?_ fun _ _ x=>x);rintro⟨⟨⟩,st⟩ s' ⟨ha,hf,rfl⟩
 have snd0:Array.map (fun x:Keyed=>x.snd) (arrOf st)=vs.toArray:=by
   rw[ha];apply Array.toList_inj.mp;simp only[Array.toList_map,Array.toList_zip];exact List.map_snd_zip (Nat.le_refl _)
 dsimp only;rw[snd0];refine wpAny_bind (seqEpoch_at ho2 rfl (wpAny_bind (listUpdate_at ho2 rfl ?_ (Nat.zero_le _) (Nat.le_succ_of_le zz))));rw[hf];simp only[bne_self_eq_false,Bool.false_eq_true,if_false];refine wpAny_pure (h _ _ (fun b o hb q=>?_) (get?_update_seq ho2 fun _=>vs.toArray));exact((Heap.SameBut.update _ a _).2 b hb).trans (k3 b o hb q)
theorem J8 {l:Addr}{vs:List Value}{Q:Value->Shared->Prop} (hl:s.heap.IsList l vs.toArray) (h2:2≤vs.length) (hz:vs.length≤sizeLine)
   (ask:∀ h',(∀ b o,s.heap.get? b=some o->h'.get? b=some o)->wpAny (model prog w) A.in1.in1 (keyKind' vs.toArray) (fun κ s'=>s'={ s with heap:=h' }∧∀ i,i+1 < vs.length->∀ C:Bool->Shared->Prop,C false s'->wpAny (model prog w) A.in1.in1 (keyLt' κ (vs.getD (i+1) Value.none) (vs.getD i Value.none)) C (fun _ _=>False) s') (fun _ _=>False) { s with heap:=h' })
   (h:∀ D c h',s.heap.get? D=none->(∀ b o,s.heap.get? b=some o->h'.get? b=some o)->h'.get? D=some (seqObj "list" vs.toArray c)->Q (.ref D) { s with heap:=h' }) :
   wpAny (model prog w) A (call (.builtin "sorted") [.ref l]) Q E s:=by
 refine Calls.call_function_entry kind_sorted plain_sorted entry_sorted (args_sorted1 _) ?_;unfold Builtin.«sorted»;refine wpAny_bind (m:=checkCount "sorted" 1 1 _) (wpAny_pure ?_);refine wpAny_bind (collect_list hl (wpAny_bind (wpAny_newList ?_ hz)) hz);generalize hg:(s.heap.push (seqObj "list" #[] 0)).update s.heap.objs.size (Obj.mapSeq (·++vs.toArray))=g;have z1:g.objs.size=s.heap.objs.size+1:=by rw[← hg,Heap.size_update,size_push']
 have at_:(g.push (seqObj "list" vs.toArray 0)).get? (s.heap.objs.size+1)=some (seqObj "list" vs.toArray 0):=by rw[← z1];exact Heap.get?_push_size _ rfl
 have kp:∀ b o,s.heap.get? b=some o->(g.push (seqObj "list" vs.toArray 0)).get? b=some o:=fun b o q=>by
   have lt:b < s.heap.objs.size:=Heap.lt_size q;rw[Heap.get?_push_ne _ _ _ (by rw[z1];exact Nat.ne_of_lt (Nat.lt_succ_of_lt lt)),← hg,Heap.get?_update_ne _ _ _ _ (Nat.ne_of_lt lt),Heap.get?_push_ne _ _ _ (Nat.ne_of_lt lt)];exact q
 rw[z1];refine wpAny_bind (wpAny_holding (wpAny_call_entry slot_list_sort ⟨_,at_,rfl⟩ entry_list_sort ?body (args_list_sort _)))
 case body =>
   refine qcs (s:={ s with heap:=g.push (seqObj "list" vs.toArray 0) }) at_ h2 hz (fun h' k=>ask h' fun b o q=>k b o (Nat.ne_of_lt (Nat.lt_succ_of_lt (Heap.lt_size q))) (kp b o q)) fun c h' k e=>?_;exact⟨_,rfl,wpAny_pure ⟨_,rfl,h (s.heap.objs.size+1) c h' (Heap.get?_none_of_le (Nat.le_succ _)) (fun b o q=>k b o (Nat.ne_of_lt (Nat.lt_succ_of_lt (Heap.lt_size q))) (kp b o q)) e⟩⟩
end
inductive Ji (K:Frag) (xs:List V) (H:Hp) (Q:VK):Prop
 | mk (l:Addr) (zs:List V) (rs:List (List Int)) (k:Nat) (h1:xs=[.ref l]) (h2:SqL K H l zs) (h3:TupI H zs rs) (h4:(∀ r∈rs,r.length=k)) (h5:0 < k) (h6:rs.Pairwise (fun a b=>qK b a=false)) (h7:∀ p:Addr,H p=none->Q (.ref p) (upd H p (.lst zs))):Ji K xs H Q
def qbR (K:Frag):List V->Hp->VK->Prop:=fun xs H Q=>Ji K xs H Q
section
variable {X:Cx}
theorem call_sortU:CallR X (.builtin "sorted") (qbR X.K):=by
 intro pins s σ H xs us Q I r h;obtain⟨l,zs,rs,k,rfl,hq,tp,hk,k0,up,q⟩:=h;obtain⟨u,rfl,ru⟩:=JD r;cases (show u=Value.ref l from ru);obtain⟨its,rv,p,hz⟩:=I.list hq;have hlen:=rv.length
 have fin:∀ D c h',s.heap.get? D=none->(∀ b o,s.heap.get? b=some o->h'.get? b=some o)->h'.get? D=some (seqObj "list" its.toArray c)->EP X pins σ Q (.ref D) { s with heap:=h' }:=fun D c h' free kp e=>by
   have I':Inv X pins σ (upd H D (.lst zs)) { s with heap:=h' }:=I.laidL (t':=s.toks) (fun b u _ z=>kp b u z) (fun m ⟨o,es,ep,ho,r⟩=>⟨o,es,ep,kp _ _ ho,r⟩) free ⟨hz,its,c,rv,e⟩;exact⟨.ref D,_,I',rfl,q D (I.unlaid free)⟩
 by_cases h2:its.length < 2
 · exact Zd p.isList h2 fun D c h' free kp e=>fin D c h' free kp e
 · refine J8 p.isList (by omega) (by rw[← hlen];exact hz) (fun h' kp=>?_) fun D c h' free kp e=>fin D c h' free kp e;have pa:=Zr I (h':=h') (fun b u _ z=>kp b u z) tp rv;obtain⟨fs,t1,t2,t3⟩:=QA pa fun r hr=>by rw[hk r hr];exact k0
   refine PySem.W.kat_kind (T:=.type "int") t1 (by omega) (fun v hv=>?_) rfl ⟨rfl,fun i hi C hC=>?_⟩
   · obtain⟨i,t,rfl⟩:=t3 v hv;exact PySem.W.Looks.of_pure rfl
   · obtain⟨x,ox,ux,nx,ex,rx,hx,cx,dx⟩:=qN (d:=Value.none) (e:=List.replicate k 0) pa hi;obtain⟨y,oy,uy,ny,ey,ry,hy,cy,dy⟩:=qN (d:=Value.none) (e:=List.replicate k 0) pa (show i < its.length by omega);rw[ex,ey];refine PySem.W.kat_lt hx dx hy dy ?_;have lx:=qT hk (i+1);have ly:=qT hk i;have e1':=rx.length;have e2':=ry.length;rw[List.length_map]at e1' e2';rw[show decide (ux.toArray.size < uy.toArray.size)=false from decide_eq_false (by rw[List.size_toArray,List.size_toArray];omega)];refine Jt rx ry (by omega) ?_;have lr:rs.length=its.length:=by rw[← tp.len];exact hlen
     have a1:i+1 < rs.length:=by omega
     have:=List.pairwise_iff_getElem.mp up i (i+1) (by omega) a1 (by omega)
     rw[List.getD_eq_getElem?_getD,List.getElem?_eq_getElem a1,List.getD_eq_getElem?_getD,List.getElem?_eq_getElem (show i < rs.length by omega)];simp only[Option.getD_some];rw[this];exact hC
end
end L2
namespace Sm
open PySem PySem.W PyProof.Rows
def jM:Bool->Keyed->Array Keyed->Nat->Nat->Nat->StateT SortSt Sem (Option Nat):=sortPriv% PySem.Builtin.gallop
def qbn:Array Keyed->Array Keyed->StateT SortSt Sem (Array Keyed):=sortPriv% PySem.Builtin.mergeLo
def qbo:Array Keyed->Array Keyed->StateT SortSt Sem (Array Keyed):=sortPriv% PySem.Builtin.mergeHi
section
variable {prog:Program}{w:World}{A:Around}{E:Value->Shared->Prop}{s:Shared}{κ:SortKind}{L:Keyed->Keyed->Bool}{U:Keyed->Prop}{st:SortSt}
def Asks (prog:Program) (w:World) (A:Around) (s:Shared) (κ:SortKind) (L:Keyed->Keyed->Bool) (U:Keyed->Prop):Prop:=∀ x y,U x->U y->∀ C:Bool->Shared->Prop,C (L x y) s->wpAny (model prog w) A (keyLt' κ x.1 y.1) C (fun _ _=>False) s
theorem ZM (ask:Asks prog w A s κ L U) {x y:Keyed} (hx:U x) (hy:U y) (hk:kindOf st=κ) {Q:Option Bool->SortSt->Prop} (h:Q (some (L x y)) st):wpS (model prog w) A E s (lt' x y) Q st:=by
 rw[lt'_eq];refine wpS_bind (wpS_get ?_);rw[hk];refine wpS_bind (wpS_lift (wpAny_attempt (wpAny_mono (ask x y hx hy (fun c s'=>s'=s∧c=L x y) ⟨rfl,rfl⟩) (fun c s' hc=>?_) fun _ _ hF=>hF.elim)));obtain⟨rfl,rfl⟩:=hc;exact⟨rfl,wpS_pure h⟩
theorem qq {arr:Array Keyed}{i:Nat}{x:Keyed} (e:arr[i]?=some x) {Q:Keyed->SortSt->Prop} (h:Q x st):wpS (model prog w) A E s (elem' arr i) Q st:=by
 rw[elem'_eq,e];exact wpS_pure h
theorem JB {bf:Nat->Bool}{n:Nat}{f:Nat->Option (Option Nat)×Nat×Nat->StateT SortSt Sem (ForInStep (Option (Option Nat)×Nat×Nat))}{R:Option (Option Nat)×Nat×Nat->SortSt->Prop} (anti:∀ i j,i≤j->j < n->bf j=true->bf i=true)
   (stop:∀ x lo hi,lo ≥ hi->∀ R':ForInStep (Option (Option Nat)×Nat×Nat)->SortSt->Prop,R' (.done (none,lo,hi)) st->wpS (model prog w) A E s (f x (none,lo,hi)) R' st)
   (step:∀ x lo hi,hi≤n->lo < hi->∀ R':ForInStep (Option (Option Nat)×Nat×Nat)->SortSt->Prop,(bf (lo+(hi - lo) / 2)=true->R' (.yield (none,lo+(hi - lo) / 2+1,hi)) st)->(bf (lo+(hi - lo) / 2)=false->R' (.yield (none,lo,lo+(hi - lo) / 2)) st)->wpS (model prog w) A E s (f x (none,lo,hi)) R' st)
   {lo hi:Nat} (h1:lo≤hi) (h2:hi≤n) (ht:∀ i,i < lo->bf i=true) (hf:∀ i,hi≤i->i < n->bf i=false)
   (fin:∀ k,k≤n->(∀ i,i < k->bf i=true)->(∀ i,k≤i->i < n->bf i=false)->R (none,k,k) st):wpS (model prog w) A E s (forIn [:n] (none,lo,hi) f) R st:=by
 refine wpS_forRange (I:=fun x c st'=>st'=st∧∃ lo hi,c=(none,lo,hi)∧lo≤hi∧hi≤n∧hi≤lo+(n - x)∧(∀ i,i < lo->bf i=true)∧∀ i,hi≤i->i < n->bf i=false) ?_ ?_ ⟨rfl,lo,hi,rfl,h1,h2,by omega,ht,hf⟩
 · rintro x c st' _ hx ⟨rfl,lo,hi,rfl,h1,h2,h3,ht,hf⟩;rcases Nat.lt_or_ge lo hi with c|c
   · refine step x lo hi h2 c _ (fun e=>⟨rfl,_,_,rfl,by omega,h2,by omega,fun i hi'=>?_,hf⟩) (fun e=>⟨rfl,_,_,rfl,by omega,by omega,by omega,ht,fun i h4 h5=>?_⟩)
     · exact anti i _ (Nat.le_of_lt_succ hi') (by omega) e
     · cases eb:bf i with
       | false=>rfl
       | true=>rw[anti _ i h4 h5 eb]at e;cases e
   · have:lo=hi:=by omega
     subst this;exact stop x _ _ c _ (fin _ h2 ht hf)
 · rintro c st' ⟨rfl,lo,hi,rfl,h1,h2,h3,ht,hf⟩
   have:lo=hi:=by omega
   subst this;exact fin _ h2 ht hf
theorem Q7 (ask:Asks prog w A s κ L U) (hk:kindOf st=κ) {left:Bool}{key:Keyed}{arr:Array Keyed}{base n hint:Nat}{bf:Nat->Bool} (uk:U key)
   (hb:∀ i,i < n->∃ x,arr[base+i]?=some x∧U x∧bf i=(if left=true then L x key else !(L key x))) (anti:∀ i j,i≤j->j < n->bf j=true->bf i=true) (hh:hint < n)
   {Q:Option Nat->SortSt->Prop} (h:∀ k,k≤n->(∀ i,i < k->bf i=true)->(∀ i,k≤i->i < n->bf i=false)->Q (some k) st):wpS (model prog w) A E s (jM left key arr base n hint) Q st:=by
 have bey:∀ i,i < n->∀ {Q':Option Bool->SortSt->Prop},Q' (some (bf i)) st->wpS (model prog w) A E s (do let x ← elem' arr (base+i);if left=true then lt' x key else do let d ← lt' key x;pure (Option.map (fun x=>!x) d)) Q' st:=by
   intro i hi Q' hQ;obtain⟨x,ex,ux,eb⟩:=hb i hi;refine wpS_bind (qq ex ?_)
   cases left with
   | true=>rw[if_pos rfl]at eb ⊢;exact ZM ask ux uk hk (eb▸hQ)
   | false=>rw[if_neg (by decide)]at eb ⊢;exact wpS_bind (ZM ask uk ux hk (wpS_pure (by rw[Option.map_some,← eb];exact hQ)))
 have anti':∀ i j,i≤j->j < n->bf i=false->bf j=false:=fun i j h1 h2 e=>by
   cases eb:bf j with
   | false=>rfl
   | true=>rw[anti i j h1 h2 eb]at e;cases e
 refine wpS_bind (bey _ hh ?_);dsimp only;by_cases c:bf hint=true
 · rw[if_pos c];refine wpS_bind (wpS_mono (wpS_forRange (I:=fun x c st'=>st'=st∧∃ last ofs,c=(none,last,ofs)∧last < ofs∧x+1≤ofs∧hint+last < n∧bf (hint+last)=true) (Q:=fun c st'=>st'=st∧∃ last ofs,c=(none,last,ofs)∧last < ofs∧hint+last < n∧bf (hint+last)=true∧(hint+ofs < n->bf (hint+ofs)=false)) ?_ ?_ ⟨rfl,0,1,rfl,by omega,by omega,by omega,c⟩) ?_)
   · rintro x c st' _ hx ⟨rfl,last,ofs,rfl,h1,h2,h3,h4⟩;dsimp only;by_cases c1:ofs ≥ n - hint
     · rw[if_pos c1];exact wpS_pure ⟨rfl,last,ofs,rfl,h1,h3,h4,fun z=>by omega⟩
     · rw[if_neg c1];refine wpS_bind (bey _ (by omega) ?_);dsimp only
       cases eb:bf (hint+ofs) with
       | true=>exact wpS_pure ⟨rfl,ofs,2 * ofs+1,rfl,by omega,by omega,by omega,eb⟩
       | false=>exact wpS_pure ⟨rfl,last,ofs,rfl,h1,h3,h4,fun _=>eb⟩
   · rintro c st' ⟨rfl,last,ofs,rfl,h1,h2,h3,h4⟩;exact⟨rfl,last,ofs,rfl,h1,h3,h4,fun z=>by omega⟩
   · rintro c st' ⟨rfl,last,ofs,rfl,h1,h3,h4,h5⟩;dsimp only;refine wpS_bind (JB (bf:=bf) anti (fun x lo hi hg R' hR=>?_) (fun x lo hi hn hl R' hR1 hR2=>?_) (by omega) (by omega) (fun i hi=>anti i _ (by omega) h3 h4) (fun i h6 h7=>anti' (hint+ofs) i (by omega) h7 (h5 (by omega))) (fun k k1 k2 k3=>wpS_pure (h k k1 k2 k3)))
     · dsimp only;rw[if_pos hg];exact wpS_pure hR
     · dsimp only;rw[if_neg (by omega)];refine wpS_bind (bey _ (by omega) ?_);dsimp only
       cases eb:bf (lo+(hi - lo) / 2) with
       | true=>exact wpS_pure (hR1 eb)
       | false=>exact wpS_pure (hR2 eb)
 · rw[if_neg c];refine wpS_bind (wpS_mono (wpS_forRange (I:=fun x c st'=>st'=st∧∃ last ofs,c=(none,last,ofs)∧last < ofs∧x+1≤ofs∧last≤hint∧bf (hint - last)=false) (Q:=fun c st'=>st'=st∧∃ last ofs,c=(none,last,ofs)∧last < ofs∧last≤hint∧bf (hint - last)=false∧(ofs≤hint->bf (hint - ofs)=true)) ?_ ?_ ⟨rfl,0,1,rfl,by omega,by omega,by omega,by simpa using c⟩) ?_)
   · rintro x c st' _ hx ⟨rfl,last,ofs,rfl,h1,h2,h3,h4⟩;dsimp only;by_cases c1:ofs ≥ hint+1
     · rw[if_pos c1];exact wpS_pure ⟨rfl,last,ofs,rfl,h1,h3,h4,fun z=>by omega⟩
     · rw[if_neg c1];refine wpS_bind (bey _ (by omega) ?_);dsimp only
       cases eb:bf (hint - ofs) with
       | true=>exact wpS_pure ⟨rfl,last,ofs,rfl,h1,h3,h4,fun _=>eb⟩
       | false=>exact wpS_pure ⟨rfl,ofs,2 * ofs+1,rfl,by omega,by omega,by omega,eb⟩
   · rintro c st' ⟨rfl,last,ofs,rfl,h1,h2,h3,h4⟩;exact⟨rfl,last,ofs,rfl,h1,h3,h4,fun z=>by omega⟩
   · rintro c st' ⟨rfl,last,ofs,rfl,h1,h3,h4,h5⟩;dsimp only;refine wpS_bind (JB (bf:=bf) anti (fun x lo hi hg R' hR=>?_) (fun x lo hi hn hl R' hR1 hR2=>?_) (by omega) (by omega) (fun i hi=>anti i (hint - ofs) (by omega) (by omega) (h5 (by omega))) (fun i h6 h7=>anti' (hint - last) i (by omega) h7 h4) (fun k k1 k2 k3=>wpS_pure (h k k1 k2 k3)))
     · dsimp only;rw[if_pos hg];exact wpS_pure hR
     · dsimp only;rw[if_neg (by omega)];refine wpS_bind (bey _ (by omega) ?_);dsimp only
       cases eb:bf (lo+(hi - lo) / 2) with
       | true=>exact wpS_pure (hR1 eb)
       | false=>exact wpS_pure (hR2 eb)
end
def Asc (L:Keyed->Keyed->Bool) (l:List Keyed):Prop:=l.Pairwise fun x y=>L y x=false
structure OrdK (L:Keyed->Keyed->Bool) (U:Keyed->Prop):Prop where
 tr:∀ a b c,U a->U b->U c->L b a=false->L c b=false->L c a=false
 asy:∀ a b,L a b=true->L b a=false
theorem drop_at {l:List Keyed}{i:Nat}{x:Keyed} (h:l[i]?=some x):l.drop i=x::l.drop (i+1):=by
 obtain⟨hi,rfl⟩:=List.getElem?_eq_some_iff.mp h;exact List.drop_eq_getElem_cons hi
structure Good (L:Keyed->Keyed->Bool) (A B out:List Keyed) (i j:Nat):Prop where
 pe:(out++(A.drop i++B.drop j)).Perm (A++B)
 so:Asc L out
 le:∀ o∈out,∀ x,x∈A.drop i∨x∈B.drop j->L x o=false
def Q6 (L:Keyed->Keyed->Bool) (A B R:List Keyed):Prop:=R.Perm (A++B)∧Asc L R
section
variable {L:Keyed->Keyed->Bool}{U:Keyed->Prop}{A B out:List Keyed}{i j:Nat}
theorem Good.a (g:Good L A B out i j) (sA:Asc L A) {x:Keyed} (hx:A[i]?=some x) (hy:∀ y∈B.drop j,L y x=false):Good L A B (out++[x]) (i+1) j:=by
 have e:=drop_at hx;have sx:Asc L (x::A.drop (i+1)):=by rw[← e];exact List.Pairwise.sublist (List.drop_sublist i A) sA
 refine⟨by have:=g.pe;rw[e]at this;simpa using this,List.pairwise_append.mpr ⟨g.so,List.pairwise_singleton _ _,fun o ho y hy=>?_⟩,fun o ho y h=>?_⟩
 · rw[List.mem_singleton.mp hy];exact g.le o ho x (.inl (by rw[e];exact List.mem_cons_self))
 · rcases List.mem_append.mp ho with ho|ho
   · exact g.le o ho y (h.imp_left fun z=>by rw[e];exact List.mem_cons_of_mem _ z)
   · rw[List.mem_singleton.mp ho];rcases h with h|h
     · exact(List.pairwise_cons.mp sx).1 y h
     · exact hy y h
theorem Good.b (g:Good L A B out i j) (sB:Asc L B) {y:Keyed} (hy:B[j]?=some y) (hx:∀ x∈A.drop i,L x y=false):Good L A B (out++[y]) i (j+1):=by
 have e:=drop_at hy;have sx:Asc L (y::B.drop (j+1)):=by rw[← e];exact List.Pairwise.sublist (List.drop_sublist j B) sB
 refine⟨?_,List.pairwise_append.mpr ⟨g.so,List.pairwise_singleton _ _,fun o ho z hz=>?_⟩,fun o ho z h=>?_⟩
 · have:=g.pe
   rw[e]at this;refine List.Perm.trans ?_ this;rw[List.append_assoc];exact List.Perm.append_left out (List.perm_middle (l₁:=A.drop i) (a:=y) (l₂:=B.drop (j+1))).symm
 · rw[List.mem_singleton.mp hz];exact g.le o ho y (.inr (by rw[e];exact List.mem_cons_self))
 · rcases List.mem_append.mp ho with ho|ho
   · exact g.le o ho z (h.imp_right fun q=>by rw[e];exact List.mem_cons_of_mem _ q)
   · rw[List.mem_singleton.mp ho];rcases h with h|h
     · exact hx z h
     · exact(List.pairwise_cons.mp sx).1 z h
theorem ZP {l:List Keyed}{i k:Nat}{x:Keyed} (h:l[i+k]?=some x):(l.drop i).take (k+1)=(l.drop i).take k++[x]:=by
 rw[List.take_succ,List.getElem?_drop,h];rfl
theorem Good.as (sA:Asc L A):∀ (k:Nat),Good L A B out i j->i+k≤A.length->(∀ m,m < k->∀ x,A[i+m]?=some x->∀ y∈B.drop j,L y x=false)->Good L A B (out++(A.drop i).take k) (i+k) j
 | 0,g,_,_=>by simpa using g
 | k+1,g,h,hy=>by
   have ih:=Good.as sA k g (by omega) fun m hm=>hy m (by omega);have e:A[i+k]?=some A[i+k]:=List.getElem?_eq_getElem (by omega);rw[ZP e,← List.append_assoc];exact ih.a sA e (hy k (by omega) _ e)
theorem Good.bs (sB:Asc L B):∀ (k:Nat),Good L A B out i j->j+k≤B.length->(∀ m,m < k->∀ y,B[j+m]?=some y->∀ x∈A.drop i,L x y=false)->Good L A B (out++(B.drop j).take k) i (j+k)
 | 0,g,_,_=>by simpa using g
 | k+1,g,h,hy=>by
   have ih:=Good.bs sB k g (by omega) fun m hm=>hy m (by omega);have e:B[j+k]?=some B[j+k]:=List.getElem?_eq_getElem (by omega);rw[ZP e,← List.append_assoc];exact ih.b sB e (hy k (by omega) _ e)
theorem Good.doneB (g:Good L A B out i j) (sA:Asc L A) (h:j=B.length):Q6 L A B (out++A.drop i++B.drop j):=by
 refine⟨by rw[List.append_assoc];exact g.pe,?_⟩;have e:B.drop j=[]:=by rw[h];exact List.drop_length
 rw[e,List.append_nil];exact List.pairwise_append.mpr ⟨g.so,List.Pairwise.sublist (List.drop_sublist i A) sA,fun o ho x hx=>g.le o ho x (.inl hx)⟩
theorem Good.doneA (g:Good L A B out i j) (sB:Asc L B) (h:i=A.length):Q6 L A B (out++A.drop i++B.drop j):=by
 refine⟨by rw[List.append_assoc];exact g.pe,?_⟩;have e:A.drop i=[]:=by rw[h];exact List.drop_length
 rw[e,List.append_nil];exact List.pairwise_append.mpr ⟨g.so,List.Pairwise.sublist (List.drop_sublist j B) sB,fun o ho x hx=>g.le o ho x (.inr hx)⟩
theorem Good.last (g:Good L A B out i j) (sB:Asc L B) (h:i+1=A.length) (hl:∀ x,A[i]?=some x->∀ y∈B,L x y=false):Q6 L A B (out++B.drop j++A.drop i):=by
 have e0:A[i]?=some A[i]:=List.getElem?_eq_getElem (by omega);have e:A.drop i=[A[i]]:=by rw[drop_at e0,h,List.drop_length]
 refine⟨?_,?_⟩
 · refine List.Perm.trans ?_ g.pe;rw[List.append_assoc];exact List.Perm.append_left out List.perm_append_comm
 · rw[e];refine List.pairwise_append.mpr ⟨List.pairwise_append.mpr ⟨g.so,List.Pairwise.sublist (List.drop_sublist j B) sB,fun o ho y hy=>g.le o ho y (.inr hy)⟩,List.pairwise_singleton _ _,fun o ho x hx=>?_⟩;rw[List.mem_singleton.mp hx];rcases List.mem_append.mp ho with ho|ho
   · exact g.le o ho _ (.inl (by rw[e];exact List.mem_singleton_self _))
   · exact hl _ e0 o (List.mem_of_mem_drop ho)
end
section
variable {prog:Program}{w:World}{Ar:Around}{E:Value->Shared->Prop}{s:Shared}{κ:SortKind}{L:Keyed->Keyed->Bool}{U:Keyed->Prop}{st:SortSt}
abbrev ZZ (st:SortSt) (g:Nat):SortSt:=SortSt.mk' (kindOf st) (arrOf st) (pendingOf st) g (failedOf st)
theorem OrdK.irr (O:OrdK L U) (x:Keyed):L x x=false:=by
 cases h:L x x with
 | false=>rfl
 | true=>rw[← h];exact O.asy _ _ h
def Seg (L:Keyed->Keyed->Bool) (arr:Array Keyed) (base n:Nat):Prop:=∀ i j,i≤j->j < n->∀ x y,arr[base+i]?=some x->arr[base+j]?=some y->L y x=false
theorem qdZ (O:OrdK L U) (ask:Asks prog w Ar s κ L U) (hk:kindOf st=κ) {key:Keyed}{arr:Array Keyed}{base n hint:Nat} (uk:U key) (ua:∀ x∈arr.toList,U x) (hn:base+n≤arr.size) (hh:hint < n) (sg:Seg L arr base n)
   {Q:Option Nat->SortSt->Prop} (h:∀ k,k≤n->(∀ m x,m < k->arr[base+m]?=some x->L key x=false)->(∀ m x,k≤m->m < n->arr[base+m]?=some x->L key x=true)->Q (some k) st):wpS (model prog w) Ar E s (jM false key arr base n hint) Q st:=by
 have at_:∀ i,i < n->arr[base+i]?=some (arr.getD (base+i) key):=fun i hi=>by
   rw[Array.getD_eq_getD_getElem?,Array.getElem?_eq_getElem (by omega)];rfl
 have un:∀ i,i < n->U (arr.getD (base+i) key):=fun i hi=>ua _ (by have:=at_ i hi;rw[← Array.getElem?_toList]at this;exact List.mem_of_getElem? this);refine Q7 (bf:=fun i=>!(L key (arr.getD (base+i) key))) ask hk uk (fun i hi=>⟨_,at_ i hi,un i hi,rfl⟩) (fun i j h1 h2 e=>?_) hh fun k k1 k2 k3=>h k k1 (fun m x hm e=>?_) (fun m x h1 h2 e=>?_)
 · have e:L key (arr.getD (base+j) key)=false:=by simpa using e
   have:=O.tr _ _ _ (un i (by omega)) (un j h2) uk (sg i j h1 h2 _ _ (at_ i (by omega)) (at_ j h2)) e
   show (!(L key (arr.getD (base+i) key)))=true;rw[this];rfl
 · have:=k2 m hm
   rw[at_ m (by omega)]at e;cases e;simpa using this
 · have:=k3 m h1 h2
   rw[at_ m h2]at e;cases e;simpa using this
theorem qd0 (O:OrdK L U) (ask:Asks prog w Ar s κ L U) (hk:kindOf st=κ) {key:Keyed}{arr:Array Keyed}{base n hint:Nat} (uk:U key) (ua:∀ x∈arr.toList,U x) (hn:base+n≤arr.size) (hh:hint < n) (sg:Seg L arr base n)
   {Q:Option Nat->SortSt->Prop} (h:∀ k,k≤n->(∀ m x,m < k->arr[base+m]?=some x->L x key=true)->(∀ m x,k≤m->m < n->arr[base+m]?=some x->L x key=false)->Q (some k) st):wpS (model prog w) Ar E s (jM true key arr base n hint) Q st:=by
 have at_:∀ i,i < n->arr[base+i]?=some (arr.getD (base+i) key):=fun i hi=>by
   rw[Array.getD_eq_getD_getElem?,Array.getElem?_eq_getElem (by omega)];rfl
 have un:∀ i,i < n->U (arr.getD (base+i) key):=fun i hi=>ua _ (by have:=at_ i hi;rw[← Array.getElem?_toList]at this;exact List.mem_of_getElem? this);refine Q7 (bf:=fun i=>L (arr.getD (base+i) key) key) ask hk uk (fun i hi=>⟨_,at_ i hi,un i hi,rfl⟩) (fun i j h1 h2 e=>?_) hh fun k k1 k2 k3=>h k k1 (fun m x hm e=>?_) (fun m x h1 h2 e=>?_)
 · cases q:L (arr.getD (base+i) key) key with
   | true=>rfl
   | false =>
     have:=O.tr _ _ _ uk (un i (by omega)) (un j h2) q (sg i j h1 h2 _ _ (at_ i (by omega)) (at_ j h2))
     rw[this]at e;cases e
 · have:=k2 m hm
   rw[at_ m (by omega)]at e;cases e;exact this
 · have:=k3 m h1 h2
   rw[at_ m h2]at e;cases e;exact this
theorem Asc.le (O:OrdK L U) {l:List Keyed} (h:Asc L l) {i j:Nat}{x y:Keyed} (hij:i≤j) (hx:l[i]?=some x) (hy:l[j]?=some y):L y x=false:=by
 obtain⟨h1,rfl⟩:=List.getElem?_eq_some_iff.mp hx;obtain⟨h2,rfl⟩:=List.getElem?_eq_some_iff.mp hy;rcases Nat.lt_or_ge i j with c|c
 · exact List.pairwise_iff_getElem.mp h i j h1 h2 c
 · have:i=j:=by omega
   subst this;exact O.irr _
theorem Asc.seg (O:OrdK L U) {a:Array Keyed} (h:Asc L a.toList) (base n:Nat):Seg L a base n:=fun i j h1 h2 x y ex ey=>h.le O (i:=base+i) (j:=base+j) (by omega) (by rw[Array.getElem?_toList];exact ex) (by rw[Array.getElem?_toList];exact ey)
theorem in_drop {l:List Keyed}{i:Nat}{x:Keyed}:x∈l.drop i↔∃ m,l[i+m]?=some x:=by
 rw[List.mem_iff_getElem?];simp only[List.getElem?_drop]
theorem Qo {a:Array Keyed}{i:Nat}:(a.extract i a.size).toList=a.toList.drop i:=by
 rw[Array.toList_extract,List.extract_eq_take_drop,List.take_of_length_le (by rw[List.length_drop,Array.length_toList];omega)]
theorem jO {a:Array Keyed}{i k:Nat}:(a.extract i (i+k)).toList=(a.toList.drop i).take k:=by
 rw[Array.toList_extract,List.extract_eq_take_drop,Nat.add_sub_cancel_left]
theorem qb5 {c:Prop} [Decidable c] {β γ:Type}{f:β->StateT SortSt Sem γ}{x y:β}{Q:γ->SortSt->Prop} (h:∀ b,wpS (model prog w) Ar E s (f b) Q st):wpS (model prog w) Ar E s (if c then f x else f y) Q st:=by
 by_cases e:c
 · rw[if_pos e];exact h _
 · rw[if_neg e];exact h _
theorem qaD {c1 c2 c3:Prop} [Decidable c1] [Decidable c2] [Decidable c3] {α β γ:Type}{m1 m2:StateT SortSt Sem γ}{f:α->β->StateT SortSt Sem γ}{x x':α}{y y':β}{Q:γ->SortSt->Prop} (P:α->β->Prop) (hf:∀ a b,P a b->wpS (model prog w) Ar E s (f a b) Q st)
   (h1:c1->c2->wpS (model prog w) Ar E s m1 Q st) (h2:c1->¬ c2->c3->wpS (model prog w) Ar E s m2 Q st) (h3:c1->¬ c2->¬ c3->P x y) (h4:¬ c1->P x' y'):wpS (model prog w) Ar E s (if c1 then if c2 then m1 else if c3 then m2 else f x y else f x' y') Q st:=by
 by_cases e1:c1
 · rw[if_pos e1];by_cases e2:c2
   · rw[if_pos e2];exact h1 e1 e2
   · rw[if_neg e2];by_cases e3:c3
     · rw[if_pos e3];exact h2 e1 e2 e3
     · rw[if_neg e3];exact hf _ _ (h3 e1 e2 e3)
 · rw[if_neg e1];exact hf _ _ (h4 e1)
theorem qaE {c1 c2:Prop} [Decidable c1] [Decidable c2] {α β γ:Type}{m1:StateT SortSt Sem γ}{f:α->β->StateT SortSt Sem γ}{x x':α}{y y':β}{Q:γ->SortSt->Prop} (P:α->β->Prop) (hf:∀ a b,P a b->wpS (model prog w) Ar E s (f a b) Q st)
   (h1:c1->c2->wpS (model prog w) Ar E s m1 Q st) (h3:c1->¬ c2->P x y) (h4:¬ c1->P x' y'):wpS (model prog w) Ar E s (if c1 then if c2 then m1 else f x y else f x' y') Q st:=by
 by_cases e1:c1
 · rw[if_pos e1];by_cases e2:c2
   · rw[if_pos e2];exact h1 e1 e2
   · rw[if_neg e2];exact hf _ _ (h3 e1 e2)
 · rw[if_neg e1];exact hf _ _ (h4 e1)
theorem jy (O:OrdK L U) (ask:Asks prog w Ar s κ L U) (hk:kindOf st=κ) {a b:Array Keyed} (ua:∀ x∈a.toList,U x) (ub:∀ x∈b.toList,U x) (sA:Asc L a.toList) (sB:Asc L b.toList) (a0:0 < a.size) (b0:0 < b.size)
   (h0:∀ y,b[0]?=some y->∀ x∈a.toList,L x y=false) (hl:∀ x,a[a.size - 1]?=some x->∀ y∈b.toList,L x y=false) {Q:Array Keyed->SortSt->Prop} (h:∀ r g,Q6 L a.toList b.toList r.toList->Q r (ZZ st g)):wpS (model prog w) Ar E s (qbn a b) Q st:=by
 have atA:∀ i,i < a.size->∃ x,a[i]?=some x∧a.toList[i]?=some x∧U x:=fun i hi=>⟨a[i],Array.getElem?_eq_getElem hi,by rw[Array.getElem?_toList];exact Array.getElem?_eq_getElem hi,ua _ (Array.getElem_mem_toList hi)⟩
 have atB:∀ i,i < b.size->∃ x,b[i]?=some x∧b.toList[i]?=some x∧U x:=fun i hi=>⟨b[i],Array.getElem?_eq_getElem hi,by rw[Array.getElem?_toList];exact Array.getElem?_eq_getElem hi,ub _ (Array.getElem_mem_toList hi)⟩
 obtain⟨y0,ey,ey',uy⟩:=atB 0 b0;have zA:a.toList.length=a.size:=Array.length_toList;have zB:b.toList.length=b.size:=Array.length_toList;have g0:Good L a.toList b.toList [y0] 0 1:=Good.b (out:=[]) ⟨by simp,.nil,fun o ho=>nomatch ho⟩ sB ey' (fun x hx=>h0 y0 ey x (by simpa using hx))
 have lst:∀ {out:Array Keyed}{i j:Nat},Good L a.toList b.toList out.toList i j->i+1=a.size->Q6 L a.toList b.toList (out++b.extract j b.size++a.extract i a.size).toList:=fun {out i j} g e=>by
   rw[Array.toList_append,Array.toList_append,Qo,Qo];exact g.last sB (by omega) fun x ex=>hl x (by rw[← Array.getElem?_toList,← e];exact ex)
 have dnB:∀ {out:Array Keyed}{i j:Nat},Good L a.toList b.toList out.toList i j->j=b.size->Q6 L a.toList b.toList (out++a.extract i a.size++b.extract j b.size).toList:=fun {out i j} g e=>by
   rw[Array.toList_append,Array.toList_append,Qo,Qo];exact g.doneB sA (by omega)
 have dnA:∀ {out:Array Keyed}{i j:Nat},Good L a.toList b.toList out.toList i j->i=a.size->Q6 L a.toList b.toList (out++a.extract i a.size++b.extract j b.size).toList:=fun {out i j} g e=>by
   rw[Array.toList_append,Array.toList_append,Qo,Qo];exact g.doneA sB (by omega)
 refine wpS_bind (wpS_lift (wpAny_rule ⟨rfl,?_⟩));refine wpS_bind (qq ey ?_);show wpS _ _ _ _ (if (1 == b.size)=true then _ else _) _ _;by_cases c1:(1 == b.size)=true
 · rw[if_pos c1];exact wpS_pure (h _ (gallopOf st) (dnB (out:=#[y0]) g0 (by simpa using c1)))
 rw[if_neg c1];show wpS _ _ _ _ (if (0+1 == a.size)=true then _ else _) _ _;have c1:1≠b.size:=by simpa using c1
 by_cases c2:(0+1 == a.size)=true
 · rw[if_pos c2];exact wpS_pure (h _ (gallopOf st) (lst (out:=#[y0]) g0 (by simpa using c2)))
 rw[if_neg c2];have c2:0+1≠a.size:=by simpa using c2
 refine wpS_bind (wpS_get ?_)
 refine wpS_bind (wpS_mono (wpS_forRange (I:=fun x c st'=>(∃ g,st'=ZZ st g)∧∃ (out:Array Keyed) (ia ib mg:Nat),c=(none,out,ia,ib,mg)∧Good L a.toList b.toList out.toList ia ib∧ia+1 < a.size∧ib < b.size∧x+1≤ia+ib)
   (Q:=fun c st'=>(∃ g,st'=ZZ st g)∧∃ r:Array Keyed,c.1=some r∧Q6 L a.toList b.toList r.toList) ?_ ?_ ⟨⟨gallopOf st,rfl⟩,_,_,_,_,rfl,g0,by omega,by omega,by omega⟩) ?_)
 rotate_left
 · rintro c st' ⟨_,out,ia,ib,mg,rfl,g,h1,h2,h3⟩;omega
 · rintro⟨r,c⟩ st' ⟨⟨g,rfl⟩,r',e,f⟩;cases (show r=some r' from e);exact wpS_pure (h _ g f)
 rintro x c st' _ hx ⟨⟨gg,rfl⟩,out,ia,ib,mg,rfl,g,h1,h2,h3⟩;have hk':∀ g,kindOf (ZZ st g)=κ:=fun _=>hk
 refine wpS_bind (wpS_mono (wpS_forRange (I:=fun y c st'=>st'=ZZ st gg∧∃ (out:Array Keyed) (i j ac bc:Nat),c=(none,out,i,j,ac,bc)∧Good L a.toList b.toList out.toList i j∧i+1 < a.size∧j < b.size∧y+(ia+ib)≤i+j)
   (Q:=fun c st'=>st'=ZZ st gg∧((∃ (r:Array Keyed) (z:_),c=(some r,z)∧Q6 L a.toList b.toList r.toList)∨∃ (out:Array Keyed) (i j ac bc:Nat),c=(none,out,i,j,ac,bc)∧Good L a.toList b.toList out.toList i j∧i+1 < a.size∧j < b.size∧ia+ib+1≤i+j)) ?_ ?_ ⟨rfl,out,ia,ib,0,0,rfl,g,h1,h2,by omega⟩) ?_)
 · rintro y c st' _ hy ⟨rfl,out,i,j,ac,bc,rfl,g,h1,h2,h3⟩;obtain⟨xa,exa,exa',ux⟩:=atA i (by omega);obtain⟨yb,eyb,eyb',uyb⟩:=atB j h2;refine wpS_bind (qq eyb (wpS_bind (qq exa (wpS_bind (ZM ask uyb ux (hk' _) ?_)))));dsimp only
   cases cw:L yb xa with
   | true =>
     rw[if_pos rfl]
     have g':Good L a.toList b.toList (out.push yb).toList i (j+1):=by
       rw[Array.toList_push];refine g.b sB eyb' fun x hx=>?_;obtain⟨m,em⟩:=in_drop.mp hx;exact O.tr _ _ _ uyb ux (ua _ (List.mem_of_getElem? em)) (O.asy _ _ cw) (sA.le O (by omega) exa' em)
     refine wpS_bind (qq eyb ?_);by_cases d:(j+1 == b.size)=true
     · rw[if_pos d];exact wpS_pure ⟨rfl,.inl ⟨_,_,rfl,dnB g' (by simpa using d)⟩⟩
     rw[if_neg d];have d:j+1≠b.size:=by simpa using d
     by_cases e:bc+1 ≥ mg
     · rw[if_pos e];exact wpS_pure ⟨rfl,.inr ⟨_,_,_,_,_,rfl,g',h1,by omega,by omega⟩⟩
     · rw[if_neg e];exact wpS_pure ⟨rfl,_,_,_,_,_,rfl,g',h1,by omega,by omega⟩
   | false =>
     rw[if_neg (by decide)]
     have g':Good L a.toList b.toList (out.push xa).toList (i+1) j:=by
       rw[Array.toList_push];refine g.a sA exa' fun x hx=>?_;obtain⟨m,em⟩:=in_drop.mp hx;exact O.tr _ _ _ ux uyb (ub _ (List.mem_of_getElem? em)) cw (sB.le O (by omega) eyb' em)
     refine wpS_bind (qq exa ?_);by_cases d:(i+1+1 == a.size)=true
     · rw[if_pos d];exact wpS_pure ⟨rfl,.inl ⟨_,_,rfl,lst g' (by simpa using d)⟩⟩
     rw[if_neg d];have d:i+1+1≠a.size:=by simpa using d
     by_cases e:ac+1 ≥ mg
     · rw[if_pos e];exact wpS_pure ⟨rfl,.inr ⟨_,_,_,_,_,rfl,g',by omega,h2,by omega⟩⟩
     · rw[if_neg e];exact wpS_pure ⟨rfl,_,_,_,_,_,rfl,g',by omega,h2,by omega⟩
 · rintro c st' ⟨rfl,out,i,j,ac,bc,rfl,g,h1,h2,h3⟩;omega
 rintro c st' ⟨rfl,⟨r,z,rfl,f⟩|⟨out,i,j,ac,bc,rfl,g,h1,h2,h4⟩⟩
 · exact wpS_pure ⟨⟨_,rfl⟩,r,rfl,f⟩
 refine wpS_bind (wpS_lift (wpAny_rule ⟨rfl,?_⟩))
 refine wpS_bind (wpS_mono (wpS_forRange (I:=fun y c st'=>(∃ g,st'=ZZ st g)∧∃ (out:Array Keyed) (i' j' mg ac bc:Nat),c=(none,out,i',j',mg,ac,bc)∧Good L a.toList b.toList out.toList i' j'∧i'+1 < a.size∧j' < b.size∧y+(i+j)≤i'+j')
   (Q:=fun c st'=>(∃ g,st'=ZZ st g)∧((∃ (r:Array Keyed) (z:_),c=(some r,z)∧Q6 L a.toList b.toList r.toList)∨∃ (out:Array Keyed) (i' j' mg ac bc:Nat),c=(none,out,i',j',mg,ac,bc)∧Good L a.toList b.toList out.toList i' j'∧i'+1 < a.size∧j' < b.size∧i+j≤i'+j')) ?_ ?_ ⟨⟨_,rfl⟩,out,i,j,mg+1,ac,bc,rfl,g,h1,h2,by omega⟩) ?_)
 rotate_left
 · rintro c st' ⟨_,out,i',j',mg,ac,bc,rfl,g,h1,h2,h3⟩;omega
 · rintro c st' ⟨⟨gx,rfl⟩,⟨r,z,rfl,f⟩|⟨out,i',j',mg,ac,bc,rfl,g,h1,h2,h5⟩⟩
   · exact wpS_pure ⟨⟨_,rfl⟩,r,rfl,f⟩
   · refine wpS_bind (wpS_modify (wpS_pure ?_));exact⟨⟨_,rfl⟩,out,i',j',_,rfl,g,h1,h2,by omega⟩
 rintro y c st' _ hy ⟨⟨gx,rfl⟩,out,i',j',mg,ac,bc,rfl,g,h1,h2,h5⟩;obtain⟨yb,eyb,eyb',uyb⟩:=atB j' h2
 extract_lets s1 o1 s2 i1 s3 j1 s4 m1 s5 a1 b1 jx jp m2
 refine qb5 (f:=jp ⟨⟩) fun m'=>?_;refine wpS_bind (wpS_modify (wpS_bind (qq eyb (wpS_bind (qdZ (base:=i') (n:=a.size - i') (hint:=0) O ask (hk' _) uyb ua (by omega) (by omega) (sA.seg O _ _) fun k k1 k2 k3=>?_)))));dsimp -zeta only;clear jp
 extract_lets ac1 jp2 o3 i3
 have gk:Good L a.toList b.toList (out++a.extract i' (i'+k)).toList (i'+k) j':=by
   rw[Array.toList_append,jO];refine g.as sA k (by omega) fun m hm x ex z hz=>?_;obtain⟨q,eq⟩:=in_drop.mp hz;exact O.tr _ _ _ (ua _ (List.mem_of_getElem? ex)) uyb (ub _ (List.mem_of_getElem? eq)) (k2 m x hm (by rw[← Array.getElem?_toList];exact ex)) (sB.le O (by omega) eyb' eq)
 have rest:∀ x∈a.toList.drop (i'+k),L yb x=true:=fun x hx=>by
   obtain⟨q,eq⟩:=in_drop.mp hx;have lt:=(List.getElem?_eq_some_iff.mp eq).1;rw[Nat.add_assoc]at eq;exact k3 (k+q) x (by omega) (by omega) (by rw[← Array.getElem?_toList];exact eq)
 refine qaD (f:=jp2 ⟨⟩) (fun (o':Array Keyed) (i2:Nat)=>Good L a.toList b.toList o'.toList i2 j'∧i2+1 < a.size∧i'≤i2∧∀ x∈a.toList.drop i2,L yb x=true) ?_ ?_ ?_ ?_ ?_
 rotate_left
 · intro _ c;exact wpS_pure ⟨⟨_,rfl⟩,.inl ⟨_,_,rfl,lst gk (by simpa using c)⟩⟩
 · intro _ _ c;exact wpS_pure ⟨⟨_,rfl⟩,.inl ⟨_,_,rfl,dnA gk (by simpa using c)⟩⟩
 · intro _ c1 c2;have c1:i'+k+1≠a.size:=by simpa using c1
   have c2:i'+k≠a.size:=by simpa using c2
   exact⟨gk,by show i'+k+1 < a.size;omega,Nat.le_add_right _ _,rest⟩
 · intro c;have c:k=0:=by omega
   subst c;exact⟨g,h1,Nat.le_refl _,rest⟩
 clear_value o3 i3
 rintro o' i2 ⟨g',h1',h6,rest'⟩;refine wpS_bind (qq eyb ?_)
 have gb:Good L a.toList b.toList (o'.push yb).toList i2 (j'+1):=by
   rw[Array.toList_push];exact g'.b sB eyb' fun x hx=>O.asy _ _ (rest' x hx)
 show wpS _ _ _ _ (if (j'+1 == b.size)=true then _ else _) _ _;by_cases d:(j'+1 == b.size)=true
 · rw[if_pos d];exact wpS_pure ⟨⟨_,rfl⟩,.inl ⟨_,_,rfl,dnB gb (by simpa using d)⟩⟩
 rw[if_neg d];have d:j'+1≠b.size:=by simpa using d
 obtain⟨xa,exa,exa',ux⟩:=atA i2 (by omega);refine wpS_bind (qq exa (wpS_bind (qd0 (base:=j'+1) (n:=b.size - (j'+1)) (hint:=0) O ask (hk' _) ux ub (by omega) (by omega) (sB.seg O _ _) fun k' k1' k2' k3'=>?_)));dsimp -zeta only;clear jp2
 extract_lets bc1 i5 jp3 o4 j4
 have gk':Good L a.toList b.toList (o'.push yb++b.extract (j'+1) (j'+1+k')).toList i2 (j'+1+k'):=by
   rw[Array.toList_append,jO];refine gb.bs sB k' (by omega) fun m hm z ez x hx=>?_;obtain⟨q,eq⟩:=in_drop.mp hx;exact O.tr _ _ _ (ub _ (List.mem_of_getElem? ez)) ux (ua _ (List.mem_of_getElem? eq)) (O.asy _ _ (k2' m z hm (by rw[← Array.getElem?_toList];exact ez))) (sA.le O (by omega) exa' eq)
 have rest2:∀ z∈b.toList.drop (j'+1+k'),L z xa=false:=fun x hx=>by
   obtain⟨q,eq⟩:=in_drop.mp hx;have lt:=(List.getElem?_eq_some_iff.mp eq).1;rw[Nat.add_assoc]at eq;exact k3' (k'+q) x (by omega) (by omega) (by rw[← Array.getElem?_toList];exact eq)
 refine qaE (f:=jp3 ⟨⟩) (fun (o'':Array Keyed) (j2:Nat)=>Good L a.toList b.toList o''.toList i2 j2∧j2 < b.size∧j'+1≤j2∧∀ z∈b.toList.drop j2,L z xa=false) ?_ ?_ ?_ ?_
 rotate_left
 · intro _ c;exact wpS_pure ⟨⟨_,rfl⟩,.inl ⟨_,_,rfl,dnB gk' (by simpa using c)⟩⟩
 · intro _ c;have c:j'+1+k'≠b.size:=by simpa using c
   exact⟨gk',by show j'+1+k' < b.size;omega,Nat.le_add_right _ _,rest2⟩
 · intro c;have c:k'=0:=by omega
   subst c;exact⟨gb,by show j'+1 < b.size;omega,Nat.le_refl _,rest2⟩
 clear_value o4 j4
 rintro o'' j2 ⟨g'',h2'',h7,rest3⟩;refine wpS_bind (qq exa ?_)
 have ga:Good L a.toList b.toList (o''.push xa).toList (i2+1) j2:=by
   rw[Array.toList_push];exact g''.a sA exa' rest3
 show wpS _ _ _ _ (if (i2+1+1 == a.size)=true then _ else _) _ _;by_cases d2:(i2+1+1 == a.size)=true
 · rw[if_pos d2];exact wpS_pure ⟨⟨_,rfl⟩,.inl ⟨_,_,rfl,lst ga (by simpa using d2)⟩⟩
 rw[if_neg d2];have d2:i2+1+1≠a.size:=by simpa using d2
 by_cases e7:(decide (ac1 < 7) && decide (bc1 < 7))=true
 · rw[if_pos e7];exact wpS_pure ⟨⟨_,rfl⟩,.inr ⟨_,_,_,_,_,_,rfl,ga,by omega,h2'',by omega⟩⟩
 · rw[if_neg e7];exact wpS_pure ⟨⟨_,rfl⟩,_,_,_,_,_,_,rfl,ga,by omega,h2'',by omega⟩
end
theorem Zs {l:List Keyed}{i:Nat}{x:Keyed} (h:l[i]?=some x):l.take (i+1)=l.take i++[x]:=by
 rw[List.take_succ,h];rfl
structure GoodH (L:Keyed->Keyed->Bool) (A B out:List Keyed) (i j:Nat):Prop where
 pe:(A.take i++(B.take j++out.reverse)).Perm (A++B)
 so:Asc L out.reverse
 le:∀ o∈out,∀ x,x∈A.take i∨x∈B.take j->L o x=false
section
variable {L:Keyed->Keyed->Bool}{U:Keyed->Prop}{A B out:List Keyed}{i j:Nat}
theorem GoodH.a (g:GoodH L A B out (i+1) j) (sA:Asc L A) {x:Keyed} (hx:A[i]?=some x) (hy:∀ y∈B.take j,L x y=false):GoodH L A B (out++[x]) i j:=by
 have e:=Zs hx;have sx:Asc L (A.take i++[x]):=by rw[← e];exact List.Pairwise.sublist (List.take_sublist _ A) sA
 have er:(out++[x]).reverse=x::out.reverse:=by simp
 refine⟨?_,?_,fun o ho y h=>?_⟩
 · have:=g.pe
   rw[e,List.append_assoc]at this;rw[er];exact(List.Perm.append_left _ List.perm_middle).trans this
 · rw[er];exact List.pairwise_cons.mpr ⟨fun o ho=>g.le o (List.mem_reverse.mp ho) x (.inl (by rw[e];exact List.mem_append_right _ (List.mem_singleton_self _))),g.so⟩
 · rcases List.mem_append.mp ho with ho|ho
   · exact g.le o ho y (h.imp_left fun z=>by rw[e];exact List.mem_append_left _ z)
   · rw[List.mem_singleton.mp ho];rcases h with h|h
     · exact(List.pairwise_append.mp sx).2.2 y h x (List.mem_singleton_self _)
     · exact hy y h
theorem GoodH.b (g:GoodH L A B out i (j+1)) (sB:Asc L B) {y:Keyed} (hy:B[j]?=some y) (hx:∀ x∈A.take i,L y x=false):GoodH L A B (out++[y]) i j:=by
 have e:=Zs hy;have sx:Asc L (B.take j++[y]):=by rw[← e];exact List.Pairwise.sublist (List.take_sublist _ B) sB
 have er:(out++[y]).reverse=y::out.reverse:=by simp
 refine⟨?_,?_,fun o ho z h=>?_⟩
 · have:=g.pe
   rw[e,List.append_assoc]at this;rw[er];exact this
 · rw[er];exact List.pairwise_cons.mpr ⟨fun o ho=>g.le o (List.mem_reverse.mp ho) y (.inr (by rw[e];exact List.mem_append_right _ (List.mem_singleton_self _))),g.so⟩
 · rcases List.mem_append.mp ho with ho|ho
   · exact g.le o ho z (h.imp_right fun q=>by rw[e];exact List.mem_append_left _ q)
   · rw[List.mem_singleton.mp ho];rcases h with h|h
     · exact hx z h
     · exact(List.pairwise_append.mp sx).2.2 z h y (List.mem_singleton_self _)
theorem Jg {l:List Keyed}{i k:Nat}{x:Keyed} (h:l[i]?=some x):((l.drop i).take (k+1)).reverse=((l.drop (i+1)).take k).reverse++[x]:=by
 rw[drop_at h,List.take_succ_cons,List.reverse_cons]
theorem GoodH.as (sA:Asc L A):∀ (k i:Nat),GoodH L A B out (i+k) j->i+k≤A.length->(∀ m,m < k->∀ x,A[i+m]?=some x->∀ y∈B.take j,L x y=false)->GoodH L A B (out++((A.drop i).take k).reverse) i j
 | 0,i,g,_,_=>by simpa using g
 | k+1,i,g,h,hy=>by
   have ih:=GoodH.as sA k (i+1) (by rw[show i+1+k=i+(k+1) by omega];exact g) (by omega) fun m hm x ex=>hy (m+1) (by omega) x (by rw[show i+(m+1)=i+1+m by omega];exact ex);have e:A[i]?=some A[i]:=List.getElem?_eq_getElem (by omega);rw[Jg e,← List.append_assoc];exact ih.a sA e (hy 0 (by omega) _ e)
theorem GoodH.bs (sB:Asc L B):∀ (k j:Nat),GoodH L A B out i (j+k)->j+k≤B.length->(∀ m,m < k->∀ y,B[j+m]?=some y->∀ x∈A.take i,L y x=false)->GoodH L A B (out++((B.drop j).take k).reverse) i j
 | 0,i,g,_,_=>by simpa using g
 | k+1,j,g,h,hy=>by
   have ih:=GoodH.bs sB k (j+1) (by rw[show j+1+k=j+(k+1) by omega];exact g) (by omega) fun m hm x ex=>hy (m+1) (by omega) x (by rw[show j+(m+1)=j+1+m by omega];exact ex);have e:B[j]?=some B[j]:=List.getElem?_eq_getElem (by omega);rw[Jg e,← List.append_assoc];exact ih.b sB e (hy 0 (by omega) _ e)
theorem GoodH.doneB (g:GoodH L A B out i j) (sA:Asc L A) (h:j=0):Q6 L A B (A.take i++B.take j++out.reverse):=by
 refine⟨by rw[List.append_assoc];exact g.pe,?_⟩;subst h;rw[List.take_zero,List.append_nil];exact List.pairwise_append.mpr ⟨List.Pairwise.sublist (List.take_sublist i A) sA,g.so,fun x hx o ho=>g.le o (List.mem_reverse.mp ho) x (.inl hx)⟩
theorem GoodH.doneA (g:GoodH L A B out i j) (sB:Asc L B) (h:i=0):Q6 L A B (A.take i++B.take j++out.reverse):=by
 refine⟨by rw[List.append_assoc];exact g.pe,?_⟩;subst h;rw[List.take_zero,List.nil_append];exact List.pairwise_append.mpr ⟨List.Pairwise.sublist (List.take_sublist j B) sB,g.so,fun x hx o ho=>g.le o (List.mem_reverse.mp ho) x (.inr hx)⟩
theorem GoodH.first (g:GoodH L A B out i j) (sA:Asc L A) (h:j=1) (h1:1≤B.length) (hl:∀ y,B[0]?=some y->∀ x∈A,L x y=false):Q6 L A B (B.take j++A.take i++out.reverse):=by
 subst h;have e0:B[0]?=some B[0]:=List.getElem?_eq_getElem (by omega);have e:B.take 1=[B[0]]:=Zs e0;refine⟨?_,?_⟩
 · refine List.Perm.trans ?_ g.pe;rw[← List.append_assoc];exact List.Perm.append_right _ List.perm_append_comm
 · rw[e];refine List.pairwise_append.mpr ⟨List.pairwise_append.mpr ⟨List.pairwise_singleton _ _,List.Pairwise.sublist (List.take_sublist i A) sA,fun y hy x hx=>?_⟩,g.so,fun x hx o ho=>?_⟩
   · rw[List.mem_singleton.mp hy];exact hl _ e0 x (List.mem_of_mem_take hx)
   · refine g.le o (List.mem_reverse.mp ho) x ?_;rw[e];exact(List.mem_append.mp hx).symm
end
section
variable {prog:Program}{w:World}{Ar:Around}{E:Value->Shared->Prop}{s:Shared}{κ:SortKind}{L:Keyed->Keyed->Bool}{U:Keyed->Prop}{st:SortSt}
theorem Qp {a:Array Keyed}{i:Nat}:(a.extract 0 i).toList=a.toList.take i:=by
 rw[Array.toList_extract,List.extract_eq_take_drop,List.drop_zero,Nat.sub_zero]
theorem qaN {a:Array Keyed}{i n:Nat}:(a.extract i n).reverse.toList=((a.toList.drop i).take (n - i)).reverse:=by
 rw[Array.toList_reverse,Array.toList_extract,List.extract_eq_take_drop]
theorem in_take {l:List Keyed}{i:Nat}{x:Keyed}:x∈l.take i↔∃ m,m < i∧l[m]?=some x:=by
 rw[List.mem_iff_getElem?];constructor
 · rintro⟨m,e⟩;rw[List.getElem?_take]at e;by_cases c:m < i
   · rw[if_pos c]at e;exact⟨m,c,e⟩
   · rw[if_neg c]at e;cases e
 · rintro⟨m,c,e⟩;exact⟨m,by rw[List.getElem?_take,if_pos c];exact e⟩
theorem jz (O:OrdK L U) (ask:Asks prog w Ar s κ L U) (hk:kindOf st=κ) {a b:Array Keyed} (ua:∀ x∈a.toList,U x) (ub:∀ x∈b.toList,U x) (sA:Asc L a.toList) (sB:Asc L b.toList) (a0:0 < a.size) (b0:0 < b.size)
   (h0:∀ y,b[0]?=some y->∀ x∈a.toList,L x y=false) (hl:∀ x,a[a.size - 1]?=some x->∀ y∈b.toList,L x y=false) {Q:Array Keyed->SortSt->Prop} (h:∀ r g,Q6 L a.toList b.toList r.toList->Q r (ZZ st g)):wpS (model prog w) Ar E s (qbo a b) Q st:=by
 have atA:∀ i,i < a.size->∃ x,a[i]?=some x∧a.toList[i]?=some x∧U x:=fun i hi=>⟨a[i],Array.getElem?_eq_getElem hi,by rw[Array.getElem?_toList];exact Array.getElem?_eq_getElem hi,ua _ (Array.getElem_mem_toList hi)⟩
 have atB:∀ i,i < b.size->∃ x,b[i]?=some x∧b.toList[i]?=some x∧U x:=fun i hi=>⟨b[i],Array.getElem?_eq_getElem hi,by rw[Array.getElem?_toList];exact Array.getElem?_eq_getElem hi,ub _ (Array.getElem_mem_toList hi)⟩
 obtain⟨x0,ex,ex',ux0⟩:=atA (a.size - 1) (by omega);have zA:a.toList.length=a.size:=Array.length_toList;have zB:b.toList.length=b.size:=Array.length_toList;have g0:GoodH L a.toList b.toList [x0] (a.size - 1) b.size:=GoodH.a (out:=[]) ⟨by rw[show a.size - 1+1=a.toList.length by omega,← zB,List.take_length,List.take_length];simp,.nil,fun o ho=>nomatch ho⟩ sA ex' (fun y hy=>hl x0 ex y (List.mem_of_mem_take hy))
 have fst_:∀ {out:Array Keyed}{i j:Nat},GoodH L a.toList b.toList out.toList i j->j=1->Q6 L a.toList b.toList (b.extract 0 j++a.extract 0 i++out.reverse).toList:=fun {out i j} g e=>by
   rw[Array.toList_append,Array.toList_append,Qp,Qp,Array.toList_reverse];exact g.first sA e (by omega) fun y ey=>h0 y (by rw[← Array.getElem?_toList];exact ey)
 have dnB:∀ {out:Array Keyed}{i j:Nat},GoodH L a.toList b.toList out.toList i j->j=0->Q6 L a.toList b.toList (a.extract 0 i++b.extract 0 j++out.reverse).toList:=fun {out i j} g e=>by
   rw[Array.toList_append,Array.toList_append,Qp,Qp,Array.toList_reverse];exact g.doneB sA e
 have dnA:∀ {out:Array Keyed}{i j:Nat},GoodH L a.toList b.toList out.toList i j->i=0->Q6 L a.toList b.toList (a.extract 0 i++b.extract 0 j++out.reverse).toList:=fun {out i j} g e=>by
   rw[Array.toList_append,Array.toList_append,Qp,Qp,Array.toList_reverse];exact g.doneA sB e
 refine wpS_bind (wpS_lift (wpAny_rule ⟨rfl,?_⟩));refine wpS_bind (qq ex ?_);show wpS _ _ _ _ (if (a.size - 1 == 0)=true then _ else _) _ _;by_cases c1:(a.size - 1 == 0)=true
 · rw[if_pos c1];exact wpS_pure (h _ (gallopOf st) (dnA (out:=#[x0]) g0 (by simpa using c1)))
 rw[if_neg c1];show wpS _ _ _ _ (if (b.size == 1)=true then _ else _) _ _;have c1:a.size - 1≠0:=by simpa using c1
 by_cases c2:(b.size == 1)=true
 · rw[if_pos c2];exact wpS_pure (h _ (gallopOf st) (fst_ (out:=#[x0]) g0 (by simpa using c2)))
 rw[if_neg c2];have c2:b.size≠1:=by simpa using c2
 refine wpS_bind (wpS_get ?_)
 refine wpS_bind (wpS_mono (wpS_forRange (I:=fun x c st'=>(∃ g,st'=ZZ st g)∧∃ (na nb:Nat) (out:Array Keyed) (mg:Nat),c=(none,na,nb,out,mg)∧GoodH L a.toList b.toList out.toList na nb∧0 < na∧1 < nb∧na≤a.size∧nb≤b.size∧na+nb+x+1≤a.size+b.size)
   (Q:=fun c st'=>(∃ g,st'=ZZ st g)∧∃ r:Array Keyed,c.1=some r∧Q6 L a.toList b.toList r.toList) ?_ ?_ ⟨⟨gallopOf st,rfl⟩,_,_,_,_,rfl,g0,by omega,by omega,by omega,by omega,by omega⟩) ?_)
 rotate_left
 · rintro c st' ⟨_,na,nb,out,mg,rfl,g,h1,h2,h3,h4,h5⟩;omega
 · rintro⟨r,c⟩ st' ⟨⟨g,rfl⟩,r',e,f⟩;cases (show r=some r' from e);exact wpS_pure (h _ g f)
 rintro x c st' _ hx ⟨⟨gg,rfl⟩,na,nb,out,mg,rfl,g,h1,h2,h3,h4,h5⟩;have hk':∀ g,kindOf (ZZ st g)=κ:=fun _=>hk
 refine wpS_bind (wpS_mono (wpS_forRange (I:=fun y c st'=>st'=ZZ st gg∧∃ (i j:Nat) (out:Array Keyed) (ac bc:Nat),c=(none,i,j,out,ac,bc)∧GoodH L a.toList b.toList out.toList i j∧0 < i∧1 < j∧i≤na∧j≤nb∧i+j+y≤na+nb)
   (Q:=fun c st'=>st'=ZZ st gg∧((∃ (r:Array Keyed) (z:_),c=(some r,z)∧Q6 L a.toList b.toList r.toList)∨∃ (i j:Nat) (out:Array Keyed) (ac bc:Nat),c=(none,i,j,out,ac,bc)∧GoodH L a.toList b.toList out.toList i j∧0 < i∧1 < j∧i≤na∧j≤nb∧i+j+1≤na+nb)) ?_ ?_ ⟨rfl,na,nb,out,0,0,rfl,g,h1,h2,by omega,by omega,by omega⟩) ?_)
 · rintro y c st' _ hy ⟨rfl,i,j,out,ac,bc,rfl,g,h1,h2,h3,h4,h5⟩;obtain⟨xa,exa,exa',ux⟩:=atA (i - 1) (by omega);obtain⟨yb,eyb,eyb',uyb⟩:=atB (j - 1) (by omega);have ei:i - 1+1=i:=by omega
   have ej:j - 1+1=j:=by omega
   refine wpS_bind (qq eyb (wpS_bind (qq exa (wpS_bind (ZM ask uyb ux (hk' _) ?_)))));dsimp only
   cases cw:L yb xa with
   | true =>
     rw[if_pos rfl]
     have g':GoodH L a.toList b.toList (out.push xa).toList (i - 1) j:=by
       rw[Array.toList_push];refine GoodH.a (by rw[ei];exact g) sA exa' fun z hz=>?_;obtain⟨m,hm,em⟩:=in_take.mp hz;exact O.tr _ _ _ (ub _ (List.mem_of_getElem? em)) uyb ux (sB.le O (by omega) em eyb') (O.asy _ _ cw)
     refine wpS_bind (qq exa ?_);by_cases d:(i - 1 == 0)=true
     · rw[if_pos d];exact wpS_pure ⟨rfl,.inl ⟨_,_,rfl,dnA g' (by simpa using d)⟩⟩
     rw[if_neg d];have d:i - 1≠0:=by simpa using d
     by_cases e:ac+1 ≥ mg
     · rw[if_pos e];exact wpS_pure ⟨rfl,.inr ⟨_,_,_,_,_,rfl,g',by omega,h2,by omega,by omega,by omega⟩⟩
     · rw[if_neg e];exact wpS_pure ⟨rfl,_,_,_,_,_,rfl,g',by omega,h2,by omega,by omega,by omega⟩
   | false =>
     rw[if_neg (by decide)]
     have g':GoodH L a.toList b.toList (out.push yb).toList i (j - 1):=by
       rw[Array.toList_push];refine GoodH.b (by rw[ej];exact g) sB eyb' fun z hz=>?_;obtain⟨m,hm,em⟩:=in_take.mp hz;exact O.tr _ _ _ (ua _ (List.mem_of_getElem? em)) ux uyb (sA.le O (by omega) em exa') cw
     refine wpS_bind (qq eyb ?_);by_cases d:(j - 1 == 1)=true
     · rw[if_pos d];exact wpS_pure ⟨rfl,.inl ⟨_,_,rfl,fst_ g' (by simpa using d)⟩⟩
     rw[if_neg d];have d:j - 1≠1:=by simpa using d
     by_cases e:bc+1 ≥ mg
     · rw[if_pos e];exact wpS_pure ⟨rfl,.inr ⟨_,_,_,_,_,rfl,g',h1,by omega,by omega,by omega,by omega⟩⟩
     · rw[if_neg e];exact wpS_pure ⟨rfl,_,_,_,_,_,rfl,g',h1,by omega,by omega,by omega,by omega⟩
 · rintro c st' ⟨rfl,i,j,out,ac,bc,rfl,g,h1,h2,h3,h4,h5⟩;omega
 rintro c st' ⟨rfl,⟨r,z,rfl,f⟩|⟨i,j,out,ac,bc,rfl,g,h1,h2,h6,h7,h8⟩⟩
 · exact wpS_pure ⟨⟨_,rfl⟩,r,rfl,f⟩
 refine wpS_bind (wpS_lift (wpAny_rule ⟨rfl,?_⟩))
 refine wpS_bind (wpS_mono (wpS_forRange (I:=fun y c st'=>(∃ g,st'=ZZ st g)∧∃ (i' j':Nat) (out:Array Keyed) (mg ac bc:Nat),c=(none,i',j',out,mg,ac,bc)∧GoodH L a.toList b.toList out.toList i' j'∧0 < i'∧1 < j'∧i'≤i∧j'≤j∧i'+j'+y≤i+j)
   (Q:=fun c st'=>(∃ g,st'=ZZ st g)∧((∃ (r:Array Keyed) (z:_),c=(some r,z)∧Q6 L a.toList b.toList r.toList)∨∃ (i' j':Nat) (out:Array Keyed) (mg ac bc:Nat),c=(none,i',j',out,mg,ac,bc)∧GoodH L a.toList b.toList out.toList i' j'∧0 < i'∧1 < j'∧i'≤i∧j'≤j)) ?_ ?_ ⟨⟨_,rfl⟩,i,j,out,mg+1,ac,bc,rfl,g,h1,h2,by omega,by omega,by omega⟩) ?_)
 rotate_left
 · rintro c st' ⟨_,i',j',out,mg,ac,bc,rfl,g,h1,h2,h3,h4,h5⟩;omega
 · rintro c st' ⟨⟨gx,rfl⟩,⟨r,z,rfl,f⟩|⟨i',j',out,mg,ac,bc,rfl,g,h1,h2,h5,h6⟩⟩
   · exact wpS_pure ⟨⟨_,rfl⟩,r,rfl,f⟩
   · refine wpS_bind (wpS_modify (wpS_pure ?_));exact⟨⟨_,rfl⟩,i',j',out,_,rfl,g,h1,h2,by omega,by omega,by omega⟩
 rintro y c st' _ hy ⟨⟨gx,rfl⟩,i',j',out,mg,ac,bc,rfl,g,h1,h2,h9,h10,h11⟩;obtain⟨yb,eyb,eyb',uyb⟩:=atB (j' - 1) (by omega);have ej:j' - 1+1=j':=by omega
 extract_lets s1 i1 s2 j1 s3 o1 s4 m1 s5 a1 b1 jx jp m2
 refine qb5 (f:=jp ⟨⟩) fun m'=>?_;refine wpS_bind (wpS_modify (wpS_bind (qq eyb (wpS_bind (qdZ (base:=0) (n:=i') (hint:=i' - 1) O ask (hk' _) uyb ua (by omega) (by omega) (sA.seg O _ _) fun k k1 k2 k3=>?_)))));simp only[Nat.zero_add]at k2 k3;dsimp -zeta only;clear jp
 extract_lets kk ac1 jp2 o3 i3
 have gk:GoodH L a.toList b.toList (out++(a.extract k i').reverse).toList k j':=by
   rw[Array.toList_append,qaN];refine GoodH.as sA (i' - k) k (by rw[show k+(i' - k)=i' by omega];exact g) (by omega) fun m hm x ex z hz=>?_;obtain⟨q,hq,eq⟩:=in_take.mp hz;exact O.tr _ _ _ (ub _ (List.mem_of_getElem? eq)) uyb (ua _ (List.mem_of_getElem? ex)) (sB.le O (by omega) eq eyb') (O.asy _ _ (k3 (k+m) x (by omega) (by omega) (by rw[← Array.getElem?_toList];exact ex)))
 have rest:∀ x∈a.toList.take k,L yb x=false:=fun x hx=>by
   obtain⟨q,hq,eq⟩:=in_take.mp hx;exact k2 q x hq (by rw[← Array.getElem?_toList];exact eq)
 refine qaE (f:=jp2 ⟨⟩) (fun (i2:Nat) (o':Array Keyed)=>GoodH L a.toList b.toList o'.toList i2 j'∧0 < i2∧i2≤i'∧∀ x∈a.toList.take i2,L yb x=false) ?_ ?_ ?_ ?_
 rotate_left
 · intro _ c;exact wpS_pure ⟨⟨_,rfl⟩,.inl ⟨_,_,rfl,dnA gk (by simpa using c)⟩⟩
 · intro _ c1;have c1:k≠0:=by simpa using c1
   exact⟨gk,by show 0 < k;omega,k1,rest⟩
 · intro c
   have c:k=i':=by
     have c:¬ i' - k > 0:=c;omega
   subst c;exact⟨g,h1,Nat.le_refl _,rest⟩
 clear_value o3 i3
 rintro i2 o' ⟨g',h1',h12,rest'⟩;refine wpS_bind (qq eyb ?_)
 have gb:GoodH L a.toList b.toList (o'.push yb).toList i2 (j' - 1):=by
   rw[Array.toList_push];exact GoodH.b (by rw[ej];exact g') sB eyb' rest'
 show wpS _ _ _ _ (if (j' - 1 == 1)=true then _ else _) _ _;by_cases d:(j' - 1 == 1)=true
 · rw[if_pos d];exact wpS_pure ⟨⟨_,rfl⟩,.inl ⟨_,_,rfl,fst_ gb (beq_iff_eq.mp d)⟩⟩
 rw[if_neg d];have d:j' - 1≠1:=by simpa using d
 obtain⟨xa,exa,exa',ux⟩:=atA (i2 - 1) (by omega);have ei:i2 - 1+1=i2:=by omega
 refine wpS_bind (qq exa (wpS_bind (qd0 (base:=0) (n:=j' - 1) (hint:=j' - 1 - 1) O ask (hk' _) ux ub (by omega) (by omega) (sB.seg O _ _) fun k' k1' k2' k3'=>?_)));simp only[Nat.zero_add]at k2' k3';dsimp -zeta only;clear jp2
 extract_lets kk2 bc1 i5 jp3 o4 j4
 have gk':GoodH L a.toList b.toList (o'.push yb++(b.extract k' (j' - 1)).reverse).toList i2 k':=by
   rw[Array.toList_append,qaN];refine GoodH.bs sB (j' - 1 - k') k' (by rw[show k'+(j' - 1 - k')=j' - 1 by omega];exact gb) (by omega) fun m hm z ez x hx=>?_;obtain⟨q,hq,eq⟩:=in_take.mp hx;exact O.tr _ _ _ (ua _ (List.mem_of_getElem? eq)) ux (ub _ (List.mem_of_getElem? ez)) (sA.le O (by omega) eq exa') (k3' (k'+m) z (by omega) (by omega) (by rw[← Array.getElem?_toList];exact ez))
 have rest2:∀ z∈b.toList.take k',L xa z=false:=fun x hx=>by
   obtain⟨q,hq,eq⟩:=in_take.mp hx;exact O.asy _ _ (k2' q x hq (by rw[← Array.getElem?_toList];exact eq))
 refine qaD (f:=jp3 ⟨⟩) (fun (j2:Nat) (o'':Array Keyed)=>GoodH L a.toList b.toList o''.toList i2 j2∧1 < j2∧j2≤j' - 1∧∀ z∈b.toList.take j2,L xa z=false) ?_ ?_ ?_ ?_ ?_
 rotate_left
 · intro _ c;exact wpS_pure ⟨⟨_,rfl⟩,.inl ⟨_,_,rfl,fst_ gk' (by simpa using c)⟩⟩
 · intro _ _ c;exact wpS_pure ⟨⟨_,rfl⟩,.inl ⟨_,_,rfl,dnB gk' (by simpa using c)⟩⟩
 · intro _ c c';have c:k'≠1:=by simpa using c
   have c':k'≠0:=by simpa using c'
   exact⟨gk',by show 1 < k';omega,k1',rest2⟩
 · intro c
   have c:k'=j' - 1:=by
     have c:¬ j' - 1 - k' > 0:=c;omega
   rw[c]at rest2;exact⟨gb,by show 1 < j' - 1;omega,Nat.le_refl _,rest2⟩
 clear_value o4 j4
 rintro j2 o'' ⟨g'',h2'',h13,rest3⟩;refine wpS_bind (qq exa ?_)
 have ga:GoodH L a.toList b.toList (o''.push xa).toList (i2 - 1) j2:=by
   rw[Array.toList_push];exact GoodH.a (by rw[ei];exact g'') sA exa' rest3
 show wpS _ _ _ _ (if (i2 - 1 == 0)=true then _ else _) _ _;by_cases d2:(i2 - 1 == 0)=true
 · rw[if_pos d2];exact wpS_pure ⟨⟨_,rfl⟩,.inl ⟨_,_,rfl,dnA ga (by simpa using d2)⟩⟩
 rw[if_neg d2];have d2:i2 - 1≠0:=by simpa using d2
 by_cases e7:(decide (ac1 < 7) && decide (bc1 < 7))=true
 · rw[if_pos e7];exact wpS_pure ⟨⟨_,rfl⟩,.inr ⟨i2 - 1,j2,_,_,_,_,rfl,ga,by omega,h2'',by omega,by omega⟩⟩
 · rw[if_neg e7];exact wpS_pure ⟨⟨_,rfl⟩,i2 - 1,j2,_,_,_,_,rfl,ga,by omega,h2'',by omega,by omega,by omega⟩
end
theorem qaZ:∀ (l:List Keyed) (c j:Nat) (arr:Array Keyed),c+j+l.length≤arr.size->((l.zipIdx j).foldl (fun a p=>a.setIfInBounds (c+p.2) p.1) arr).toList=arr.toList.take (c+j)++l++arr.toList.drop (c+j+l.length)
 | [],c,j,arr,h=>by simp
 | x::l,c,j,arr,h=>by
   have hl:c+j < arr.toList.length:=by rw[Array.length_toList];simp at h;omega
   rw[List.zipIdx_cons,List.foldl_cons,qaZ l c (j+1) _ (by simp at h ⊢;omega),Array.toList_setIfInBounds]
   have e1:(arr.toList.set (c+j) x).take (c+(j+1))=arr.toList.take (c+j)++[x]:=by
     rw[← Nat.add_assoc,Zs (x:=x) (by rw[List.getElem?_set_self hl]),List.take_set_of_le (Nat.le_refl _)]
   have e2:(arr.toList.set (c+j) x).drop (c+(j+1)+l.length)=arr.toList.drop (c+j+(x::l).length):=by
     rw[List.drop_set_of_lt (by omega),List.length_cons];congr 1;omega
   rw[e1,e2];simp
section
variable {prog:Program}{w:World}{Ar:Around}{E:Value->Shared->Prop}{s:Shared}{κ:SortKind}{L:Keyed->Keyed->Bool}{U:Keyed->Prop}{st:SortSt}
theorem qcj {st':SortSt}{Q:PUnit->SortSt->Prop} (h:Q ⟨⟩ st'):wpS (model prog w) Ar E s (set st':StateT SortSt Sem PUnit) Q st:=by
 unfold wpS;rw[StateT.run_set];exact wpAny_pure ⟨rfl,h⟩
theorem jA (O:OrdK L U) (ask:Asks prog w Ar s κ L U) (hk:kindOf st=κ) {X Y:List Keyed} (ha:arrOf st=(X++Y).toArray) {p1 p2:Nat} (hp:pendingOf st=#[(0,X.length,p1),(X.length,Y.length,p2)]) (hf:failedOf st=none)
   (u:∀ x∈X++Y,U x) (sX:Asc L X) (sY:Asc L Y) (x0:0 < X.length) (y0:0 < Y.length)
   {Q:Bool->SortSt->Prop} (h:∀ st',(arrOf st').toList.Perm (X++Y)->Asc L (arrOf st').toList->failedOf st'=none->(pendingOf st').size=1->Q true st'):wpS (model prog w) Ar E s (mergeAt' 0) Q st:=by
 obtain⟨κ',arr,pend,g,f⟩:=st;cases (show κ'=κ from hk);cases (show arr=_ from ha);cases (show pend=_ from hp);cases (show f=none from hf);have uX:∀ x∈X,U x:=fun x hx=>u x (List.mem_append_left _ hx);have uY:∀ x∈Y,U x:=fun x hx=>u x (List.mem_append_right _ hx);have ua:∀ x∈(X++Y).toArray.toList,U x:=u;have sz:(X++Y).toArray.size=X.length+Y.length:=by simp
 have atX:∀ m,m < X.length->(X++Y).toArray[m]?=X[m]?:=fun m hm=>by rw[List.getElem?_toArray,List.getElem?_append_left hm]
 have atY:∀ m,(X++Y).toArray[X.length+m]?=Y[m]?:=fun m=>by rw[List.getElem?_toArray,List.getElem?_append_right (by omega),Nat.add_sub_cancel_left]
 have gX:Seg L (X++Y).toArray 0 X.length:=fun i j h1 h2 x y ex ey=>by
   rw[Nat.zero_add,atX _ (by omega)]at ex ey;exact sX.le O h1 ex ey
 have gY:Seg L (X++Y).toArray X.length Y.length:=fun i j h1 h2 x y ex ey=>by
   rw[atY]at ex ey;exact sY.le O h1 ex ey
 obtain⟨yf,ef⟩:∃ yf,Y[0]?=some yf:=⟨Y[0],List.getElem?_eq_getElem y0⟩
 obtain⟨xl,el⟩:∃ xl,X[X.length - 1]?=some xl:=⟨X[X.length - 1],List.getElem?_eq_getElem (by omega)⟩
 have uyf:=uY _ (List.mem_of_getElem? ef);have uxl:=uX _ (List.mem_of_getElem? el);have ps:((#[(0,X.length,p1),(X.length,Y.length,p2)].setIfInBounds 0 (0,X.length+Y.length,p1)).eraseIdxIfInBounds (0+1)).size=1:=by simp[Array.eraseIdxIfInBounds]
 refine wpS_bind (wpS_get ?_);dsimp -zeta only;rw[show (#[(0,X.length,p1),(X.length,Y.length,p2)]:Array (Nat×Nat×Nat))[0]?=some (0,X.length,p1) from rfl,show (#[(0,X.length,p1),(X.length,Y.length,p2)]:Array (Nat×Nat×Nat))[0+1]?=some (X.length,Y.length,p2) from rfl];refine wpS_bind (qcj ?_);refine wpS_bind (qq (x:=yf) (by rw[← ef];exact atY 0) ?_);refine wpS_bind (qdZ (base:=0) (n:=X.length) (hint:=0) O ask rfl uyf ua (by omega) x0 gX fun k k1 k2 k3=>?_);simp only[Nat.zero_add]at k2 k3;have k2:∀ m x,m < k->X[m]?=some x->L yf x=false:=fun m x hm e=>k2 m x hm (by rw[atX _ (by omega)];exact e)
 have k3:∀ m x,k≤m->X[m]?=some x->L yf x=true:=fun m x hm e=>by
   have:=(List.getElem?_eq_some_iff.mp e).1
   exact k3 m x hm this (by rw[atX _ this];exact e)
 dsimp -zeta only;by_cases c:(X.length - k == 0)=true
 · rw[if_pos c];have c:X.length - k=0:=by simpa using c
   refine wpS_pure (h _ (List.Perm.refl _) (List.pairwise_append.mpr ⟨sX,sY,fun x hx y hy=>?_⟩) rfl ps);obtain⟨m,em⟩:=List.mem_iff_getElem?.mp hx;obtain⟨q,eq⟩:=List.mem_iff_getElem?.mp hy
   have:=(List.getElem?_eq_some_iff.mp em).1
   exact O.tr _ _ _ (uX _ hx) uyf (uY _ hy) (k2 m x (by omega) em) (sY.le O (Nat.zero_le _) ef eq)
 rw[if_neg c];have c:X.length - k≠0:=by simpa using c
 have lx:=k3 _ _ (by omega) el;refine wpS_bind (qq (x:=xl) (by rw[show 0+k+(X.length - k) - 1=X.length - 1 by omega,atX _ (by omega)];exact el) ?_);refine wpS_bind (qd0 (base:=X.length) (n:=Y.length) (hint:=Y.length - 1) O ask rfl uxl ua (by omega) (by omega) gY fun n n1 n2 n3=>?_);simp only[atY]at n2 n3;dsimp -zeta only;by_cases d:(n == 0)=true
 · have d:n=0:=by simpa using d
   have:=n3 0 yf (by omega) y0 ef
   rw[lx]at this;cases this
 rw[if_neg d];have d:n≠0:=by simpa using d
 extract_lets xx yy jp
 have exx:xx.toList=X.drop k:=by
   show ((X++Y).toArray.extract (0+k) X.length).toList=_;rw[Array.toList_extract,List.extract_eq_take_drop,Nat.zero_add];show ((X++Y).drop k).take (X.length - k)=_;rw[List.drop_append_of_le_length k1,List.take_left' (by rw[List.length_drop])]
 have eyy:yy.toList=Y.take n:=by
   show ((X++Y).toArray.extract X.length (X.length+n)).toList=_;rw[jO];show ((X++Y).drop X.length).take n=_;rw[List.drop_left]
 have zx:xx.size=X.length - k:=by rw[← Array.length_toList,exx,List.length_drop]
 have zy:yy.size=n:=by rw[← Array.length_toList,eyy,List.length_take];omega
 have uxx:∀ x∈xx.toList,U x:=fun x hx=>by rw[exx]at hx;exact uX _ (List.mem_of_mem_drop hx)
 have uyy:∀ x∈yy.toList,U x:=fun x hx=>by rw[eyy]at hx;exact uY _ (List.mem_of_mem_take hx)
 have sxx:Asc L xx.toList:=by rw[exx];exact List.Pairwise.sublist (List.drop_sublist _ _) sX
 have syy:Asc L yy.toList:=by rw[eyy];exact List.Pairwise.sublist (List.take_sublist _ _) sY
 have q0:∀ y,yy[0]?=some y->∀ x∈xx.toList,L x y=false:=fun y ey x hx=>by
   rw[← Array.getElem?_toList,eyy,List.getElem?_take,if_pos (by omega),ef]at ey;cases ey;rw[exx]at hx;obtain⟨m,em⟩:=in_drop.mp hx;exact O.asy _ _ (k3 _ _ (by omega) em)
 have ql:∀ x,xx[xx.size - 1]?=some x->∀ y∈yy.toList,L x y=false:=fun x ex y hy=>by
   rw[← Array.getElem?_toList,exx,List.getElem?_drop,zx,show k+(X.length - k - 1)=X.length - 1 by omega,el]at ex;cases ex;rw[eyy]at hy;obtain⟨m,hm,em⟩:=in_take.mp hy;exact O.asy _ _ (n2 m y hm em)
 have fin:∀ (r:Array Keyed) (g:Nat),Q6 L xx.toList yy.toList r.toList->wpS (model prog w) Ar E s (jp r) Q (ZZ (SortSt.mk' κ (X++Y).toArray ((#[(0,X.length,p1),(X.length,Y.length,p2)].setIfInBounds 0 (0,X.length+Y.length,p1)).eraseIdxIfInBounds (0+1)) g none) g):=fun r g ⟨pe,so⟩=>by
   refine wpS_bind (wpS_modify (wpS_bind (wpS_get (wpS_pure ?_))))
   have er:(List.foldl (fun (a:Array Keyed) (x:Keyed×Nat)=>a.setIfInBounds (0+k+x.2) x.1) (X++Y).toArray r.toList.zipIdx).toList=X.take k++r.toList++Y.drop n:=by
     have zr:r.toList.length=X.length - k+n:=by rw[pe.length_eq,List.length_append,exx,eyy,List.length_drop,List.length_take];omega
     rw[qaZ r.toList (0+k) 0 _ (by rw[zr];simp;omega),zr];show (X++Y).take (0+k+0)++r.toList++(X++Y).drop (0+k+0+(X.length - k+n))=_;rw[show 0+k+0=k by omega,show k+(X.length - k+n)=X.length+n by omega,List.take_append_of_le_length k1];congr 1;simp
   have inM:∀ z∈r.toList,z∈X.drop k∨z∈Y.take n:=fun z hz=>by
     have:=pe.mem_iff.mp hz
     rw[exx,eyy]at this;exact List.mem_append.mp this
   have pS:∀ p∈X.take k,∀ y∈Y,L y p=false:=fun p hp y hy=>by
     obtain⟨m,hm,em⟩:=in_take.mp hp;obtain⟨q,eq⟩:=List.mem_iff_getElem?.mp hy;exact O.tr _ _ _ (uX _ (List.mem_of_mem_take hp)) uyf (uY _ hy) (k2 m p hm em) (sY.le O (Nat.zero_le _) ef eq)
   have sS:∀ z∈Y.drop n,∀ x∈X,L z x=false:=fun z hz x hx=>by
     obtain⟨m,em⟩:=in_drop.mp hz;obtain⟨q,eq⟩:=List.mem_iff_getElem?.mp hx;have l1:=(List.getElem?_eq_some_iff.mp em).1;have l2:=(List.getElem?_eq_some_iff.mp eq).1;exact O.tr _ _ _ (uX _ hx) uxl (uY _ (List.mem_of_mem_drop hz)) (sX.le O (by omega) eq el) (n3 (n+m) z (by omega) l1 em)
   have sX':Asc L (X.take k++X.drop k):=by rw[List.take_append_drop];exact sX
   have sY':Asc L (Y.take n++Y.drop n):=by rw[List.take_append_drop];exact sY
   refine h _ ?_ ?_ rfl ps
   · show (List.foldl (fun (a:Array Keyed) (x:Keyed×Nat)=>a.setIfInBounds (0+k+x.2) x.1) (X++Y).toArray r.toList.zipIdx).toList.Perm _;rw[er];rw[exx,eyy]at pe
     have:=(List.Perm.append_left (X.take k) pe).append_right (Y.drop n)
     refine this.trans (List.Perm.of_eq ?_);rw[List.append_assoc,List.append_assoc,List.take_append_drop,← List.append_assoc,List.take_append_drop]
   · show Asc L (List.foldl (fun (a:Array Keyed) (x:Keyed×Nat)=>a.setIfInBounds (0+k+x.2) x.1) (X++Y).toArray r.toList.zipIdx).toList;rw[er];refine List.pairwise_append.mpr ⟨List.pairwise_append.mpr ⟨List.Pairwise.sublist (List.take_sublist _ _) sX,so,fun p hp z hz=>?_⟩,List.Pairwise.sublist (List.drop_sublist _ _) sY,fun p hp z hz=>?_⟩
     · rcases inM z hz with q|q
       · exact(List.pairwise_append.mp sX').2.2 p hp z q
       · exact pS p hp z (List.mem_of_mem_take q)
     · rcases List.mem_append.mp hp with hp|hp
       · exact pS p hp z (List.mem_of_mem_drop hz)
       · rcases inM p hp with q|q
         · exact sS z hz p (List.mem_of_mem_drop q)
         · exact(List.pairwise_append.mp sY').2.2 p q z hz
 by_cases e:X.length - k≤n
 · rw[if_pos e];exact wpS_bind (jy O ask rfl uxx uyy sxx syy (by omega) (by omega) q0 ql fun r g f=>fin r g f)
 · rw[if_neg e];exact wpS_bind (jz O ask rfl uxx uyy sxx syy (by omega) (by omega) q0 ql fun r g f=>fin r g f)
theorem QE (ask:Asks prog w Ar s κ L U) (hk:kindOf st=κ) {i j:Nat}{x y:Keyed} (hi:(arrOf st)[i]?=some x) (hj:(arrOf st)[j]?=some y) (ux:U x) (uy:U y) {Q:Option Bool->SortSt->Prop} (h:Q (some (L x y)) st):wpS (model prog w) Ar E s (ltAt' i j) Q st :=
 wpS_bind (wpS_get (wpS_bind (qq hi (wpS_bind (qq hj (ZM ask ux uy hk h))))))
theorem QF (ask:Asks prog w Ar s κ L U) (hk:kindOf st=κ) {lo nrem m:Nat} (hz:lo+nrem≤(arrOf st).size) (u:∀ x∈(arrOf st).toList,U x) (m1:1≤m) (mn:m≤nrem) (sg:Seg L (arrOf st) lo m)
   (ed:m < nrem->∀ x y,(arrOf st)[lo+m]?=some x->(arrOf st)[lo+m - 1]?=some y->L x y=true) (rose:m < nrem->1 < m∧∀ x y,(arrOf st)[lo]?=some x->(arrOf st)[lo+m - 1]?=some y->L x y=true)
   {Q:Option Nat->SortSt->Prop} (h:Q (some m) st):wpS (model prog w) Ar E s (countRun' lo nrem) Q st:=by
 have at_:∀ i,i < (arrOf st).size->∃ x,(arrOf st)[i]?=some x∧U x:=fun i hi=>⟨(arrOf st)[i],Array.getElem?_eq_getElem hi,u _ (Array.getElem_mem_toList hi)⟩
 refine wpS_bind (wpS_mono (wpS_forRange (I:=fun y c st'=>st'=st∧c=(none,y)∧y≤m) (Q:=fun c st'=>st'=st∧c=(none,m)) ?_ ?_ ⟨rfl,rfl,m1⟩) ?_)
 · rintro y c st' hy1 hy ⟨rfl,rfl,hm⟩;obtain⟨a,ea,ua⟩:=at_ (lo+y) (by omega);obtain⟨b,eb,ub⟩:=at_ (lo+y - 1) (by omega);refine wpS_bind (QE ask hk ea eb ua ub ?_);dsimp only;by_cases c:y=m
   · subst c;rw[if_pos (ed hy _ _ ea eb)];exact wpS_pure ⟨rfl,rfl⟩
   · have:L a b=false:=sg (y - 1) y (by omega) (by omega) b a (by rw[show lo+(y - 1)=lo+y - 1 by omega];exact eb) ea
     rw[if_neg (by rw[this];decide)];exact wpS_pure ⟨rfl,rfl,by omega⟩
 · rintro c st' ⟨rfl,rfl,hm⟩;exact⟨rfl,by rw[show max 1 nrem=m by omega]⟩
 · rintro c st' ⟨rfl,rfl⟩;dsimp only;by_cases c:(m == nrem)=true
   · rw[if_pos c];exact wpS_pure h
   rw[if_neg c];have c:m≠nrem:=by simpa using c
   obtain⟨r1,r2⟩:=rose (by omega);rw[if_pos r1];obtain⟨a,ea,ua⟩:=at_ lo (by omega);obtain⟨b,eb,ub⟩:=at_ (lo+m - 1) (by omega);refine wpS_bind (QE ask hk ea eb ua ub ?_);dsimp only;rw[if_pos (r2 _ _ ea eb)];exact wpS_pure h
theorem qa5 {lo n:Nat} (h1:1≤n) {Q:Bool->SortSt->Prop} (h:Q true st):wpS (model prog w) Ar E s (binarySort' lo n n) Q st:=by
 refine wpS_bind (wpS_mono (wpS_forRange (I:=fun y c st'=>st'=st∧c=(none,())) (Q:=fun c st'=>st'=st∧c=(none,())) ?_ ?_ ⟨rfl,rfl⟩) ?_)
 · rintro y c st' hy1 hy;omega
 · rintro c st' q;exact q
 · rintro c st' ⟨rfl,rfl⟩;exact wpS_pure h
theorem qa4 (O:OrdK L U) (ask:Asks prog w Ar s κ L U) (hk:kindOf st=κ) {m:Nat} (hz:m < (arrOf st).size) (u:∀ x∈(arrOf st).toList,U x) (m1:1≤m) (sg:Seg L (arrOf st) 0 m)
   {Q:Bool->SortSt->Prop} (h:∀ arr:Array Keyed,arr.Perm (arrOf st)->Seg L arr 0 (m+1)->(∀ i,m < i->arr[i]?=(arrOf st)[i]?)->Q true (setArr st arr)):wpS (model prog w) Ar E s (binarySort' 0 (m+1) m) Q st:=by
 have at_:∀ i,i < (arrOf st).size->∃ x,(arrOf st)[i]?=some x∧U x:=fun i hi=>⟨(arrOf st)[i],Array.getElem?_eq_getElem hi,u _ (Array.getElem_mem_toList hi)⟩
 obtain⟨key,ek,uk⟩:=at_ m hz;refine wpS_bind (wpS_mono (wpS_forRange (I:=fun y c st'=>c=(none,())∧((y=m∧st'=st)∨(y=m+1∧∃ arr:Array Keyed,st'=setArr st arr∧arr.Perm (arrOf st)∧Seg L arr 0 (m+1)∧∀ i,m < i->arr[i]?=(arrOf st)[i]?))) (Q:=fun c st'=>c=(none,())∧∃ arr:Array Keyed,st'=setArr st arr∧arr.Perm (arrOf st)∧Seg L arr 0 (m+1)∧∀ i,m < i->arr[i]?=(arrOf st)[i]?) ?_ ?_ ⟨rfl,.inl ⟨by omega,rfl⟩⟩) ?_)
 · rintro y c st' hy1 hy ⟨rfl,⟨rfl,rfl⟩|⟨q,_⟩⟩
   · refine wpS_bind (wpS_mono (wpS_forRange (I:=fun x c st''=>st''=st'∧∃ l r,c=(none,l,r)∧l≤r∧r≤y∧r≤l+(y - x)∧(∀ i z,i < l->(arrOf st')[i]?=some z->L key z=false)∧∀ i z,r≤i->i < y->(arrOf st')[i]?=some z->L key z=true)
       (Q:=fun c st''=>st''=st'∧∃ l,c=(none,l,l)∧l≤y∧(∀ i z,i < l->(arrOf st')[i]?=some z->L key z=false)∧∀ i z,l≤i->i < y->(arrOf st')[i]?=some z->L key z=true) ?_ ?_ ⟨rfl,0,y,rfl,by omega,by omega,by omega,fun i z q=>by omega,fun i z q=>by omega⟩) ?_)
     · rintro x c st'' _ hx ⟨rfl,l,r,rfl,h1,h2,h3,h4,h5⟩;dsimp only;by_cases c:l ≥ r
       · rw[if_pos c]
         have:l=r:=by omega
         subst this;exact wpS_pure ⟨rfl,l,rfl,h2,h4,h5⟩
       rw[if_neg c];obtain⟨a,ea,ua⟩:=at_ ((l+r) / 2) (by omega);refine wpS_bind (QE ask hk (by rw[Nat.zero_add];exact ek) (by rw[Nat.zero_add];exact ea) uk ua ?_);dsimp only
       cases e:L key a with
       | true =>
         refine wpS_pure ⟨rfl,l,(l+r) / 2,rfl,by omega,by omega,by omega,h4,fun i z q1 q2 ez=>?_⟩
         cases g:L key z with
         | true=>rfl
         | false =>
           have:=O.tr _ _ _ ua (u _ (by rw[← Array.getElem?_toList]at ez;exact List.mem_of_getElem? ez)) uk (sg ((l+r) / 2) i q1 q2 _ _ (by rw[Nat.zero_add];exact ea) (by rw[Nat.zero_add];exact ez)) g
           rw[this]at e;cases e
       | false =>
         refine wpS_pure ⟨rfl,(l+r) / 2+1,r,rfl,by omega,by omega,by omega,fun i z q1 ez=>?_,h5⟩;exact O.tr _ _ _ (u _ (by rw[← Array.getElem?_toList]at ez;exact List.mem_of_getElem? ez)) ua uk (sg i ((l+r) / 2) (by omega) (by omega) _ _ (by rw[Nat.zero_add];exact ez) (by rw[Nat.zero_add];exact ea)) e
     · rintro c st'' ⟨rfl,l,r,rfl,h1,h2,h3,h4,h5⟩
       have:l=r:=by omega
       subst this;exact⟨rfl,l,rfl,h2,h4,h5⟩
     · rintro c st'' ⟨rfl,l,rfl,h2,h4,h5⟩;dsimp only;refine wpS_bind (wpS_modify (wpS_pure ⟨rfl,.inr ⟨rfl,bubble (arrOf st'') y (y - l),?_,bubble_perm _ _ _,fun i j q1 q2 a b ea eb=>?_,fun i hi=>?_⟩⟩))
       · simp only[Nat.zero_add];rfl
       · rw[Nat.zero_add,getElem?_bubble hz _ (by omega),show y - (y - l)=l by omega]at ea eb;have sg':∀ i j x z,i≤j->j < y->(arrOf st'')[i]?=some x->(arrOf st'')[j]?=some z->L z x=false:=fun i j x z q1 q2 ex ez=>sg i j q1 q2 _ _ (by rw[Nat.zero_add];exact ex) (by rw[Nat.zero_add];exact ez);rcases Nat.lt_trichotomy i l with c|c|c
         · rw[if_neg (by omega),if_neg (by omega)]at ea;rcases Nat.lt_trichotomy j l with d|d|d
           · rw[if_neg (by omega),if_neg (by omega)]at eb;exact sg' i j _ _ q1 (by omega) ea eb
           · rw[if_pos d,ek]at eb;cases eb;exact h4 i a c ea
           · rw[if_neg (by omega),if_pos (by omega)]at eb;exact sg' i (j - 1) _ _ (by omega) (by omega) ea eb
         · rw[if_pos c,ek]at ea;cases ea;rcases Nat.lt_trichotomy j l with d|d|d
           · omega
           · rw[if_pos d,ek]at eb;cases eb;exact O.irr _
           · rw[if_neg (by omega),if_pos (by omega)]at eb;exact O.asy _ _ (h5 (j - 1) b (by omega) (by omega) eb)
         · rw[if_neg (by omega),if_pos (by omega)]at ea;rw[if_neg (by omega),if_pos (by omega)]at eb;exact sg' (i - 1) (j - 1) _ _ (by omega) (by omega) ea eb
       · rw[getElem?_bubble hz _ (by omega),if_neg (by omega),if_neg (by omega)]
   · omega
 · rintro c st' ⟨rfl,⟨q,_⟩|⟨_,q⟩⟩
   · omega
   · exact⟨rfl,q⟩
 · rintro c st' ⟨rfl,arr,rfl,q1,q2,q3⟩;exact wpS_pure (h arr q1 q2 q3)
end
structure Two (κ:SortKind) (L:Keyed->Keyed->Bool) (Z:List Keyed) (st:SortSt) (X Y:List Keyed):Prop where
 kd:kindOf st=κ
 ar:arrOf st=(X++Y).toArray
 fl:failedOf st=none
 pe:(X++Y).Perm Z
 sx:Asc L X
 sy:Asc L Y
 zx:0 < X.length
 zy:0 < Y.length
def Q2 (κ:SortKind) (L:Keyed->Keyed->Bool) (Z:List Keyed) (c:Option Unit×Nat) (st:SortSt):Prop:=c=(none,Z.length)∧∃ X Y p,Two κ L Z st X Y∧pendingOf st=#[(0,X.length,p),(X.length,Y.length,0)]
def I2 (κ:SortKind) (L:Keyed->Keyed->Bool) (Z:List Keyed) (st0:SortSt) (y:Nat) (c:Option Unit×Nat) (st:SortSt):Prop :=
 (y=0∧c=(none,0)∧st=st0)∨(y=1∧∃ X Y,c=(none,X.length)∧Two κ L Z st X Y∧pendingOf st=#[(0,X.length,0)])∨(2≤y∧Q2 κ L Z c st)
section
variable {prog:Program}{w:World}{Ar:Around}{E:Value->Shared->Prop}{s:Shared}{κ:SortKind}{L:Keyed->Keyed->Bool}{U:Keyed->Prop}{st:SortSt}
theorem wpS_runs2 (O:OrdK L U) (ask:Asks prog w Ar s κ L U) {X Y:List Keyed} (u:∀ x∈X++Y,U x) (sX:X.Pairwise fun x y=>L x y=true) (sY:Y.Pairwise fun x y=>L x y=true) (zx:X.length≤33) (zy:Y.length≤33) (zz:64≤X.length+Y.length)
   (dn:∀ x y,X[X.length - 1]?=some x->Y[0]?=some y->L y x=true)
   {Q:Unit->SortSt->Prop} (h:∀ st',(arrOf st').toList.Perm (X++Y)->Asc L (arrOf st').toList->failedOf st'=none->Q () st'):wpS (model prog w) Ar E s sortRuns' Q (SortSt.mk' κ (X++Y).toArray #[] 7 none):=by
 have aX:Asc L X:=sX.imp fun h=>O.asy _ _ h;have aY:Asc L Y:=sY.imp fun h=>O.asy _ _ h;have sz:(X++Y).toArray.size=X.length+Y.length:=by simp
 have atX:∀ m,m < X.length->(X++Y).toArray[m]?=X[m]?:=fun m hm=>by rw[List.getElem?_toArray,List.getElem?_append_left hm]
 have atY:∀ m,(X++Y).toArray[X.length+m]?=Y[m]?:=fun m=>by rw[List.getElem?_toArray,List.getElem?_append_right (by omega),Nat.add_sub_cancel_left]
 have gX:Seg L (X++Y).toArray 0 X.length:=fun i j h1 h2 x y ex ey=>by
   rw[Nat.zero_add,atX _ (by omega)]at ex ey;exact aX.le O h1 ex ey
 have zN:(X++Y).length=X.length+Y.length:=List.length_append
 have hmr:(X.length+Y.length=64∧minRun' (X.length+Y.length) (X.length+Y.length) 0=32)∨(X.length+Y.length=65∧minRun' (X.length+Y.length) (X.length+Y.length) 0=33)∨(X.length+Y.length=66∧minRun' (X.length+Y.length) (X.length+Y.length) 0=33):=by
   rcases (show X.length+Y.length=64∨X.length+Y.length=65∨X.length+Y.length=66 by omega) with e|e|e
   · exact .inl ⟨e,by rw[e];rfl⟩
   · exact .inr (.inl ⟨e,by rw[e];rfl⟩)
   · exact .inr (.inr ⟨e,by rw[e];rfl⟩)
 rw[sortRuns'_eq];refine wpS_bind (wpS_get ?_);(try dsimp -zeta only);rw[show (arrOf (SortSt.mk' κ (X++Y).toArray #[] 7 none)).size=X.length+Y.length from sz];obtain⟨mr,emr⟩:∃ mr,minRun' (X.length+Y.length) (X.length+Y.length) 0=mr:=⟨_,rfl⟩
 rw[emr]at hmr;refine wpS_bind (wpS_mono (wpS_forRange (I:=I2 κ L (X++Y) (SortSt.mk' κ (X++Y).toArray #[] 7 none)) (Q:=Q2 κ L (X++Y)) ?_ ?_ (.inl ⟨rfl,rfl,rfl⟩)) ?_)
 · rintro y c st' _ hy (⟨rfl,rfl,rfl⟩|⟨rfl,X',Y',rfl,T,hp⟩|⟨hy2,rfl,q⟩)
   · -- the first run
     try dsimp -zeta only
     extract_lets lo jp force n2
     rw[if_neg (show ¬ lo ≥ X.length+Y.length from by show ¬ 0 ≥ _;omega)];refine wpS_bind (QF (lo:=0) (nrem:=X.length+Y.length - 0) (m:=X.length) ask rfl (by show _≤(X++Y).toArray.size;omega) u (by omega) (by omega) gX (fun _ x y ex ey=>?_) (fun _=>⟨by omega,fun x y ex ey=>?_⟩) ?_)
     · rw[Nat.zero_add]at ex ey;exact dn y x (by rw[← atX _ (by omega)];exact ey) (by rw[← atY];exact ex)
     · rw[Nat.zero_add]at ey;have ex:X[0]?=some x:=by rw[← atX _ (by omega)];exact ex
       have ey:X[X.length - 1]?=some y:=by rw[← atX _ (by omega)];exact ey
       obtain⟨q1,rfl⟩:=List.getElem?_eq_some_iff.mp ex;obtain⟨q2,rfl⟩:=List.getElem?_eq_some_iff.mp ey;exact List.pairwise_iff_getElem.mp sX 0 (X.length - 1) q1 q2 (by omega)
     try dsimp -zeta only
     extract_lets n
     have hj:∀ (X' Y':List Keyed) (st':SortSt) (R:ForInStep (Option Unit×Nat)->SortSt->Prop),Two κ L (X++Y) st' X' Y'->pendingOf st'=#[]->(∀ c' st'',I2 κ L (X++Y) (SortSt.mk' κ (X++Y).toArray #[] 7 none) (0+1) c' st''->R (.yield c') st'')->wpS (model prog w) Ar E s (jp ⟨⟩ X'.length) R st':=fun X' Y' st' R T hp hR=>by
       refine wpS_bind (wpS_get ?_);(try dsimp -zeta only);rw[hp];refine wpS_bind (wpS_modify (wpS_pure (hR _ _ (.inr (.inl ⟨rfl,X',Y',?_,⟨T.kd,T.ar,T.fl,T.pe,T.sx,T.sy,T.zx,T.zy⟩,?_⟩)))))
       · show (none,0+X'.length)=(none,X'.length);rw[Nat.zero_add]
       · show (pendingOf st').push (0,X'.length,0)=_;rw[hp];rfl
     clear_value jp
     by_cases c:X.length < mr
     · rw[if_pos (show n < minRun' (X.length+Y.length) (X.length+Y.length) 0 from by rw[emr];exact c)]
       have ef:force=X.length+1:=by
         show min (X.length+Y.length - 0) (minRun' (X.length+Y.length) (X.length+Y.length) 0)=_;rw[emr];omega
       refine wpS_bind (wpS_lift (wpAny_rule ⟨rfl,?_⟩));refine wpS_bind ?_;show wpS _ _ _ _ (binarySort' 0 force X.length) _ _;rw[ef];refine qa4 O ask rfl (by show _ < (X++Y).toArray.size;omega) u (by omega) gX fun arr pe sg sm=>?_;(try dsimp -zeta only);have pe':arr.toList.Perm (X++Y):=Array.perm_iff_toList_perm.mp pe;have la:arr.toList.length=X.length+Y.length:=by rw[pe'.length_eq,zN]
       have e1:n2=(arr.toList.take (X.length+1)).length:=by
         rw[List.length_take];show force=_;omega
       rw[if_neg (by decide),e1];refine hj (arr.toList.take (X.length+1)) (arr.toList.drop (X.length+1)) (setArr (SortSt.mk' κ (X++Y).toArray #[] 7 none) arr) _ ⟨rfl,?_,rfl,?_,?_,?_,?_,?_⟩ rfl fun _ _ q=>q
       · rw[List.take_append_drop]
       · rw[List.take_append_drop];exact pe'
       · refine List.pairwise_iff_getElem.mpr fun i j hi hj' lt=>?_;have hj2:j < X.length+1:=by rw[List.length_take]at hj';omega
         refine sg i j (by omega) hj2 _ _ ?_ ?_
         · rw[Nat.zero_add,← Array.getElem?_toList,← List.getElem?_eq_getElem hi,List.getElem?_take,if_pos (by omega)]
         · rw[Nat.zero_add,← Array.getElem?_toList,← List.getElem?_eq_getElem hj',List.getElem?_take,if_pos (by omega)]
       · have:arr.toList.drop (X.length+1)=Y.drop 1:=by
           apply List.ext_getElem?;intro i;rw[List.getElem?_drop,List.getElem?_drop,Array.getElem?_toList,sm _ (by omega),Nat.add_assoc];exact atY _
         rw[this];exact List.Pairwise.sublist (List.drop_sublist _ _) aY
       · rw[List.length_take];omega
       · rw[List.length_drop];omega
     · rw[if_neg (show ¬ n < minRun' (X.length+Y.length) (X.length+Y.length) 0 from by rw[emr];exact c)];exact hj X Y (SortSt.mk' κ (X++Y).toArray #[] 7 none) _ ⟨rfl,rfl,rfl,List.Perm.refl _,aX,aY,by omega,by omega⟩ rfl fun _ _ q=>q
   · -- the second run
     have zT:X'.length+Y'.length=X.length+Y.length:=by rw[← List.length_append,T.pe.length_eq,zN]
     have t1:=T.zx;have t2:=T.zy;have at':∀ m,(arrOf st')[X'.length+m]?=Y'[m]?:=fun m=>by rw[T.ar,List.getElem?_toArray,List.getElem?_append_right (by omega),Nat.add_sub_cancel_left]
     try dsimp -zeta only
     extract_lets lo jp force n2
     rw[if_neg (show ¬ lo ≥ X.length+Y.length from by show ¬ X'.length ≥ _;omega)];refine wpS_bind (QF (lo:=X'.length) (nrem:=X.length+Y.length - X'.length) (m:=X.length+Y.length - X'.length) ask T.kd (by rw[T.ar];simp;omega) (fun x hx=>?_) (by omega) (by omega) (fun i j h1 h2 x y ex ey=>?_) (fun q=>by omega) (fun q=>by omega) ?_)
     · rw[T.ar]at hx;exact u x (T.pe.mem_iff.mp hx)
     · rw[at']at ex ey;exact T.sy.le O h1 ex ey
     try dsimp -zeta only
     extract_lets n
     have hn:n=Y'.length:=by show X.length+Y.length - X'.length=_;omega
     have hj:∀ R:ForInStep (Option Unit×Nat)->SortSt->Prop,(∀ c' st'',I2 κ L (X++Y) (SortSt.mk' κ (X++Y).toArray #[] 7 none) (1+1) c' st''->R (.yield c') st'')->wpS (model prog w) Ar E s (jp ⟨⟩ Y'.length) R st':=fun R hR=>by
       refine wpS_bind (wpS_get ?_);(try dsimp -zeta only);rw[hp];rw[show (#[(0,X'.length,0)]:Array (Nat×Nat×Nat)).back?=some (0,X'.length,0) from rfl];(try dsimp -zeta only)
       extract_lets l5 jp3 pw
       refine wpS_bind (wpS_mono (wpS_forRange (I:=fun _ c st''=>c=(none,())∧st''=st') (Q:=fun c st''=>c=(none,())∧st''=st') ?_ ?_ ⟨rfl,rfl⟩) ?_)
       · rintro y c st'' _ _ ⟨rfl,rfl⟩;refine wpS_bind (wpS_get ?_);(try dsimp -zeta only);rw[hp];exact wpS_pure ⟨rfl,rfl⟩
       · rintro c st'' q;exact q
       · rintro c st'' ⟨rfl,rfl⟩;refine wpS_bind (wpS_modify (wpS_bind (wpS_modify (wpS_pure (hR _ _ (.inr (.inr ⟨by omega,?_,X',Y',pw,⟨T.kd,T.ar,T.fl,T.pe,T.sx,T.sy,T.zx,T.zy⟩,?_⟩)))))))
         · show (none,X'.length+Y'.length)=(none,(X++Y).length);rw[zT,zN]
         · show ((pendingOf st'').modify ((pendingOf st'').size - 1) _).push (X'.length,Y'.length,0)=_;rw[hp];rfl
     clear_value jp
     by_cases c:n < minRun' (X.length+Y.length) (X.length+Y.length) 0
     · rw[if_pos c]
       have ef:force=Y'.length:=by
         have c:n < minRun' (X.length+Y.length) (X.length+Y.length) 0:=c;show min (X.length+Y.length - X'.length) (minRun' (X.length+Y.length) (X.length+Y.length) 0)=_;omega
       refine wpS_bind (wpS_lift (wpAny_rule ⟨rfl,?_⟩));rw[ef,hn];refine wpS_bind (qa5 (by omega) ?_);rw[if_neg (by decide),show n2=Y'.length from ef];exact hj _ fun _ _ q=>q
     · rw[if_neg c,hn];exact hj _ fun _ _ q=>q
   · try dsimp -zeta only
     extract_lets lo
     rw[if_pos (show (X++Y).length ≥ X.length+Y.length by omega)];exact wpS_pure ⟨rfl,q⟩
 · rintro c st' (⟨q,_⟩|⟨q,_⟩|⟨_,q⟩)
   · omega
   · omega
   · exact q
 · rintro c st' ⟨rfl,X',Y',p,T,hp⟩;(try dsimp -zeta only);refine wpS_bind (wpS_mono (wpS_forRange (I:=fun y c st''=>c=(none,())∧((y=0∧st''=st')∨((arrOf st'').toList.Perm (X++Y)∧Asc L (arrOf st'').toList∧failedOf st''=none∧(pendingOf st'').size=1))) (Q:=fun c st''=>c=(none,())∧((arrOf st'').toList.Perm (X++Y)∧Asc L (arrOf st'').toList∧failedOf st''=none∧(pendingOf st'').size=1)) ?_ ?_ ⟨rfl,.inl ⟨rfl,rfl⟩⟩) ?_)
   · rintro y c st'' _ _ ⟨rfl,⟨rfl,rfl⟩|D⟩
     · refine wpS_bind (wpS_get ?_);(try dsimp -zeta only);rw[hp];refine wpS_bind (jA O ask T.kd T.ar hp T.fl (fun x hx=>u x (T.pe.mem_iff.mp hx)) T.sx T.sy T.zx T.zy fun st3 q1 q2 q3 q4=>?_);exact wpS_pure ⟨rfl,.inr ⟨q1.trans T.pe,q2,q3,q4⟩⟩
     · refine wpS_bind (wpS_get ?_);show wpS _ _ _ _ (if (pendingOf st'').size≤1 then _ else _) _ _;rw[if_pos (by rw[D.2.2.2];decide)];exact wpS_pure ⟨rfl,D⟩
   · rintro c st'' ⟨rfl,⟨q,_⟩|D⟩
     · omega
     · exact⟨rfl,D⟩
   · rintro c st'' ⟨rfl,D⟩;exact wpS_pure (h _ D.1 D.2.1 D.2.2.1)
end
end Sm
namespace L2
open PySem PySem.Spec PyProof.Rows PySem.W
open PySem.W (Frag)
def qdA (prog:Program) (w:World) (A:Around) (s:Shared) (κ:SortKind) (vs:List Value) (G:List Value->Prop):Prop :=
 ∃ (L:Keyed->Keyed->Bool) (U:Keyed->Prop) (X Y:List Keyed),Sm.OrdK L U∧Sm.Asks prog w A s κ L U∧(∀ x∈X++Y,U x)∧vs.zip vs=X++Y∧(X.Pairwise fun x y=>L x y=true)∧(Y.Pairwise fun x y=>L x y=true)∧X.length≤33∧Y.length≤33∧64≤X.length+Y.length ∧
   (∀ x y,X[X.length - 1]?=some x->Y[0]?=some y->L y x=true)∧∀ R:List Keyed,R.Perm (X++Y)->Sm.Asc L R->G (R.map fun x=>x.snd)
section
variable {prog:Program}{w:World}{A:Around}{E:Value->Shared->Prop}{κ:SortKind}{s:Shared}
theorem qa9 {a:Addr}{vs:List Value}{n:Nat}{P:PySem.Fin->Shared->Prop}{G:List Value->Prop} (ho:s.heap.get? a=some (seqObj "list" vs.toArray n)) (h2:2≤vs.length) (hz:vs.length≤sizeLine)
   (ask:∀ h',(∀ b o,b≠a->s.heap.get? b=some o->h'.get? b=some o)->wpAny (model prog w) A (keyKind' vs.toArray) (fun κ s'=>s'={ s with heap:=h' }∧qdA prog w A s' κ vs G) (fun _ _=>False) { s with heap:=h' })
   (h:∀ c h' vs',G vs'->(∀ b o,b≠a->s.heap.get? b=some o->h'.get? b=some o)->h'.get? a=some (seqObj "list" vs'.toArray c)->P (.done (.ret .none)) { s with heap:=h' }) :
   wpAny (model prog w) A (Builtin.«list.sort» ⟨[.ref a],[]⟩) P E s:=by
 obtain⟨r,hr⟩:∃ r,vs.length=r+2:=⟨vs.length - 2,by omega⟩
 have big:¬ vs.toArray.size < 2:=by rw[List.size_toArray];omega
 have zz:vs.toArray.size≤sizeLine:=by rw[List.size_toArray];exact hz
 obtain⟨e1,ho1⟩:∃ e1,(s.heap.update a (Obj.mapSeq fun _=>(#[]:Array Value))).get? a=some (seqObj "list" #[] e1):=⟨_,get?_update_seq ho fun _=>#[]⟩
 rw[list_sort_plain];refine wpAny_bind (listItems_at ho rfl (wpAny_bind (listUpdate_at ho rfl ?_ zz (Nat.zero_le _))));refine wpAny_bind (seqEpoch_at ho1 rfl (wpAny_bind (wpAny_newTuple ?_ zz)));refine wpAny_bind (wpAny_newList (wpAny_holding ?_) (Nat.zero_le _))
 have k3:∀ b o,b≠a->s.heap.get? b=some o->(((s.heap.update a (Obj.mapSeq fun _=>(#[]:Array Value))).push (seqObj "tuple" vs.toArray 0)).push (seqObj "list" #[] 0)).get? b=some o:=fun b o hb q =>
   Heap.get?_push_of_some _ (Heap.get?_push_of_some _ (((Heap.SameBut.update s.heap a _).2 b hb).trans q))
 have ho2:(((s.heap.update a (Obj.mapSeq fun _=>(#[]:Array Value))).push (seqObj "tuple" vs.toArray 0)).push (seqObj "list" #[] 0)).get? a=some (seqObj "list" #[] e1):=Heap.get?_push_of_some _ (Heap.get?_push_of_some _ ho1);dsimp only;rw[if_neg big,if_neg big];refine wpAny_bind (wpAny_mono (ask _ k3) (fun κ s' zz_=>?_) fun _ _ x=>x.elim);obtain⟨es,lt⟩:=zz_;subst es;obtain⟨L,U,X,Y,O,as,ux,eXY,sX,sY,zx,zy,z64,dn,fin⟩:=lt;have run:=Sm.wpS_runs2 (E:=E) O as ux sX sY zx zy z64 dn (Q:=fun _ st=>∃ vs',G vs'∧vs'.length=vs.length∧Array.map (fun x:Keyed=>x.snd) (arrOf st)=vs'.toArray∧failedOf st=none) fun st q1 q2 q3=>⟨_,fin _ q1 q2,by rw[List.length_map,q1.length_eq,← eXY,List.length_zip];omega,Array.toList_inj.mp (by rw[Array.toList_map]),q3⟩
 rw[← eXY,show (vs.zip vs).toArray=vs.toArray.zip vs.toArray from (by simp)]at run;unfold PyProof.Rows.wpS at run;refine wpAny_bind (wpAny_mono run ?_ fun _ _ x=>x);rintro⟨⟨⟩,st⟩ s' ⟨rfl,vs',gv,lv,snd0,hf⟩;dsimp only;rw[snd0];refine wpAny_bind (seqEpoch_at ho2 rfl (wpAny_bind (listUpdate_at ho2 rfl ?_ (Nat.zero_le _) (by rw[List.size_toArray,lv];exact Nat.le_succ_of_le hz))));rw[hf];simp only[bne_self_eq_false,Bool.false_eq_true,if_false];refine wpAny_pure (h _ _ vs' gv (fun b o hb q=>?_) (get?_update_seq ho2 fun _=>vs'.toArray));exact((Heap.SameBut.update _ a _).2 b hb).trans (k3 b o hb q)
theorem JG {l:Addr}{vs:List Value}{Q:Value->Shared->Prop}{G:List Value->Prop} (hl:s.heap.IsList l vs.toArray) (h2:2≤vs.length) (hz:vs.length≤sizeLine)
   (ask:∀ h',(∀ b o,s.heap.get? b=some o->h'.get? b=some o)->wpAny (model prog w) A.in1.in1 (keyKind' vs.toArray) (fun κ s'=>s'={ s with heap:=h' }∧qdA prog w A.in1.in1 s' κ vs G) (fun _ _=>False) { s with heap:=h' })
   (h:∀ D c h' vs',G vs'->s.heap.get? D=none->(∀ b o,s.heap.get? b=some o->h'.get? b=some o)->h'.get? D=some (seqObj "list" vs'.toArray c)->Q (.ref D) { s with heap:=h' }) :
   wpAny (model prog w) A (call (.builtin "sorted") [.ref l]) Q E s:=by
 refine Calls.call_function_entry kind_sorted plain_sorted entry_sorted (args_sorted1 _) ?_;unfold Builtin.«sorted»;refine wpAny_bind (m:=checkCount "sorted" 1 1 _) (wpAny_pure ?_);refine wpAny_bind (collect_list hl (wpAny_bind (wpAny_newList ?_ hz)) hz);generalize hg:(s.heap.push (seqObj "list" #[] 0)).update s.heap.objs.size (Obj.mapSeq (·++vs.toArray))=g;have z1:g.objs.size=s.heap.objs.size+1:=by rw[← hg,Heap.size_update,size_push']
 have at_:(g.push (seqObj "list" vs.toArray 0)).get? (s.heap.objs.size+1)=some (seqObj "list" vs.toArray 0):=by rw[← z1];exact Heap.get?_push_size _ rfl
 have kp:∀ b o,s.heap.get? b=some o->(g.push (seqObj "list" vs.toArray 0)).get? b=some o:=fun b o q=>by
   have lt:b < s.heap.objs.size:=Heap.lt_size q;rw[Heap.get?_push_ne _ _ _ (by rw[z1];exact Nat.ne_of_lt (Nat.lt_succ_of_lt lt)),← hg,Heap.get?_update_ne _ _ _ _ (Nat.ne_of_lt lt),Heap.get?_push_ne _ _ _ (Nat.ne_of_lt lt)];exact q
 rw[z1];refine wpAny_bind (wpAny_holding (wpAny_call_entry slot_list_sort ⟨_,at_,rfl⟩ entry_list_sort ?body (args_list_sort _)))
 case body =>
   refine qa9 (s:={ s with heap:=g.push (seqObj "list" vs.toArray 0) }) at_ h2 hz (fun h' k=>ask h' fun b o q=>k b o (Nat.ne_of_lt (Nat.lt_succ_of_lt (Heap.lt_size q))) (kp b o q)) fun c h' vs' gv k e=>?_;exact⟨_,rfl,wpAny_pure ⟨_,rfl,h (s.heap.objs.size+1) c h' vs' gv (Heap.get?_none_of_le (Nat.le_succ _)) (fun b o q=>k b o (Nat.ne_of_lt (Nat.lt_succ_of_lt (Heap.lt_size q))) (kp b o q)) e⟩⟩
end
inductive Jh (K:Frag) (xs:List V) (H:Hp) (Q:VK):Prop
 | mk (l:Addr) (zs:List V) (us vs:List (List Int)) (k:Nat) (h1:xs=[.ref l]) (h2:SqL K H l zs) (h3:TupI H zs (us++vs)) (h4:∀ r∈us++vs,r.length=k) (h5:0 < k) (h6:us.Pairwise (fun a b=>qK a b=true)) (h7:vs.Pairwise (fun a b=>qK a b=true))
   (h8:us.length≤33) (h9:vs.length≤33) (h10:64≤us.length+vs.length) (h11:∀ x y,us[us.length - 1]?=some x->vs[0]?=some y->qK y x=true)
   (h12:∀ (p:Addr) (zs':List V) (rs':List (List Int)),H p=none->rs'.Perm (us++vs)->TupI H zs' rs'->rs'.Pairwise (fun a b=>qK b a=false)->Q (.ref p) (upd H p (.lst zs'))):Jh K xs H Q
def qbQ (K:Frag):List V->Hp->VK->Prop:=fun xs H Q=>Jh K xs H Q
theorem Qq:∀ {as bs:List Int}{us:List Value},Vals (as.map V.int) us->Vals (bs.map V.int) us->as=bs
 | [],[],_,_,_=>rfl
 | [],_::_,_,.nil,h=>nomatch h
 | _::_,[],_,h,.nil=>nomatch h
 | a::as,b::bs,_,.cons r1 t1,.cons r2 t2=>by
   obtain⟨x,e1⟩:=(show ∃ t,_=Value.int a t from r1)
   obtain⟨y,e2⟩:=(show ∃ t,_=Value.int b t from r2)
   rw[e1]at e2;cases e2;rw[Qq t1 t2]
theorem J0 {h:Heap}{v:Value}{r r':List Int} (a:jv h v r) (b:jv h v r'):r=r':=by
 obtain⟨t,o,us,n,e1,rv,ho,hc,hd⟩:=a;obtain⟨t',o',us',n',e1',rv',ho',hc',hd'⟩:=b;subst e1;cases e1';rw[ho]at ho';cases ho';rw[hd]at hd';injection hd' with q1 q2
 have:us=us':=by simpa using q1
 subst this;exact Qq rv rv'
theorem jF {α β:Type}{f:α->β}{m R:List β} (h:m.Perm R):∀ {l:List α},l.map f=m->∃ l',l.Perm l'∧R=l'.map f:=by
 induction h with
 | nil=>intro l e;exact⟨l,.refl _,e.symm⟩
 | cons x p ih =>
   intro l e
   match l,e with
   | a::l,e =>
     injection e with e1 e2;obtain⟨l',q1,q2⟩:=ih e2;exact⟨a::l',q1.cons a,by rw[List.map_cons,e1,q2]⟩
 | swap x y p =>
   intro l e
   match l,e with
   | a::b::l,e =>
     injection e with e1 e2;injection e2 with e2 e3;exact⟨b::a::l,.swap b a l,by rw[List.map_cons,List.map_cons,e1,e2,e3]⟩
 | trans p q i1 i2 =>
   intro l e;obtain⟨l1,a1,a2⟩:=i1 e;obtain⟨l2,b1,b2⟩:=i2 a2.symm;exact⟨l2,a1.trans b1,b2⟩
open Classical in
noncomputable def jD (h:Heap) (x:Keyed):List Int:=if q:∃ r,jv h x.1 r then choose q else []
theorem zK {h:Heap}{x:Keyed}{r:List Int} (a:jv h x.1 r):jD h x=r:=by
 unfold jD;rw[dif_pos ⟨r,a⟩];exact J0 (Classical.choose_spec ⟨r,a⟩) a
section
variable {X:Cx}
theorem JU:CallR X (.builtin "sorted") (qbQ X.K):=by
 intro pins s σ H xs us Q I r h;obtain⟨l,zs,ru,rw',k,rfl,hq,tp,hk,k0,su,sv,zu,zv,z64,dn,q⟩:=h;obtain⟨u,rfl,ru'⟩:=JD r;cases (show u=Value.ref l from ru');obtain⟨its,rv,p,hz⟩:=I.list hq;have hlen:=rv.length;have tl:=tp.len;rw[List.length_append]at tl;refine JG (G:=fun vs'=>∃ zs' rs',Vals zs' vs'∧zs'.length=zs.length∧rs'.Perm (ru++rw')∧TupI H zs' rs'∧rs'.Pairwise (fun a b=>qK b a=false)) p.isList (by omega) (by rw[← hlen];exact hz) (fun h' kp=>?_) fun D c h' vs' ⟨zs',rs',rv',zl,pe,tI,so⟩ free kp e=>?_
 · have pa:=Zr I (h':=h') (fun b u _ z=>kp b u z) tp rv;obtain⟨fs,t1,t2,t3⟩:=QA pa fun r hr=>by rw[hk r hr];exact k0
   refine PySem.W.kat_kind (T:=.type "int") t1 (by omega) (fun v hv=>?_) rfl ⟨rfl,?_⟩
   · obtain⟨i,t,rfl⟩:=t3 v hv;exact PySem.W.Looks.of_pure rfl
   have lz:(its.zip its).length=its.length:=by rw[List.length_zip];omega
   have at_:∀ (i:Nat) (x:Keyed),(its.zip its)[i]?=some x->jv h' x.1 ((ru++rw').getD i (List.replicate k 0))∧i < its.length:=fun i x e=>by
     have hi:i < its.length:=by have:=(List.getElem?_eq_some_iff.mp e).1;omega
     refine⟨?_,hi⟩
     have:=qN (d:=Value.none) (e:=List.replicate k 0) pa hi
     rw[List.getElem?_zip_eq_some]at e;rw[List.getD_eq_getElem?_getD,e.1]at this;exact this
   have g_:∀ (i:Nat) (x:Keyed),(its.zip its)[i]?=some x->jD h' x=(ru++rw').getD i (List.replicate k 0):=fun i x e=>zK (at_ i x e).1;refine⟨fun x y=>qK (jD h' x) (jD h' y),fun x=>∃ r,jv h' x.1 r∧r.length=k,(its.zip its).take ru.length,(its.zip its).drop ru.length,⟨?_,fun a b=>qY _ _⟩,?_,?_,(List.take_append_drop _ _).symm,?_,?_,?_,?_,?_,?_,?_⟩
   · rintro a b c ⟨ra,ha,la⟩ ⟨rb,hb,lb⟩ ⟨rc,hc,lc⟩ x y;simp only[zK ha,zK hb,zK hc]at x y ⊢;exact Qe (by omega) (by omega) y x
   · rintro x y ⟨rx,hx,lx⟩ ⟨ry,hy,ly⟩ C hC;dsimp only at hC;rw[show qK (jD h' x) (jD h' y)=qK rx ry by rw[zK hx,zK hy]]at hC;obtain⟨tx,ox,ux,nx,ex,vx,hx,cx,dx⟩:=hx;obtain⟨ty,oy,uy,ny,ey,vy,hy,cy,dy⟩:=hy;rw[ex,ey];refine PySem.W.kat_lt hx dx hy dy ?_;have e1':=vx.length;have e2':=vy.length;rw[List.length_map]at e1' e2';rw[show decide (ux.toArray.size < uy.toArray.size)=false from decide_eq_false (by rw[List.size_toArray,List.size_toArray];omega)];exact Jt vx vy (by omega) hC
   · intro x hx;rw[List.take_append_drop]at hx;obtain⟨i,e⟩:=List.mem_iff_getElem?.mp hx;exact⟨_,(at_ i x e).1,qT hk i⟩
   · refine List.pairwise_iff_getElem.mpr fun i j hi hj lt=>?_;rw[List.length_take]at hi hj;have e1:=g_ i (its.zip its)[i] (List.getElem?_eq_getElem (by omega));have e2:=g_ j (its.zip its)[j] (List.getElem?_eq_getElem (by omega));rw[List.getElem_take,List.getElem_take];dsimp only;rw[e1,e2]
     have:=List.pairwise_iff_getElem.mp su i j (by omega) (by omega) lt
     rw[List.getD_eq_getElem?_getD,List.getD_eq_getElem?_getD,List.getElem?_append_left (by omega),List.getElem?_append_left (by omega),List.getElem?_eq_getElem (by omega),List.getElem?_eq_getElem (by omega)];exact this
   · refine List.pairwise_iff_getElem.mpr fun i j hi hj lt=>?_;rw[List.length_drop]at hi hj;have e1:=g_ (ru.length+i) (its.zip its)[ru.length+i] (List.getElem?_eq_getElem (by omega));have e2:=g_ (ru.length+j) (its.zip its)[ru.length+j] (List.getElem?_eq_getElem (by omega));rw[List.getElem_drop,List.getElem_drop];dsimp only;rw[e1,e2]
     have:=List.pairwise_iff_getElem.mp sv i j (by omega) (by omega) lt
     rw[List.getD_eq_getElem?_getD,List.getD_eq_getElem?_getD,List.getElem?_append_right (by omega),List.getElem?_append_right (by omega),Nat.add_sub_cancel_left,Nat.add_sub_cancel_left,List.getElem?_eq_getElem (by omega),List.getElem?_eq_getElem (by omega)];exact this
   · rw[List.length_take];omega
   · rw[List.length_drop];omega
   · rw[List.length_take,List.length_drop];omega
   · intro x y ex ey;rw[List.length_take,Nat.min_eq_left (by omega),List.getElem?_take,if_pos (by omega)]at ex;rw[List.getElem?_drop]at ey;dsimp only;rw[g_ _ _ ex,g_ _ _ ey];have l1:ru.length - 1 < ru.length:=by omega
     have l2:0 < rw'.length:=by omega
     rw[List.getD_eq_getElem?_getD,List.getD_eq_getElem?_getD,List.getElem?_append_right (by omega),List.getElem?_append_left l1,Nat.add_sub_cancel_left,List.getElem?_eq_getElem l1,List.getElem?_eq_getElem l2];exact dn _ _ (List.getElem?_eq_getElem l1) (List.getElem?_eq_getElem l2)
   · intro R pR aR;rw[List.take_append_drop]at pR
     have em:(List.range its.length).map (fun i=>(its.zip its).getD i (Value.none,Value.none))=its.zip its:=by
       rw[← lz];exact ze _ _
     obtain⟨is,pi,eR⟩:=jF pR.symm em;have inR:∀ i∈is,i < zs.length:=fun i hi=>by rw[hlen];exact List.mem_range.mp (pi.mem_iff.mpr hi)
     refine⟨is.map fun i=>zs.getD i .non,is.map fun i=>(ru++rw').getD i (List.replicate k 0),?_,?_,?_,ZO tp inR,?_⟩
     · have:=Ql (d:=V.non) (e:=Value.none) rv inR
       rw[eR,List.map_map];rw[show is.map ((fun x:Keyed=>x.snd) ∘ fun i=>(its.zip its).getD i (Value.none,Value.none))=is.map fun i=>its.getD i Value.none from List.map_congr_left fun i hi=>?_]
       · exact this
       · have lt:=inR i hi;rw[hlen]at lt;simp[List.getD_eq_getElem?_getD,List.getElem?_zip_eq_some,lt]
     · rw[List.length_map,← pi.length_eq,List.length_range,hlen]
     · have:=pi.symm.map fun i=>(ru++rw').getD i (List.replicate k 0)
       rw[← hlen,tp.len,ze]at this;exact this
     · rw[eR]at aR;have aR:=List.pairwise_map.mp aR;refine List.pairwise_map.mpr (aR.imp_of_mem fun {i j} hi hj e=>?_);have li:=inR i hi;have lj:=inR j hj;have q:∀ i,i < its.length->(its.zip its)[i]?=some ((its.zip its).getD i (Value.none,Value.none)):=fun i h=>by rw[List.getD_eq_getElem?_getD,List.getElem?_eq_getElem (by omega)];rfl
       dsimp only at e;rw[g_ _ _ (q i (by omega)),g_ _ _ (q j (by omega))]at e;exact e
 · have I':Inv X pins σ (upd H D (.lst zs')) { s with heap:=h' }:=I.laidL (t':=s.toks) (fun b u _ z=>kp b u z) (fun m ⟨o,es,ep,ho,r⟩=>⟨o,es,ep,kp _ _ ho,r⟩) free ⟨by rw[zl];exact hz,vs',c,rv',e⟩;exact⟨.ref D,_,I',rfl,q D zs' rs' (I.unlaid free) pe tI so⟩
end
end L2
namespace PySem
namespace F
end F
section
variable {prog:Program}{w:World}{A:Around}{E:Value->Shared->Prop}{s:Shared}
variable {R:Result->Shared->Prop}
end
end PySem
namespace PySem
namespace F
theorem zip_no_len:typeLookup (.type "zip") "__len__"=pure none:=by rw[typeLookup_type,builtinLookup_eq_fast];kernel_rfl
theorem zip_no_hint:typeLookup (.type "zip") "__length_hint__"=pure none:=by rw[typeLookup_type,builtinLookup_eq_fast];kernel_rfl
end F
end PySem
namespace L2
open PySem PySem.Spec PyProof.Rows
open PySem.W (Frag)
section
variable {prog:Program}{w:World}{A:Around}{E:Value->Shared->Prop}{s:Shared}
theorem jB {M:Model}{a:Addr}{o:Obj}{Q:Option Obj->Shared->Prop} (ho:s.heap.get? a=some o) (h:Q (some o) s):wpAny M A (loadIfAlive a) Q E s:=fun Γ p _=>by
 unfold loadIfAlive;rw[Sem.wp_loadIfAlive,ho];exact(Sem.wp_pure ..).mpr h
abbrev zJ (h:Heap) (z TI TO T:Addr) (b:Bool):Prop :=
 h.get? z=some { cls:=.type "zip",dict:=none,data:=.fields #[rawInt T,.bool b,.bool false,.ref TI,.ref TO],slots:=#[] }
theorem Jp {z TI TO T:Addr}{b:Bool}{o:Obj}{Q:Bool->Shared->Prop} (gz:zJ s.heap z TI TO T b) (hT:s.heap.get? T=some o)
   (q:∀ h',zJ h' z TI TO T true->Heap.SameBut z s.heap h'->Q false { s with heap:=h' }):wpAny (model prog w) A (Builtin.SmallTypes.ownedTupleIsFree (.ref z)) Q E s:=by
 unfold Builtin.SmallTypes.ownedTupleIsFree;refine wpAny_bind (wpAny_field gz rfl (x:=rawInt T) rfl ?_);show wpAny _ _ (loadIfAlive ((T:Int).toNat) >>= _) _ _ s;rw[Int.toNat_natCast];refine wpAny_bind (jB hT ?_);rw[if_neg (by simp)];refine wpAny_bind (wpAny_field gz rfl (x:=.bool b) rfl ?_)
 cases b with
 | true =>
   rw[if_neg (by decide)];exact wpAny_pure (q s.heap gz (Heap.SameBut.refl _ _))
 | false =>
   rw[if_pos (by decide)];refine wpAny_bind (wpAny_setField_rec gz (by simp) fun g1 z1 n1=>?_);exact wpAny_pure (q g1 z1 n1)
theorem qch {z TI TO i1 i2 l1 l2 T:Addr}{b:Bool}{o:Obj}{k:Nat}{xs ys:Array Value}{x y:Value}{Q:Value->Shared->Prop} (D:ZipApart z TI TO i1 i2 l1 l2)
   (gz:zJ s.heap z TI TO T b) (hT:s.heap.get? T=some o) (gI:IsPair s.heap TI (.ref i1) (.ref i2)) (j1:s.heap.IsListIter i1 l1 k) (j2:s.heap.IsListIter i2 l2 k) (m1:s.heap.IsList l1 xs) (m2:s.heap.IsList l2 ys) (ex:xs[k]?=some x) (ey:ys[k]?=some y)
   (q:∀ h',zJ h' z TI TO T true->h'.IsListIter i1 l1 (k+1)->h'.IsListIter i2 l2 (k+1)->IsPair h' s.heap.objs.size x y ->
     (∀ c o,c≠z->c≠i1->c≠i2->s.heap.get? c=some o->h'.get? c=some o)->Q (.ref s.heap.objs.size) { s with heap:=h' }) :
   wpAny (model prog w) A (Builtin.«zip.__next__» ⟨[.ref z],[]⟩) (fun fin s'=>∃ v,fin=.done (.ret v)∧Q v s') E s:=by
 show wpAny _ _ (field (.ref z) 2 >>= _) _ _ s;refine wpAny_bind (wpAny_field gz rfl (x:=.bool false) rfl ?_);show wpAny _ _ (field (.ref z) 3 >>= _) _ _ s;refine wpAny_bind (wpAny_field gz rfl (x:=.ref TI) rfl (wpAny_bind (wpAny_seqItems gI rfl ?_)));show wpAny _ _ (Builtin.SmallTypes.ownedTupleIsFree (.ref z) >>= _) _ _ s;refine wpAny_bind (Jp gz hT fun g1 z1 n1=>?_);simp only[Bool.false_eq_true,if_false];refine wpAny_bind ?_;rw[← Array.forIn_toList];simp only[List.forIn_cons,List.forIn_nil];refine wpAny_bind (wpAny_bind (wpAny_holding ?_));show wpAny _ _ (Builtin.SmallTypes.nextOf (.ref i1) >>= _) _ _ { s with heap:=g1 };refine wpAny_bind (wpAny_nextOf_list_item (s:={ s with heap:=g1 }) (j1.at fun o e=>n1.extBut _ o D.i1z e) (m1.at fun o e=>n1.extBut _ o D.l1z e) ex fun g2 j12 n2=>wpAny_pure (wpAny_pure ?_));have k2:∀ c o,c≠z->c≠i1->s.heap.get? c=some o->g2.get? c=some o:=fun c o c1 c2 e=>n2.extBut _ _ c2 (n1.extBut _ _ c1 e);refine wpAny_bind (wpAny_bind (wpAny_holding ?_));show wpAny _ _ (Builtin.SmallTypes.nextOf (.ref i2) >>= _) _ _ { s with heap:=g2 };refine wpAny_bind (wpAny_nextOf_list_item (s:={ s with heap:=g2 }) (j2.at fun o e=>k2 _ o D.i2z D.i12.symm e) (m2.at fun o e=>k2 _ o D.l2z D.l2i1 e) ey fun g3 j24 n3=>wpAny_pure (wpAny_pure (wpAny_pure ?_)));have sz:g3.objs.size=s.heap.objs.size:=by rw[n3.1,n2.1,n1.1]
 have z3:zJ g3 z TI TO T true:=n3.extBut _ _ D.i2z.symm (n2.extBut _ _ D.i1z.symm z1);refine wpAny_bind (wpAny_newTuple (wpAny_pure ⟨_,rfl,?_⟩) (by show 2≤sizeLine;decide));show Q (.ref g3.objs.size) { s with heap:=g3.push { cls:=.type "tuple",data:=.seq #[x,y] } };have T3:IsPair (g3.push { cls:=.type "tuple",data:=.seq #[x,y] }) g3.objs.size x y:=Heap.get?_push_size _ rfl;rw[sz]at T3 ⊢;exact q _ (Heap.get?_push_of_some _ z3) ((j12.at fun o e=>n3.extBut _ o D.i12 e).at fun o e=>Heap.get?_push_of_some _ e) (j24.at fun o e=>Heap.get?_push_of_some _ e) T3 fun c o c1 c2 c3 e=>Heap.get?_push_of_some _ (n3.extBut _ _ c3 (k2 c o c1 c2 e))
theorem qcU {z TI TO i1 i2 l1 l2 T:Addr}{b:Bool}{o:Obj}{k:Nat}{xs:Array Value}{Q:Fin->Shared->Prop} (hd:A.handled=none) (D:ZipApart z TI TO i1 i2 l1 l2)
   (gz:zJ s.heap z TI TO T b) (hT:s.heap.get? T=some o) (gI:IsPair s.heap TI (.ref i1) (.ref i2)) (j1:s.heap.IsListIter i1 l1 k) (m1:s.heap.IsList l1 xs) (en:xs[k]?=none)
   (q:∀ h' v,(∀ c o,c≠z->c≠i1->s.heap.get? c=some o->h'.get? c=some o)->(∃ o,h'.get? v=some o∧o.cls=.type "StopIteration")->E (.ref v) { s with heap:=h' }) :
   wpAny (model prog w) A (Builtin.«zip.__next__» ⟨[.ref z],[]⟩) Q E s:=by
 show wpAny _ _ (field (.ref z) 2 >>= _) _ _ s;refine wpAny_bind (wpAny_field gz rfl (x:=.bool false) rfl ?_);show wpAny _ _ (field (.ref z) 3 >>= _) _ _ s;refine wpAny_bind (wpAny_field gz rfl (x:=.ref TI) rfl (wpAny_bind (wpAny_seqItems gI rfl ?_)));show wpAny _ _ (Builtin.SmallTypes.ownedTupleIsFree (.ref z) >>= _) _ _ s;refine wpAny_bind (Jp gz hT fun g1 z1 n1=>?_);simp only[Bool.false_eq_true,if_false];refine wpAny_bind ?_;rw[← Array.forIn_toList];simp only[List.forIn_cons,List.forIn_nil];refine wpAny_bind (wpAny_bind (wpAny_holding ?_));show wpAny _ _ (Builtin.SmallTypes.nextOf (.ref i1) >>= _) _ _ { s with heap:=g1 };exact wpAny_bind (qcF (t:=false) (s:={ s with heap:=g1 }) hd (j1.at fun o e=>n1.extBut _ o D.i1z e) (m1.at fun o e=>n1.extBut _ o D.l1z e) en fun g2 v n2 sv=>q g2 v (fun c o c1 c2 e=>n2 _ _ c2 (n1.extBut _ _ c1 e)) sv)
theorem qcy {z TI TO i1 i2 l1 l2 T:Addr}{b:Bool}{o:Obj}{k:Nat}{xs ys:Array Value}{x y:Value}{Q:Option Value->Shared->Prop} (D:ZipApart z TI TO i1 i2 l1 l2)
   (gz:zJ s.heap z TI TO T b) (hT:s.heap.get? T=some o) (gI:IsPair s.heap TI (.ref i1) (.ref i2)) (j1:s.heap.IsListIter i1 l1 k) (j2:s.heap.IsListIter i2 l2 k) (m1:s.heap.IsList l1 xs) (m2:s.heap.IsList l2 ys) (ex:xs[k]?=some x) (ey:ys[k]?=some y)
   (q:∀ h',zJ h' z TI TO T true->h'.IsListIter i1 l1 (k+1)->h'.IsListIter i2 l2 (k+1)->IsPair h' s.heap.objs.size x y ->
     (∀ c o,c≠z->c≠i1->c≠i2->s.heap.get? c=some o->h'.get? c=some o)->Q (some (.ref s.heap.objs.size)) { s with heap:=h' }) :
   wpAny (model prog w) A (pyNext (.ref z)) Q E s:=by
 have Ty:s.TypeIs (.ref z) "zip":=⟨_,gz,rfl⟩
 unfold pyNext
 exact wpAny_bind (wpAny_attempt (wpAny_callSpecial?_slot (name:=Str.ofString "__next__") Ty F.slot_zip_next (wpAny_call_entry F.slot_zip_next Ty F.entry_zip_next
   (qch D gz hT gI j1 j2 m1 m2 ex ey fun h' c1 c2 c3 c4 c5=>wpAny_pure (q h' c1 c2 c3 c4 c5)) (F.args_zip_next_1 _))))
theorem qdb {z TI TO i1 i2 l1 l2 T:Addr}{b:Bool}{o:Obj}{k:Nat}{xs:Array Value}{Q:Option Value->Shared->Prop} (hd:A.handled=none) (D:ZipApart z TI TO i1 i2 l1 l2)
   (gz:zJ s.heap z TI TO T b) (hT:s.heap.get? T=some o) (gI:IsPair s.heap TI (.ref i1) (.ref i2)) (j1:s.heap.IsListIter i1 l1 k) (m1:s.heap.IsList l1 xs) (en:xs[k]?=none)
   (q:∀ h',(∀ c o,c≠z->c≠i1->s.heap.get? c=some o->h'.get? c=some o)->Q none { s with heap:=h' }):wpAny (model prog w) A (pyNext (.ref z)) Q E s:=by
 have Ty:s.TypeIs (.ref z) "zip":=⟨_,gz,rfl⟩
 unfold pyNext
 refine wpAny_bind (wpAny_attempt (wpAny_callSpecial?_slot (name:=Str.ofString "__next__") Ty F.slot_zip_next (wpAny_call_entry F.slot_zip_next Ty F.entry_zip_next
   (qcU hd D gz hT gI j1 m1 en fun h' v hk sv=>?_) (F.args_zip_next_1 _))))
 obtain⟨o,go,co⟩:=sv;exact wpAny_bind (wpAny_isInstance (T:="StopIteration") (b:=true) ⟨o,go,co⟩ isSubtype_stop (wpAny_pure (q _ hk)))
end
structure LZ (X:Cx) (pins:List (Addr×Obj)) (σ:St) (H1:Hp) (z TI TO i1 i2 a b S:Addr) (xs ys:List V) (i:Nat) (H:Hp) (s:Shared) (zs:List V):Prop where
 I:Inv X pins σ H s
 sm:Same H1 H
 hS:H S=some (.lst zs)
 len:zs.length=i
 at_:∀ j x y,j < i->xs[j]?=some x->ys[j]?=some y->∃ t,zs[j]?=some (.ref t)∧H t=some (.tup [x,y])
 fp:∀ c∈[z,TI,TO,i1,i2],JC X pins H c
 gI:IsPair s.heap TI (.ref i1) (.ref i2)
 gO:∃ u v,IsPair s.heap TO u v
 j1:s.heap.IsListIter i1 a i
 j2:s.heap.IsListIter i2 b i
 zst:(i=0∧IsZip s.heap z TI TO .none)∨∃ T bb x y,zJ s.heap z TI TO T bb∧H T=some (.tup [x,y])
section
variable {X:Cx}{pins:List (Addr×Obj)}{σ:St}{R:Result->Shared->Prop}{A:Around}{H1:Hp}{z TI TO i1 i2 a b S:Addr}{xs ys:List V}
theorem qcg (hd:A.in1.handled=none) (D:ZipApart z TI TO i1 i2 a b) (hne:S∉[z,TI,TO,i1,i2]) (fS:H1 S=none) (q1:SqL X.K H1 a xs) (q2:SqL X.K H1 b ys) (he:xs.length=ys.length) (h0:0 < xs.length) (hn:xs.length < sizeLine) (res:Value)
   (hR:∀ (H':Hp) (s':Shared) (zs:List V),Inv X pins σ H' s'->Same H1 H'->H' S=some (.lst zs)->zs.length=xs.length->(∀ (j:Nat) (x y:V),xs[j]?=some x->ys[j]?=some y->∃ t,zs[j]?=some (.ref t)∧H' t=some (.tup [x,y]))->R (.ok (.ret res)) s') :
   ∀ (k i:Nat) (s:Shared) (H:Hp) (zs:List V),xs.length - i=k->i≤xs.length->LZ X pins σ H1 z TI TO i1 i2 a b S xs ys i H s zs->codeAny (model X.prog X.w) A (.builtin "list.extend.loop" ⟨[.ref S,.ref z,res],[]⟩) R s:=by
 intro k
 induction k with
 | zero =>
   intro i s H zs hk hi L;have hin:i=xs.length:=by omega
   subst hin;refine codeAny_builtin F.entry_extend_loop ?_;rw[Around.under_plainId F.plain_extend_loop _];show wpAny _ A.in1 (pyNext (.ref z) >>= _) _ _ s;obtain⟨its,rv,p,hz⟩:=L.I.list (L.sm.seq q1);rcases L.zst with ⟨e,_⟩|⟨T,bb,x,y,gz,hT⟩
   · omega
   obtain⟨_,_,_,o,ho,_⟩:=L.I.hok T _ hT;refine wpAny_bind (qdb hd D gz ho L.gI L.j1 p.isList (by rw[List.getElem?_toArray,List.getElem?_eq_none];rw[← rv.length];exact Nat.le_refl _) fun h' hk'=>wpAny_pure ?_);exact hR H _ zs (L.I.turnL (t':=s.toks) (ch:=[z,TI,TO,i1,i2]) (fun c o hc q=>hk' c o (fun e=>hc (by simp[e])) (fun e=>hc (by simp[e])) q) L.fp) L.sm L.hS L.len fun j x y ex ey=>L.at_ j x y (List.getElem?_eq_some_iff.mp ex).1 ex ey
 | succ k ih =>
   intro i s H zs hk hi L;have hlt:i < xs.length:=by omega
   refine codeAny_builtin F.entry_extend_loop ?_;rw[Around.under_plainId F.plain_extend_loop _];show wpAny _ A.in1 (pyNext (.ref z) >>= _) _ _ s;obtain⟨its,rv,p,hz⟩:=L.I.list (L.sm.seq q1);obtain⟨its2,rv2,p2,hz2⟩:=L.I.list (L.sm.seq q2);obtain⟨x,hx⟩:∃ x,xs[i]?=some x:=⟨_,List.getElem?_eq_getElem hlt⟩
   obtain⟨y,hy⟩:∃ y,ys[i]?=some y:=⟨_,List.getElem?_eq_getElem (by omega)⟩
   obtain⟨u,hu,ru⟩:=rv.get hx;obtain⟨u2,hu2,ru2⟩:=rv2.get hy;have ex:its.toArray[i]?=some u:=by simpa using hu
   have ey:its2.toArray[i]?=some u2:=by simpa using hu2
   -- what comes behind the draw
   have go:∀ h' T bb,zJ h' z TI TO T bb->(T=s.heap.objs.size∨∃ x y,H T=some (.tup [x,y]))->(∃ u v,IsPair h' TO u v)->h'.IsListIter i1 a (i+1)->h'.IsListIter i2 b (i+1)->IsPair h' s.heap.objs.size u u2 ->
       (∀ c o,c≠z->c≠TO->c≠i1->c≠i2->s.heap.get? c=some o->h'.get? c=some o)->wpAny (model X.prog X.w) A.in1 (updateSeq S (·.push (.ref s.heap.objs.size)) >>= fun _=>again (.builtin "list.extend.loop" ⟨[.ref S,.ref z,res],[]⟩))
       (fun fin s'=>match fin with|.done f=>R (.ok f) s'|.again c'=>c'.quiet=true∧codeAny (model X.prog X.w) A c' R s') (fun e s'=>R (.error e) s') { s with heap:=h' }:=by
     intro h' T bb gz2 hT gO2 w3 w4 w5 hk';have nS:S≠s.heap.objs.size:=fun e=>absurd (L.I.hok.lt L.hS) (by rw[e];exact Nat.lt_irrefl _)
     have I1:Inv X pins σ (upd H s.heap.objs.size (.tup [x,y])) { s with heap:=h',toks:=s.toks }:=by
       refine L.I.turnLaid (ch:=[z,TI,TO,i1,i2]) (fun c o hc q=>hk' c o (fun e=>hc (by simp[e])) (fun e=>hc (by simp[e])) (fun e=>hc (by simp[e])) (fun e=>hc (by simp[e])) q) L.fp (Nat.le_refl _) ⟨by show 2≤sizeLine;decide,[u,u2],.cons ru (.cons ru2 .nil),⟨_,w5,rfl,_,rfl⟩⟩
     have hn':H s.heap.objs.size=none:=L.I.hok.fresh (Nat.le_refl _);have S1:Same H (upd H s.heap.objs.size (.tup [x,y])):=Same.new _ hn';have hS1:=S1 _ _ L.hS;obtain⟨zl,its3,n3,rv3,hS3⟩:=I1.hok S _ hS1;have l3:=rv3.length;have lz:=L.len;refine wpAny_bind (wpAny_updateSeq (s:={ s with heap:=h' }) hS3 rfl (wpAny_pure ⟨plainId_quiet F.plain_extend_loop _,ih (i+1) _ (upd (upd H s.heap.objs.size (.tup [x,y])) S (.lst (zs++[.ref s.heap.objs.size]))) (zs++[.ref s.heap.objs.size]) (by omega) hlt ?_⟩) (by rw[List.size_toArray];omega) (by show (its3.toArray.push _).size≤_;rw[Array.size_push,List.size_toArray];omega));have oth:∀ c o,c≠S->h'.get? c=some o->(h'.update S (Obj.mapSeq (·.push (.ref s.heap.objs.size)))).get? c=some o:=fun c o hc q=>(Heap.get?_update_other _ _ (Ne.symm hc)).trans q;have nfp:∀ c∈[z,TI,TO,i1,i2],c≠S:=fun c hc e=>hne (e▸hc)
     have lfp:∀ c∈[z,TI,TO,i1,i2],c < s.heap.objs.size:=fun c hc=>by
       have hzz:z < s.heap.objs.size:=by
         rcases L.zst with ⟨_,g⟩|⟨_,_,_,_,g,_⟩
         · exact Heap.lt_size g
         · exact Heap.lt_size g
       obtain⟨_,_,gO⟩:=L.gO;simp only[List.mem_cons,List.not_mem_nil,or_false]at hc;rcases hc with rfl|rfl|rfl|rfl|rfl
       · exact hzz
       · exact Heap.lt_size L.gI
       · exact Heap.lt_size gO
       · obtain⟨o,g,_⟩:=L.j1;exact Heap.lt_size g
       · obtain⟨o,g,_⟩:=L.j2;exact Heap.lt_size g
     have up:∀ c o,c≠S->(upd H s.heap.objs.size (.tup [x,y])) c=some o->(upd (upd H s.heap.objs.size (.tup [x,y])) S (.lst (zs++[.ref s.heap.objs.size]))) c=some o:=fun c o hc q=>by rw[qi hc];exact q
     have nt:∀ c xs,(upd H s.heap.objs.size (.tup [x,y])) c=some (.tup xs)->c≠S:=fun c xs q e=>by rw[e,hS1]at q;cases q
     refine⟨?_,?_,qb,by rw[List.length_append,lz];rfl,?_,?_,oth _ _ (nfp TI (by simp)) (hk' _ _ D.TIz D.TITO D.TIi1 D.TIi2 L.gI),?_,?_,?_,?_⟩
     · refine I1.write (t':=s.toks) (x:=S) (e:=S) (by rw[hS1];trivial) (.inl rfl) (fun c o hc q=>oth c o hc q) ⟨_,Heap.get?_update_self _ hS3 rfl⟩ ⟨by rw[List.length_append];show zs.length+1≤_;omega,its3++[.ref s.heap.objs.size],n3+1,?_,?_⟩
       · exact rv3.append (.cons rfl .nil)
       · rw[Heap.get?_update_self _ hS3 rfl];simp[Obj.mapSeq]
     · exact(L.sm.trans S1).put fS _
     · intro j x' y' hj ex' ey';rcases Nat.lt_or_ge j i with c|c
       · obtain⟨t,e1,e2⟩:=L.at_ j x' y' c ex' ey';exact⟨t,by rw[List.getElem?_append_left (by omega)];exact e1,up _ _ (nt _ _ (S1 _ _ e2)) (S1 _ _ e2)⟩
       · have:j=i:=by omega
         subst this;rw[hx]at ex';rw[hy]at ey';cases ex';cases ey';exact⟨_,by rw[List.getElem?_append_right (by omega),lz,Nat.sub_self];rfl,up _ _ (Ne.symm nS) qb⟩
     · intro c hc;obtain⟨f1,f2⟩:=L.fp c hc;exact⟨by rw[qi (nfp c hc),qi (Nat.ne_of_lt (lfp c hc))];exact f1,f2⟩
     · obtain⟨u',v',g⟩:=gO2;exact⟨u',v',oth _ _ (nfp TO (by simp)) g⟩
     · exact w3.at fun o e=>oth _ _ (nfp i1 (by simp)) e
     · exact w4.at fun o e=>oth _ _ (nfp i2 (by simp)) e
     · refine .inr ⟨T,bb,?_⟩;rcases hT with rfl|⟨x',y',hT⟩
       · exact⟨x,y,oth _ _ (nfp z (by simp)) gz2,up _ _ (Ne.symm nS) qb⟩
       · exact⟨x',y',oth _ _ (nfp z (by simp)) gz2,up _ _ (nt _ _ (S1 _ _ hT)) (S1 _ _ hT)⟩
   rcases L.zst with ⟨e,gz⟩|⟨T,bb,x',y',gz,hT⟩
   · obtain⟨_,_,gO⟩:=L.gO;refine wpAny_bind (qbj (t:=false) D gz L.gI gO L.j1 L.j2 p.isList p2.isList ex ey fun h' w1 w2 w3 w4 w5 hk'=>?_);exact go h' s.heap.objs.size false w1 (.inl rfl) ⟨_,_,w2⟩ w3 w4 w5 hk'
   · obtain⟨_,_,_,o,ho,_⟩:=L.I.hok T _ hT;obtain⟨u',v',gO⟩:=L.gO;refine wpAny_bind (qcy D gz ho L.gI L.j1 L.j2 p.isList p2.isList ex ey fun h' w1 w3 w4 w5 hk'=>?_);exact go h' T true w1 (.inr ⟨x',y',hT⟩) ⟨u',v',hk' _ _ D.TOz D.TOi1 D.TOi2 gO⟩ w3 w4 w5 fun c o c1 _ c3 c4 q=>hk' c o c1 c3 c4 q
end
inductive J5 (K:Frag) (Q:VK) (vs:List V) (H1:Hp):Prop
 | mk (a b:Addr) (xs ys:List V) (h1:vs=[.ref a,.ref b]) (h2:SqL K H1 a xs) (h3:SqL K H1 b ys) (h4:xs.length=ys.length) (h5:0 < xs.length) (h6:xs.length < sizeLine)
   (h7:∀ (l:Addr) (zs:List V) (H':Hp),H1 l=none->Same H1 H'->H' l=some (.lst zs)->zs.length=xs.length->(∀ (j:Nat) (x y:V),xs[j]?=some x->ys[j]?=some y->∃ t,zs[j]?=some (.ref t)∧H' t=some (.tup [x,y]))->Q (.ref l) H'):J5 K Q vs H1
def qdG (K:Frag) (ta:TA):TE:=fun σ H Q=>ta σ H fun vs H1=>J5 K Q vs H1
section
variable {prog:Program}{w:World}{A:Around}{E:Value->Shared->Prop}{s:Shared}
theorem qbv {z TI TO:Addr}{f:Value}{Q:Bool->Shared->Prop} (hz:IsZip s.heap z TI TO f) (h:Q true s):wpAny (model prog w) A (Builtin.List.listLengthHint (.ref z)) Q E s:=by
 have Ty:s.TypeIs (.ref z) "zip":=⟨_,hz,rfl⟩
 unfold Builtin.List.listLengthHint;refine wpAny_bind (wpAny_specialOf Ty F.zip_no_len ?_);show wpAny _ _ (specialOf (Value.ref z) (Str.ofString "__length_hint__") >>= _) _ _ _;refine wpAny_bind (wpAny_specialOf Ty F.zip_no_hint ?_);exact wpAny_pure h
end
section
variable {X:Cx}
theorem JJ {e1 e2:Expr}{ta:TA}{p p2 p3 pos:Pos} (hc:X.calm=true) (hgl:Gl X "list") (hml:X.mg "list"=none) (hgz:Gl X "zip") (hmz:X.mg "zip"=none) (ha:PA X [e1,e2] ta) (hs:starEach [e1,e2] X.env=(false,eval e1 X.env)::starEach [e2] X.env:=by rfl)
   (hpl:(backTo p3 (starEach [e2] X.env)).any (·.1)=false:=by rfl) :
   PE X (.Call (.Name "list" p) [.Call (.Name "zip" p2) [e1,e2] [] p3] [] pos) (qdG X.K ta):=by
 intro pins s σ H Q I h;refine wpAny_Call_Name_kw (QW I hgl hml qP ?_);refine PyProof.Rows.callWith_type1 ?_ (by rfl) (by rfl);show wpAny _ _ (spliced ((false,eval (.Call (.Name "zip" p2) [e1,e2] [] p3) X.env)::backTo pos (starEach [] X.env))) _ _ s;refine Calls.spliced_cons ?_;refine Call_ (QW I hgz hmz qaX (PyProof.Rows.callWith_type1 (thn (ha p3 pins s σ H _ I h) fun us s1 zz_=>?_) hs hpl));obtain⟨vs,H1,I1,r1,q1⟩:=zz_;obtain⟨a,b,xs,ys,e,hq,hq2,he,h0,hn,q⟩:=q1;subst e;obtain⟨u,v,rfl,ru,rv⟩:=qa6 r1;cases ru;cases rv;obtain⟨its,rv,pl,hz⟩:=I1.list hq;obtain⟨its2,rv2,pl2,hz2⟩:=I1.list hq2;refine qaV (t:=false) pl.isList pl2.isList fun h' gz gI gO j1 j2 hk=>?_;have I2:Inv X pins σ H1 { s1 with heap:=h' }:=I1.kept (t':=s1.toks) hk;refine Calls.spliced_nil ?_;have la:a < s1.heap.objs.size:=by obtain⟨o,e,_⟩:=pl.isList;exact Heap.lt_size e
 have lb:b < s1.heap.objs.size:=by obtain⟨o,e,_⟩:=pl2.isList;exact Heap.lt_size e
 have D:ZipApart (s1.heap.objs.size+4) (s1.heap.objs.size+2) (s1.heap.objs.size+3) s1.heap.objs.size (s1.heap.objs.size+1) a b:=by
   constructor<;>(intro h;have h':=@id (@Eq Nat _ _) h;clear h;revert la lb h';exact fun (la:@LT.lt Nat _ _ _) (lb:@LT.lt Nat _ _ _) h'=>by omega)
 have lz:s1.heap.objs.size+4 < h'.objs.size:=Heap.lt_size gz;refine callType_codes (Q₁:=fun obj s₁=>obj=.ref h'.objs.size∧s₁={ s1 with heap:=h'.push { cls:=.type "list",data:=.seq #[] } }) F.called_list (F.typeCall_list_1 _) F.entry_list_init
   (code_list_new _ ⟨rfl,rfl⟩) fun obj s₁ h₁=>?_
 obtain⟨rfl,rfl⟩:=h₁;have hS:(h'.push { cls:=.type "list",data:=.seq #[] }).get? h'.objs.size=some { cls:=.type "list",data:=.seq #[] }:=Heap.get?_push_size _ rfl;refine⟨⟨_,hS,rfl⟩,F.args_list_init_2 _ _,?_⟩;show wpAny _ X.A.in1.in1 (do let old ← Builtin.List.listItems (.ref h'.objs.size);Builtin.List.listUpdate (.ref h'.objs.size) (fun _=>#[]);letGo old.toList.reverse;Builtin.List.listExtendWith (.ref h'.objs.size) (.ref (s1.heap.objs.size+4)) .none) _ _ _;refine wpAny_bind ?_;unfold Builtin.List.listItems;refine wpAny_bind (wpAny_seqItems hS rfl (wpAny_pure ?_));show wpAny _ X.A.in1.in1 (updateSeq h'.objs.size (fun _=>#[]) >>= fun _=>letGo (#[]:Array Value).toList.reverse >>= fun _=>Builtin.List.listExtendWith (.ref h'.objs.size) (.ref (s1.heap.objs.size+4)) .none) _ _ _;refine wpAny_bind (wpAny_updateSeq hS rfl ?_);have hS₂:=Heap.get?_update_self (Obj.mapSeq (fun _=>(#[]:Array Value))) hS rfl;refine wpAny_bind (wpAny_letGo ?_);generalize hg:(h'.push { cls:=.type "list",data:=.seq #[] }).update h'.objs.size (Obj.mapSeq (fun _=>(#[]:Array Value)))=g at hS₂ ⊢
 have oth:∀ b o,b≠h'.objs.size->h'.get? b=some o->g.get? b=some o:=fun b o hb e=>by
   rw[← hg];exact(Heap.get?_update_other _ _ (Ne.symm hb)).trans (Heap.get?_push_of_some _ e)
 have gzg:IsZip g (s1.heap.objs.size+4) (s1.heap.objs.size+2) (s1.heap.objs.size+3) .none:=oth _ _ (Nat.ne_of_lt lz) gz;have Ty:Shared.TypeIs { s1 with heap:=g } (.ref (s1.heap.objs.size+4)) "zip":=⟨_,gzg,rfl⟩
 unfold Builtin.List.listExtendWith;refine wpAny_bind (wpAny_typeOf Ty ?_)
 have n1:Builtin.List.listSameRef (.ref h'.objs.size) (.ref (s1.heap.objs.size+4))=false:=by
   have:h'.objs.size≠s1.heap.objs.size+4:=Nat.ne_of_gt lz
   simp[Builtin.List.listSameRef,this]
 have n2:(Value.type "zip" == Value.type "list")=false:=by decide
 have n3:(Value.type "zip" == Value.type "tuple")=false:=by decide
 simp only[n1,n2,n3,Bool.or_false,Bool.false_eq_true,if_false];refine wpAny_bind (wpAny_pyIter_zip gzg ?_);refine wpAny_bind (wpAny_holding (qbv gzg ?_))
 show wpAny _ X.A.in1.in1 (rule "list.extend.makes-room" >>= fun _=>Builtin.List.listTouch (.ref h'.objs.size) >>= fun _ =>
   again (.builtin "list.extend.loop" ⟨[.ref h'.objs.size,.ref (s1.heap.objs.size+4),.none],[]⟩)) _ _ _
 refine wpAny_bind (wpAny_rule (wpAny_bind ?_));show wpAny _ X.A.in1.in1 (updateSeq h'.objs.size (·.push .none) >>= fun _=>updateSeq h'.objs.size (·.pop)) _ _ _;refine wpAny_bind (wpAny_updateSeq hS₂ rfl ?_);have hS₃:=Heap.get?_update_self (Obj.mapSeq (·.push Value.none)) hS₂ rfl;refine wpAny_updateSeq hS₃ rfl ?_;have hS₄:=Heap.get?_update_self (Obj.mapSeq (·.pop)) hS₃ rfl;generalize hg2:(g.update h'.objs.size (Obj.mapSeq (·.push Value.none))).update h'.objs.size (Obj.mapSeq (·.pop))=g2 at hS₄ ⊢
 have oth2:∀ b o,b≠h'.objs.size->h'.get? b=some o->g2.get? b=some o:=fun b o hb e=>by
   rw[← hg2];exact(Heap.get?_update_other _ _ (Ne.symm hb)).trans ((Heap.get?_update_other _ _ (Ne.symm hb)).trans (oth b o hb e))
 have ltn:∀ b o,h'.get? b=some o->b≠h'.objs.size:=fun b o e=>Nat.ne_of_lt (Heap.lt_size e);have fS:H1 h'.objs.size=none:=I2.hok.fresh (Nat.le_refl _);refine wpAny_pure ⟨plainId_quiet F.plain_extend_loop _,qcg (A:=X.A.in1) (R:=wants (fun r s₂=>r=Value.none∧EP X pins σ Q (Value.ref h'.objs.size) s₂) X.xe) (H1:=H1) (show X.A.in1.in1.handled=none from I1.ok.hd hc) D ?_ fS hq hq2 he h0 hn .none (fun H' s' zs I' sm hS' len at_=>⟨rfl,⟨.ref h'.objs.size,H',I',rfl,q _ zs H' fS sm hS' len at_⟩⟩) xs.length 0 { s1 with heap:=g2 } (upd H1 h'.objs.size (.lst [])) [] rfl (Nat.zero_le _) ⟨?_,Same.new _ fS,qb,rfl,fun j x y hj=>absurd hj (Nat.not_lt_zero _),fun c hc1=>?_,oth2 _ _ (ltn _ _ gI) gI,⟨_,_,oth2 _ _ (ltn _ _ gO) gO⟩,?_,?_,.inl ⟨rfl,oth2 _ _ (ltn _ _ gz) gz⟩⟩⟩
 · intro hm
   have:h'.objs.size≤s1.heap.objs.size+4:=by
     simp only[List.mem_cons,List.not_mem_nil,or_false]at hm;rcases hm with e|e|e|e|e<;>(rw[e];show @LE.le Nat _ _ _;omega)
   exact absurd (Nat.lt_of_lt_of_le lz this) (Nat.lt_irrefl _)
 · exact I2.laid (t':=s1.toks) (fun b u e=>oth2 b u (ltn b u e) e) (Nat.le_refl _) ⟨Nat.zero_le _,[],_,.nil,hS₄⟩
 · have c1:s1.heap.objs.size≤c∧c < h'.objs.size:=by
     simp only[List.mem_cons,List.not_mem_nil,or_false]at hc1;have lz':@LT.lt Nat _ (s1.heap.objs.size+4) h'.objs.size:=lz;rcases hc1 with rfl|rfl|rfl|rfl|rfl<;>exact⟨by show @LE.le Nat _ _ _;omega,by show @LT.lt Nat _ _ _;omega⟩
   exact I1.fpOk c1.1 (by rw[qi (Nat.ne_of_lt c1.2)];exact I1.hok.fresh c1.1)
 · exact Heap.IsListIter.at j1 fun o e=>oth2 _ _ (ltn _ _ e) e
 · exact Heap.IsListIter.at j2 fun o e=>oth2 _ _ (ltn _ _ e) e
end
end L2
namespace M04
open L2
def Mem (ws:List (Int×Int)) (n:Int):Prop:=∃ w∈ws,w.1≤n∧n≤w.2
def qA (ws:List (Int×Int)):Prop:=(∀ w∈ws,w.1≤w.2)∧ws.Pairwise fun a b=>a.2+1 < b.1
def QB (acc:List (Int×Int)) (w:Int×Int):List (Int×Int):=match acc.getLast? with
 | some l=>if w.1≤l.2+1 then acc.set (acc.length - 1) (l.1,if w.2 > l.2 then w.2 else l.2) else acc++[w]
 | none=>[w]
theorem QV (xs ys:List (Int×Int)) (n:Int):Mem (xs++ys) n↔Mem xs n∨Mem ys n:=by
 constructor
 · rintro⟨w,hw,h⟩;rcases List.mem_append.mp hw with m|m
   · exact .inl ⟨w,m,h⟩
   · exact .inr ⟨w,m,h⟩
 · rintro (⟨w,hw,h⟩|⟨w,hw,h⟩)
   · exact⟨w,List.mem_append.mpr (.inl hw),h⟩
   · exact⟨w,List.mem_append.mpr (.inr hw),h⟩
theorem QU (w:Int×Int) (n:Int):Mem [w] n↔w.1≤n∧n≤w.2:=by
 constructor
 · rintro⟨x,hx,h⟩;have e:x=w:=by simpa using hx
   rw[← e];exact h
 · intro h;exact⟨w,by simp,h⟩
theorem mem_cons (w:Int×Int) (ws:List (Int×Int)) (n:Int):Mem (w::ws) n↔(w.1≤n∧n≤w.2)∨Mem ws n:=by
 rw[show w::ws=[w]++ws from rfl,QV,QU]
theorem ZF {acc:List (Int×Int)}{l:Int×Int} (h:acc.getLast?=some l):∃ init,acc=init++[l] :=
 ⟨acc.dropLast,by
   have ne:acc≠[]:=fun z=>by rw[z]at h;cases h
   have e:acc.getLast ne=l:=by rw[List.getLast?_eq_some_getLast ne]at h;exact Option.some.inj h
   rw[← e];exact(List.dropLast_concat_getLast ne).symm⟩
theorem j9 (init:List (Int×Int)) (l x:Int×Int):(init++[l]).set ((init++[l]).length - 1) x=init++[x]:=by
 rw[List.length_append,show init.length+[l].length - 1=init.length by simp,List.set_append_right _ _ (Nat.le_refl _),Nat.sub_self];rfl
theorem canon_snoc {init:List (Int×Int)}{l:Int×Int}:qA (init++[l])↔qA init∧l.1≤l.2∧∀ a∈init,a.2+1 < l.1:=by
 unfold qA;constructor
 · rintro⟨h1,h2⟩;obtain⟨p1,_,p3⟩:=List.pairwise_append.mp h2;exact⟨⟨fun w m=>h1 w (by simp[m]),p1⟩,h1 l (by simp),fun a m=>p3 a m l (by simp)⟩
 · rintro⟨⟨h1,h2⟩,h3,h4⟩;refine⟨fun w m=>?_,List.pairwise_append.mpr ⟨h2,List.pairwise_singleton _ _,fun a ma b mb=>?_⟩⟩
   · rcases List.mem_append.mp m with m|m
     · exact h1 w m
     · have:w=l:=by simpa using m
       rw[this];exact h3
   · have:b=l:=by simpa using mb
     rw[this];exact h4 a ma
theorem qcq {acc:List (Int×Int)}{w:Int×Int} (c:qA acc) (hw:w.1≤w.2) (hl:∀ l∈acc,l.1≤w.1) :
   qA (QB acc w)∧(∀ n,Mem (QB acc w) n↔Mem acc n∨(w.1≤n∧n≤w.2))∧∀ l∈QB acc w,l.1≤w.1:=by
 cases e:acc.getLast? with
 | none =>
   have e0:acc=[]:=List.getLast?_eq_none_iff.mp e;subst e0;show qA [w]∧(∀ n,Mem [w] n↔Mem [] n∨_)∧∀ l∈[w],l.1≤w.1;refine⟨⟨fun x m=>?_,List.pairwise_singleton _ _⟩,fun n=>?_,fun x m=>?_⟩
   · have:x=w:=by simpa using m
     rw[this];exact hw
   · rw[QU];exact⟨.inr,fun h=>h.elim (fun⟨_,z,_⟩=>nomatch z) id⟩
   · have:x=w:=by simpa using m
     rw[this];exact Int.le_refl _
 | some l =>
   obtain⟨init,rfl⟩:=ZF e;obtain⟨c1,c2,c3⟩:=canon_snoc.mp c;have hl1:=hl l (by simp);unfold QB;rw[e];dsimp only;by_cases g:w.1≤l.2+1
   · rw[if_pos g,j9];refine⟨canon_snoc.mpr ⟨c1,by show l.1≤(if w.2 > l.2 then w.2 else l.2);split<;>omega,c3⟩,fun n=>?_,fun x m=>?_⟩
     · rw[QV,QV,QU,QU,or_assoc];show _∨(l.1≤n∧n≤(if w.2 > l.2 then w.2 else l.2))↔_
       have:(l.1≤n∧n≤(if w.2 > l.2 then w.2 else l.2))↔((l.1≤n∧n≤l.2)∨(w.1≤n∧n≤w.2)):=by
         split<;>omega
       rw[this]
     · rcases List.mem_append.mp m with m|m
       · exact hl x (by simp[m])
       · have:x=(l.1,if w.2 > l.2 then w.2 else l.2):=by simpa using m
         rw[this];exact hl1
   · rw[if_neg g];refine⟨canon_snoc.mpr ⟨c,hw,fun a m=>?_⟩,fun n=>by rw[QV _ [w],QU],fun x m=>?_⟩
     · rcases List.mem_append.mp m with m|m
       · have:=c3 a m;omega
       · have:a=l:=by simpa using m
         rw[this];omega
     · rcases List.mem_append.mp m with m|m
       · exact hl x m
       · have:x=w:=by simpa using m
         rw[this];exact Int.le_refl _
theorem jN:∀ (S acc:List (Int×Int)),qA acc->(∀ w∈S,w.1≤w.2)->S.Pairwise (fun a b=>a.1≤b.1)->(∀ l∈acc,∀ w∈S,l.1≤w.1)->qA (S.foldl QB acc)∧∀ n,Mem (S.foldl QB acc) n↔Mem acc n∨Mem S n
 | [],acc,c,_,_,_=>⟨c,fun n=>⟨.inl,fun h=>h.elim id fun⟨_,z,_⟩=>nomatch z⟩⟩
 | w::S,acc,c,ok,hp,hl=>by
   obtain⟨p1,p2⟩:=List.pairwise_cons.mp hp;obtain⟨s1,s2,s3⟩:=qcq c (ok w (by simp)) fun l m=>hl l m w (by simp);obtain⟨f1,f2⟩:=jN S (QB acc w) s1 (fun x m=>ok x (by simp[m])) p2 fun l m x mx=>Int.le_trans (s3 l m) (p1 x mx);refine⟨f1,fun n=>?_⟩;rw[List.foldl_cons,f2,s2,mem_cons,or_assoc]
theorem qW {w:Int×Int}{ws:List (Int×Int)} (c:qA (w::ws)):qA ws∧w.1≤w.2∧∀ n,Mem ws n->w.2+1 < n:=by
 obtain⟨h1,h2⟩:=c;obtain⟨p1,p2⟩:=List.pairwise_cons.mp h2;exact⟨⟨fun x m=>h1 x (by simp[m]),p2⟩,h1 w (by simp),fun n ⟨x,m,a,b⟩=>by have:=p1 x m;omega⟩
theorem q8:∀ {xs ys:List (Int×Int)},qA xs->qA ys->(∀ n,Mem xs n↔Mem ys n)->xs=ys
 | [],[],_,_,_=>rfl
 | [],y::ys,_,c,h=>by
   obtain⟨_,k,_⟩:=qW c;obtain⟨_,z,_⟩:=(h y.1).mpr ((mem_cons _ _ _).mpr (.inl ⟨Int.le_refl _,k⟩));cases z
 | x::xs,[],c,_,h=>by
   obtain⟨_,k,_⟩:=qW c;obtain⟨_,z,_⟩:=(h x.1).mp ((mem_cons _ _ _).mpr (.inl ⟨Int.le_refl _,k⟩));cases z
 | x::xs,y::ys,c,d,h=>by
   obtain⟨c1,c2,c3⟩:=qW c;obtain⟨d1,d2,d3⟩:=qW d;have h':∀ n,((x.1≤n∧n≤x.2)∨Mem xs n)↔((y.1≤n∧n≤y.2)∨Mem ys n):=fun n=>by rw[← mem_cons,← mem_cons];exact h n
   have a1:y.1≤x.1:=by
     rcases (h' x.1).mp (.inl ⟨Int.le_refl _,c2⟩) with k|k
     · exact k.1
     · have:=d3 _ k;omega
   have a2:x.1≤y.1:=by
     rcases (h' y.1).mpr (.inl ⟨Int.le_refl _,d2⟩) with k|k
     · exact k.1
     · have:=c3 _ k;omega
   have b1:y.2≤x.2:=by
     rcases Int.lt_or_le x.2 y.2 with lt|le
     · rcases (h' (x.2+1)).mpr (.inl ⟨by omega,by omega⟩) with k|k
       · omega
       · have:=c3 _ k;omega
     · exact le
   have b2:x.2≤y.2:=by
     rcases Int.lt_or_le y.2 x.2 with lt|le
     · rcases (h' (y.2+1)).mp (.inl ⟨by omega,by omega⟩) with k|k
       · omega
       · have:=d3 _ k;omega
     · exact le
   have e:x=y:=Prod.ext (by omega) (by omega);subst e;rw[q8 c1 d1 fun n=>?_];constructor
   · intro k
     have:=c3 n k
     rcases (h' n).mp (.inr k) with z|z
     · omega
     · exact z
   · intro k
     have:=d3 n k
     rcases (h' n).mpr (.inr k) with z|z
     · omega
     · exact z
end M04
namespace K05
open PySem L2 PySem.NumText PyProof.Rows KC M04
open PySem.W (Frag fnOf nsIn)
def top (i:Nat):Stmt:=PySem.Challenge.pw_foldlog_k05_either_both_less.main.body.getD i (.Pass ⟨0,0,0,0⟩)
abbrev QN:Stmt:=top 4
theorem Z0:qC ["thing"] ["thing"] (qo QN):=⟨rfl,rfl,rfl,by decide +kernel,rfl,by decide +kernel,by decide +kernel⟩
abbrev Qt:Stmt:=top 6
theorem Zx:qC ["thing"] ["thing"] (qo Qt):=⟨rfl,rfl,rfl,by decide +kernel,rfl,by decide +kernel,by decide +kernel⟩
abbrev zh:Stmt:=top 7
theorem sc_check_stretches:qC ["stretches","place","stretch"] ["stretches"] (qo zh):=⟨rfl,rfl,rfl,by decide +kernel,rfl,by decide +kernel,by decide +kernel⟩
abbrev Ze:Stmt:=top 8
theorem sc_spans_of:qC ["stretches","told","low","high"] ["stretches"] (qo Ze):=⟨rfl,rfl,rfl,by decide +kernel,rfl,by decide +kernel,by decide +kernel⟩
abbrev Ja:Stmt:=top 9
theorem qab:qC ["one","other"] ["one","other"] (qo Ja):=⟨rfl,rfl,rfl,by decide +kernel,rfl,by decide +kernel,by decide +kernel⟩
abbrev qbN:Stmt:=top 10
theorem sc_both:qC ["one","other","told","at_one","at_other","low","high"] ["one","other"] (qo qbN):=⟨rfl,rfl,rfl,by decide +kernel,rfl,by decide +kernel,by decide +kernel⟩
abbrev qbM:Stmt:=top 11
theorem sc_less:qC ["one","other","starts","ends"] ["one","other"] (qo qbM):=⟨rfl,rfl,rfl,by decide +kernel,rfl,by decide +kernel,by decide +kernel⟩
abbrev qag:Stmt:=top 13
theorem qbc:qC ["_law_script","_law_k"] ["_law_script","_law_k"] (qo qag):=⟨rfl,rfl,rfl,by decide +kernel,rfl,by decide +kernel,by decide +kernel⟩
abbrev Jd:Stmt:=top 14
theorem qac:qC ["_law_cell_here"] ["_law_cell_here"] (qo Jd):=⟨rfl,rfl,rfl,by decide +kernel,rfl,by decide +kernel,by decide +kernel⟩
abbrev qae:Stmt:=top 15
theorem sc_Ltake:qC ["_law_purse_here","_law_many","_law_digit","_law_number"] ["_law_purse_here","_law_many"] (qo qae):=⟨rfl,rfl,rfl,by decide +kernel,rfl,by decide +kernel,by decide +kernel⟩
abbrev Qu:Stmt:=top 16
theorem sc_Lstretches:qC ["_law_purse_here","_law_wide","_law_far","_law_many","_law_found","_law_k","_law_low","_law_high"] ["_law_purse_here"] (qo Qu):=⟨rfl,rfl,rfl,by decide +kernel,rfl,by decide +kernel,by decide +kernel⟩
abbrev Z5:Stmt:=top 17
theorem JH:qC ["_law_stretches_here","_law_number"] ["_law_stretches_here","_law_number"] (qo Z5):=⟨rfl,rfl,rfl,by decide +kernel,rfl,by decide +kernel,by decide +kernel⟩
abbrev Je:Stmt:=top 18
theorem sc_Ledges:qC ["_law_stretches_here","_law_found","_law_low","_law_high"] ["_law_stretches_here"] (qo Je):=⟨rfl,rfl,rfl,by decide +kernel,rfl,by decide +kernel,by decide +kernel⟩
abbrev Jb:Stmt:=top 19
theorem sc_Lspans:qC ["_law_thing","_law_above","_law_one"] ["_law_thing"] (qo Jb):=⟨rfl,rfl,rfl,by decide +kernel,rfl,by decide +kernel,by decide +kernel⟩
abbrev qaf:Stmt:=top 20
theorem sc_Llaid:qC ["_law_stretches_here","_law_found","_law_low","_law_high","_law_last"] ["_law_stretches_here"] (qo qaf):=⟨rfl,rfl,rfl,by decide +kernel,rfl,by decide +kernel,by decide +kernel⟩
abbrev qbO:Stmt:=top 21
theorem sc_Ltwo:qC ["_law_purse_here","_law_one","_law_way","_law_at"] ["_law_purse_here"] (qo qbO):=⟨rfl,rfl,rfl,by decide +kernel,rfl,by decide +kernel,by decide +kernel⟩
abbrev Jc:Stmt:=top 22
theorem sc_Lright:qC ["_law_one","_law_other","_law_handed","_law_found","_law_number","_law_here","_law_there","_law_due","_law_kept","_law_some"] ["_law_one","_law_other"] (qo Jc):=⟨rfl,rfl,rfl,by decide +kernel,rfl,by decide +kernel,by decide +kernel⟩
abbrev qc4:Stmt:=top 23
theorem sc_law:qC ["_law_script","_law_k","_law_one","_law_other"] ["_law_script"] (qo qc4):=⟨rfl,rfl,rfl,by decide +kernel,rfl,by decide +kernel,by decide +kernel⟩
set_option genInjectivity false in
structure Ad where
 f_i:Addr
 fd_i:FuncData
 f_n:Addr
 fd_n:FuncData
 f_p:Addr
 fd_p:FuncData
 f_h:Addr
 fd_h:FuncData
 f_d:Addr
 fd_d:FuncData
 f_b:Addr
 fd_b:FuncData
 f_e:Addr
 fd_e:FuncData
 f_q:Addr
 fd_q:FuncData
 f_r:Addr
 fd_r:FuncData
 f_a:Addr
 fd_a:FuncData
 f_j:Addr
 fd_j:FuncData
 f_f:Addr
 fd_f:FuncData
 f_s:Addr
 fd_s:FuncData
 f_t:Addr
 fd_t:FuncData
 f_k:Addr
 fd_k:FuncData
 f_u:Addr
 fd_u:FuncData
 f_g:Addr
 fd_g:FuncData
 f_v:Addr
 fd_v:FuncData
structure Txt (K:Frag) (mg:Str->Option Value) (a:Ad):Prop where
 d_i:Df K mg "is_number" QN ["thing"] a.f_i a.fd_i
 d_n:Df K mg "is_stretch" Qt ["thing"] a.f_n a.fd_n
 d_p:Df K mg "check_stretches" zh ["stretches"] a.f_p a.fd_p
 d_h:Df K mg "spans_of" Ze ["stretches"] a.f_h a.fd_h
 d_d:Df K mg "either" Ja ["one","other"] a.f_d a.fd_d
 d_b:Df K mg "both" qbN ["one","other"] a.f_b a.fd_b
 d_e:Df K mg "less" qbM ["one","other"] a.f_e a.fd_e
 d_q:Df K mg "_law_cell" qag ["_law_script","_law_k"] a.f_q a.fd_q
 d_r:Df K mg "_law_purse" Jd ["_law_cell_here"] a.f_r a.fd_r
 d_a:Df K mg "_law_take" qae ["_law_purse_here","_law_many"] a.f_a a.fd_a
 d_j:Df K mg "_law_stretches" Qu ["_law_purse_here"] a.f_j a.fd_j
 d_f:Df K mg "_law_inside" Z5 ["_law_stretches_here","_law_number"] a.f_f a.fd_f
 d_s:Df K mg "_law_edges" Je ["_law_stretches_here"] a.f_s a.fd_s
 d_t:Df K mg "_law_spans" Jb ["_law_thing"] a.f_t a.fd_t
 d_k:Df K mg "_law_laid" qaf ["_law_stretches_here"] a.f_k a.fd_k
 d_u:Df K mg "_law_two" qbO ["_law_purse_here"] a.f_u a.fd_u
 d_g:Df K mg "_law_right" Jc ["_law_one","_law_other"] a.f_g a.fd_g
 d_v:Df K mg "law" qc4 ["_law_script"] a.f_v a.fd_v
 n_len:mg "len"=none
 n_max:mg "max"=none
 n_min:mg "min"=none
 n_isinstance:mg "isinstance"=none
 n_range:mg "range"=none
 n_enumerate:mg "enumerate"=none
 n_int:mg "int"=none
 n_bool:mg "bool"=none
 n_list:mg "list"=none
 n_tuple:mg "tuple"=none
 n_sorted:mg "sorted"=none
 n_zip:mg "zip"=none
def g2 (p:Int×Int):List Int:=[p.1,p.2]
abbrev pr:Int×Int->List V:=fun p=>(g2 p).map V.int
theorem jL {α β:Type}{f:α->β}{xs:List α}{i:Nat}{y:β} (h:(xs.map f)[i]?=some y):∃ x,xs[i]?=some x∧y=f x:=by
 rw[List.getElem?_map]at h
 cases e:xs[i]? with
 | none=>rw[e]at h;cases h
 | some x=>rw[e]at h;exact⟨x,rfl,(Option.some.inj h).symm⟩
inductive qeq (H:Hp) (q:Addr) (rows:List (Int×Int)):Prop
 | mk (zs:_) (h1:H q=some (.lst zs)) (h2:TupL pr H zs rows):qeq H q rows
def Rs (H:Hp) (q:Addr) (rows:List (Int×Int)):Prop:=qeq H q rows
theorem qct {n:Nat} (h:n≤9000):n < sizeLine:=Nat.lt_of_le_of_lt h (by decide)
def Qm (ws:List (Int×Int)) (n:Int):Bool:=!(ws.filter fun w=>decide (w.1≤n) && decide (n≤w.2)).isEmpty
def Up2 (u:List (Int×Int)):Prop:=u.Pairwise fun a b=>a.1 < b.1
def SrtOk (ws:List (Int×Int)):Prop:=ws.length < 64∨∃ u v,ws=u++v∧Up2 u∧Up2 v∧u.length≤33∧v.length≤33
theorem SrtOk.le {ws:List (Int×Int)} (h:SrtOk ws):ws.length≤66:=by
 rcases h with h|⟨u,v,rfl,_,_,h1,h2⟩
 · omega
 · rw[List.length_append];omega
theorem SrtOk.filter {ws:List (Int×Int)} (h:SrtOk ws) (p:Int×Int->Bool):SrtOk (ws.filter p):=by
 rcases h with h|⟨u,v,rfl,h1,h2,h3,h4⟩
 · exact .inl (Nat.lt_of_le_of_lt (List.length_filter_le p ws) h)
 · exact .inr ⟨u.filter p,v.filter p,List.filter_append ..,List.Pairwise.sublist List.filter_sublist h1,List.Pairwise.sublist List.filter_sublist h2,Nat.le_trans (List.length_filter_le p u) h3,Nat.le_trans (List.length_filter_le p v) h4⟩
theorem JA {u:List (Int×Int)} (c:qA u):Up2 u:=c.2.imp_of_mem fun {a b} ha _ h=>by have:=c.1 a ha;omega
theorem qbr {a b:Int×Int} (h:a.1 < b.1):qK (g2 a) (g2 b)=true:=by
 show qK [a.1,a.2] [b.1,b.2]=true;unfold qK;rw[if_neg (by omega)];exact decide_eq_true h
theorem qcW {u:List (Int×Int)} (h:Up2 u):(u.map g2).Pairwise (fun a b=>qK a b=true):=List.pairwise_map.mpr (h.imp fun h=>qbr h)
inductive zP (vs:List V) (H:Hp) (Q:VK):Prop
 | mk (i:_) (h1:vs=[.int i]) (h2:Q (.bl true) H):zP vs H Q
def Qr:Sp:=fun vs H Q _=>zP vs H Q
inductive QH (vs:List V) (H:Hp) (Q:VK):Prop
 | mk (p q:Addr) (A B:List (Int×Int)) (h1:vs=[.ref p,.ref q]) (h2:Rs H p A) (h3:Rs H q B) (h4:qA A) (h5:qA B) (h6:A.length≤33) (h7:B.length≤33) (h8:∀ (d:Addr) (r:List (Int×Int)) (H':Hp),H d=none->Same H H'->Rs H' d r->qA r->r.length≤66->(∀ n,Mem r n↔Mem A n∨Mem B n)->Q (.ref d) H'):QH vs H Q
def QI:Sp:=fun vs H Q _=>QH vs H Q
inductive ZR (vs:List V) (H:Hp) (Q:VK):Prop
 | mk (p q:Addr) (A B:List (Int×Int)) (h1:vs=[.ref p,.ref q]) (h2:Rs H p A) (h3:Rs H q B) (h4:qA A) (h5:qA B) (h6:A.length≤33) (h7:B.length≤33) (h8:∀ (d:Addr) (r:List (Int×Int)) (H':Hp),H d=none->Same H H'->Rs H' d r->qA r->r.length≤67->(∀ n,Mem r n↔Mem A n∧¬ Mem B n)->Q (.ref d) H'):ZR vs H Q
def jE:Sp:=fun vs H Q _=>ZR vs H Q
inductive Zc (K:Frag) (vs:List V) (H:Hp) (Q:VK):Prop
 | mk (a:Addr) (ns:List Int) (k:Int) (h1:vs=[.ref a,.int k]) (h2:SqL K H a (ns.map V.int)) (h3:0≤k) (h4:∀ c,Q (.int c) H):Zc K vs H Q
def j8 (K:Frag):Sp:=fun vs H Q _=>Zc K vs H Q
def pur (L S A:Int):List (Key×V):=[(Sum.inr "left",.int L),(Sum.inr "seed",.int S),(Sum.inr "at",.int A)]
inductive QL (vs:List V) (H:Hp) (Q:VK):Prop
 | mk (c:Int) (h1:vs=[.int c]) (h2:∀ (p:Addr) (L S A:Int),H p=none->Q (.ref p) (upd H p (.dK (pur L S A)))):QL vs H Q
def ZW:Sp:=fun vs H Q _=>QL vs H Q
def IsP (H:Hp) (p:Addr):Prop:=∃ L S A,H p=some (.dK (pur L S A))
inductive Q9 (vs:List V) (H:Hp) (Q:VK):Prop
 | mk (p:Addr) (many:Int) (h1:vs=[.ref p,.int many]) (h2:IsP H p) (h3:0 < many) (h4:many < 340282366920938463463374607431768211456) (h5:∀ d L S A:Int,0≤d->d < many->Q (.int d) (upd H p (.dK (pur L S A)))):Q9 vs H Q
def Zu:Sp:=fun vs H Q _=>Q9 vs H Q
inductive j5 (K:Frag) (vs:List V) (H:Hp) (Q:VK):Prop
 | mk (a:Addr) (ns:List Int) (h1:vs=[.ref a]) (h2:SqL K H a (ns.map V.int)) (h3:ns.length≤63) (h4:∀ H',Q (.bl true) H'):j5 K vs H Q
def j6 (K:Frag):Sp:=fun vs H Q _=>j5 K vs H Q
inductive Qs (vs:List V) (H:Hp) (Q:VK):Prop
 | mk (q:Addr) (ws:List (Int×Int)) (n:Int) (h1:vs=[.ref q,.int n]) (h2:Rs H q ws) (h3:ws.length≤80) (h4:∀ H',Same H H'->Q (.bl (Qm ws n)) H'):Qs vs H Q
def Zb:Sp:=fun vs H Q _=>Qs vs H Q
inductive QM (vs:List V) (H:Hp) (Q:VK):Prop
 | mk (q:Addr) (ws:List (Int×Int)) (h1:vs=[.ref q]) (h2:Rs H q ws) (h3:ws.length≤300) (h4:∀ (d:Addr) (ms:List Int) (H':Hp),H d=none->Same H H'->H' d=some (.lst (ms.map V.int))->ms.length≤2+5 * ws.length->Q (.ref d) H'):QM vs H Q
def ZX:Sp:=fun vs H Q _=>QM vs H Q
inductive QJ (vs:List V) (H:Hp) (Q:VK):Prop
 | mk (q:Addr) (ws:List (Int×Int)) (h1:vs=[.ref q]) (h2:Rs H q ws) (h3:qA ws) (h4:ws.length≤80) (h5:∀ H',Same H H'->Q (.bl true) H'):QJ vs H Q
def ZU:Sp:=fun vs H Q _=>QJ vs H Q
inductive Za (vs:List V) (H:Hp) (Q:VK):Prop
 | mk (q:Addr) (ws:List (Int×Int)) (h1:vs=[.ref q]) (h2:Rs H q ws) (h3:ws.length < 64) (h4:∀ (d:Addr) (r:List (Int×Int)) (H':Hp),H d=none->Same H H'->Rs H' d r->qA r->r.length≤ws.length->Q (.ref d) H'):Za vs H Q
def j7:Sp:=fun vs H Q _=>Za vs H Q
inductive zC (vs:List V) (H:Hp) (Q:VK):Prop
 | mk (p:Addr) (h1:vs=[.ref p]) (h2:IsP H p) (h3:∀ (q:Addr) (ws:List (Int×Int)) (H':Hp),H q=none->But p H H'->IsP H' p->Rs H' q ws->ws.length≤33->Q (.ref q) H'):zC vs H Q
def z9:Sp:=fun vs H Q _=>zC vs H Q
inductive ZT (vs:List V) (H:Hp) (Q:VK):Prop
 | mk (p:Addr) (h1:vs=[.ref p]) (h2:IsP H p) (h3:∀ (t x y:Addr) (A B:List (Int×Int)) (H':Hp),But p H H'->H' t=some (.tup [.ref x,.ref y])->Rs H' x A->Rs H' y B->qA A->qA B->A.length≤33->B.length≤33->Q (.ref t) H'):ZT vs H Q
def J7:Sp:=fun vs H Q _=>ZT vs H Q
inductive QK (vs:List V) (H:Hp) (Q:VK):Prop
 | mk (p q:Addr) (A B:List (Int×Int)) (h1:vs=[.ref p,.ref q]) (h2:Rs H p A) (h3:Rs H q B) (h4:qA A) (h5:qA B) (h6:A.length≤33) (h7:B.length≤33) (h8:∀ H',Same H H'->Q (.bl true) H'):QK vs H Q
def ZV:Sp:=fun vs H Q _=>QK vs H Q
section
variable {P:Program}{w:World}{K:Frag}{mg:Str->Option Value}{base:Heap}
theorem jc {a:Ad} (T:Txt K mg a):qV P w K mg base CX0 1 a.f_i a.fd_i ["thing"] Qr:=by
 refine T.d_i.F.ok Z0 (fun vs H Q E h=>?_) (fun cdv A outer s H vs Q E hr h=>?_)
 · obtain⟨i,rfl,kk⟩:=h;rfl
 · obtain⟨i,rfl,kk⟩:=h;refine⟨_,(qg (qy (Zi (qp zd (by rfl) T.n_isinstance qr (qa (pv 0) (qa (zF (v:=.ty "int") rfl T.n_int jo rfl) qc))) (ja (qb1 (qp zd (by rfl) T.n_isinstance qr (qa (pv 0) (qa (zF (v:=.ty "bool") rfl T.n_bool Zo rfl) qc)))))))),?_⟩;(try dsimp only [Qx,Cx.nox]);refine⟨_,rfl,_,_,_,rfl,(by decide),rfl,true,rfl,qbu ?_⟩;exact⟨_,rfl,_,_,_,rfl,(by decide),rfl,false,rfl,kk⟩
end
theorem Qi {α:Type}{xs:List α}{x:α} (h:xs.getLast?=some x):atI xs (-1)=some x:=by
 have hne:0 < xs.length:=List.length_pos_iff.mpr (fun z=>by rw[z]at h;cases h);unfold atI ixN;rw[if_neg (by decide),if_pos (by omega)];show xs[((-1:Int)+(xs.length:Int)).toNat]?=_;rw[tn_ xs.length,← List.getLast?_eq_getElem?];exact h
theorem qbt {n:Nat} (h:0 < n):ixN n (-1)=some (n - 1):=by
 unfold ixN;rw[if_neg (by decide),if_pos (by omega)];rw[tn_ n]
theorem TupL.last {H:Hp}{zs:List V}{ps:List (Int×Int)}{p:Int×Int} (h:TupL pr H zs ps) (e:ps.getLast?=some p):∃ t,zs.getLast?=some (.ref t)∧H t=some (.tup (pr p)):=by
 rw[List.getLast?_eq_getElem?]at e;obtain⟨t,h1,h2⟩:=h.at_ e;exact⟨t,by rw[List.getLast?_eq_getElem?,h.1];exact h1,h2⟩
theorem TupL.set {H:Hp}{zs:List V}{ps:List (Int×Int)}{i:Nat}{t:Addr}{p:Int×Int} (h:TupL pr H zs ps) (e:H t=some (.tup (pr p))):TupL pr H (zs.set i (.ref t)) (ps.set i p):=⟨by rw[List.length_set,List.length_set,h.1],fun j z y e1 e2=>by
 rw[List.getElem?_set]at e1 e2;by_cases hj:i=j
 · rw[if_pos hj]at e1 e2;split at e1
   · split at e2
     · cases e1;cases e2;exact⟨t,rfl,e⟩
     · cases e2
   · cases e1
 · rw[if_neg hj]at e1 e2
   exact h.2 j z y e1 e2⟩
theorem Qy:bootBuiltins "sorted"=some (.builtin "sorted"):=by decide +kernel
theorem Rs.same {H H':Hp}{q:Addr}{rows:List (Int×Int)} (h:Rs H q rows) (s:Same H H'):Rs H' q rows:=by
 obtain⟨zs,h1,h2⟩:=h;exact⟨zs,s _ _ h1,h2.same s⟩
abbrev okw (w:Int×Int):Bool:=decide (w.1≤w.2)
theorem QG {H:Hp}{zs:List V}{ws:List (Int×Int)} (h:TupL pr H zs ws):TupI H zs (ws.map g2):=by
 refine⟨by rw[List.length_map];exact h.1,fun i z r e1 e2=>?_⟩;obtain⟨p,hp,rfl⟩:=jL e2;exact h.2 i z p e1 hp
theorem qau {H:Hp}{zs:List V}{ws:List (Int×Int)} (h:TupI H zs (ws.map g2)):TupL pr H zs ws :=
 ⟨by have:=h.len;rwa [List.length_map]at this,fun i z p e1 e2=>h.at_ i z (g2 p) e1 (by rw[List.getElem?_map,e2];rfl)⟩
theorem Jn {rs:List (List Int)}{fs:List (Int×Int)} (h:rs.Perm (fs.map g2)):∃ ss:List (Int×Int),rs=ss.map g2∧ss.Perm fs:=by
 refine⟨rs.map fun r=>(r.getD 0 0,r.getD 1 0),?_,?_⟩
 · rw[List.map_map];refine(List.map_id rs).symm.trans (List.map_congr_left fun r hr=>?_);obtain⟨p,_,rfl⟩:=List.mem_map.mp (h.mem_iff.mp hr);rfl
 · have:=h.map fun r=>(r.getD 0 0,r.getD 1 0)
   rw[List.map_map]at this
   rwa [show (fs.map ((fun r:List Int=>(r.getD 0 0,r.getD 1 0)) ∘ g2))=fs from (List.map_congr_left fun p _=>rfl).trans (List.map_id fs)]at this
theorem qb3 {ss:List (Int×Int)} (h:(ss.map g2).Pairwise fun a b=>qK b a=false):ss.Pairwise fun a b=>a.1≤b.1:=by
 refine(List.pairwise_map.mp h).imp fun {a b} g=>?_;have g':qK [b.1,b.2] [a.1,a.2]=false:=g;unfold qK at g';by_cases e:b.1=a.1
 · omega
 · rw[if_neg e]at g'
   have:=of_decide_eq_false g'
   omega
theorem qdn (ws:List (Int×Int)) (n:Int):Mem (ws.filter okw) n↔Mem ws n:=by
 constructor
 · rintro⟨w,hw,h⟩;exact⟨w,(List.mem_filter.mp hw).1,h⟩
 · rintro⟨w,hw,h⟩;exact⟨w,List.mem_filter.mpr ⟨hw,decide_eq_true (by omega)⟩,h⟩
theorem qbp {ss fs:List (Int×Int)} (h:ss.Perm fs) (n:Int):Mem ss n↔Mem fs n :=
 ⟨fun⟨w,hw,k⟩=>⟨w,h.mem_iff.mp hw,k⟩,fun⟨w,hw,k⟩=>⟨w,h.mem_iff.mpr hw,k⟩⟩
theorem jj {acc:List (Int×Int)}{l w:Int×Int} (h:acc.getLast?=some l) (e:w.1≤l.2+1):QB acc w=acc.set (acc.length - 1) (l.1,if w.2 > l.2 then w.2 else l.2):=by
 unfold QB;rw[h];exact if_pos e
theorem Ju {acc:List (Int×Int)}{l w:Int×Int} (h:acc.getLast?=some l) (e:¬ w.1≤l.2+1):QB acc w=acc++[w]:=by
 unfold QB;rw[h];exact if_neg e
theorem qby (acc:List (Int×Int)) (w:Int×Int):(QB acc w).length≤acc.length+1:=by
 unfold QB;split
 · split
   · rw[List.length_set];omega
   · rw[List.length_append];exact Nat.le_refl _
 · simp
theorem ZI {ws:List (Int×Int)}{i:Nat}{w:Int×Int} (h:ws[i]?=some w):(ws.take (i+1)).foldl QB []=QB ((ws.take i).foldl QB []) w:=by
 rw[List.take_add_one,h,List.foldl_append];rfl
theorem zj (ws:List (Int×Int)):∀ i,((ws.take i).foldl QB []).length≤i
 | 0=>by simp
 | i+1=>by
   cases h:ws[i]? with
   | none =>
     have:=zj ws i
     rw[List.take_add_one,h];simp only[Option.toList,List.append_nil];omega
   | some w =>
     have:=zj ws i
     have:=qby ((ws.take i).foldl QB []) w
     rw[ZI h];omega
theorem qdP {K:Frag}{H:Hp}{q:Addr}{zs:List V}{ws:List (Int×Int)}{Q:VK} (hq:SqL K H q zs) (tp:TupL pr H zs ws) (so:SrtOk ws)
   (k:∀ (p:Addr) (zs':List V) (rs':List (List Int)),H p=none->rs'.Perm (ws.map g2)->TupI H zs' rs'->rs'.Pairwise (fun a b=>qK b a=false)->Q (.ref p) (upd H p (.lst zs'))):qbS K [.ref q] H Q∨qbR K [.ref q] H Q∨qbQ K [.ref q] H Q:=by
 have h2:∀ (l:List (Int×Int)),∀ r∈l.map g2,r.length=2:=fun l r hr=>by obtain⟨w,_,rfl⟩:=List.mem_map.mp hr;rfl
 by_cases sm:ws.length < 64
 · exact .inl ⟨q,zs,ws.map g2,2,rfl,hq,QG tp,h2 ws,(by decide),by rw[tp.1];exact sm,k⟩
 obtain⟨u,v,rfl,hu,hv,lu,lv⟩:=so.resolve_left sm;rw[List.length_append]at sm;obtain⟨x,ex⟩:∃ x,u[u.length - 1]?=some x:=⟨_,List.getElem?_eq_getElem (by omega)⟩
 obtain⟨y,ey⟩:∃ y,v[0]?=some y:=⟨_,List.getElem?_eq_getElem (by omega)⟩
 cases c:qK (g2 y) (g2 x) with
 | true =>
   have tq:=QG tp;rw[List.map_append]at tq k;refine .inr (.inr ⟨q,zs,u.map g2,v.map g2,2,rfl,hq,tq,?_,(by decide),qcW hu,qcW hv,?_,?_,?_,?_,k⟩)
   · rw[← List.map_append];exact h2 _
   · rw[List.length_map];exact lu
   · rw[List.length_map];exact lv
   · rw[List.length_map,List.length_map];omega
   · intro x' y' e1 e2;rw[List.length_map,List.getElem?_map,ex]at e1;rw[List.getElem?_map,ey]at e2;cases e1;cases e2;exact c
 | false =>
   have le:∀ {l:List (Int×Int)}{i j:Nat}{a b:Int×Int},Up2 l->i≤j->l[i]?=some a->l[j]?=some b->qK (g2 b) (g2 a)=false:=fun {l i j a b} h hij e1 e2=>by
     obtain⟨h1,rfl⟩:=List.getElem?_eq_some_iff.mp e1;obtain⟨h2,rfl⟩:=List.getElem?_eq_some_iff.mp e2;rcases Nat.lt_or_ge i j with z|z
     · exact qY _ _ (qbr (List.pairwise_iff_getElem.mp h i j h1 h2 z))
     · have:i=j:=by omega
       subst this
       cases q:qK (g2 l[i]) (g2 l[i]) with
       | false=>rfl
       | true=>rw[← q];exact qY _ _ q
   have up:((u++v).map g2).Pairwise (fun a b=>qK b a=false):=by
     refine List.pairwise_map.mpr (List.pairwise_append.mpr ⟨hu.imp fun h=>qY _ _ (qbr h),hv.imp fun h=>qY _ _ (qbr h),fun a ha b hb=>?_⟩);obtain⟨i,ei⟩:=List.getElem?_of_mem ha;obtain⟨j,ej⟩:=List.getElem?_of_mem hb;have li:=(List.getElem?_eq_some_iff.mp ei).1;exact Qe (bs:=g2 y) rfl rfl (le hv (Nat.zero_le _) ey ej) (Qe (bs:=g2 x) rfl rfl c (le hu (by omega) ei ex))
   exact .inr (.inl ⟨q,zs,(u++v).map g2,2,rfl,hq,QG tp,h2 _,(by decide),up,fun p fp=>k p zs _ fp (.refl _) (QG tp) up⟩)
inductive zw (vs:List V) (H:Hp) (Q:VK):Prop
 | mk (t:Addr) (r:Int×Int) (h1:vs=[.ref t]) (h2:H t=some (.tup (pr r))) (h3:Q (.bl true) H):zw vs H Q
def zZ:Sp:=fun vs H Q _=>zw vs H Q
inductive qR (vs:List V) (H:Hp) (Q:VK):Prop
 | mk (q:Addr) (ws:List (Int×Int)) (h1:vs=[.ref q]) (h2:Rs H q ws) (h3:∀ H',Same H H'->Q .non H'):qR vs H Q
def zb:Sp:=fun vs H Q _=>qR vs H Q
inductive zY (vs:List V) (H:Hp) (Q:VK):Prop
 | mk (q:Addr) (ws:List (Int×Int)) (h1:vs=[.ref q]) (h2:Rs H q ws) (h3:SrtOk ws) (h4:∀ (d:Addr) (r:List (Int×Int)) (H':Hp),H d=none->Same H H'->Rs H' d r->qA r->r.length≤ws.length->(∀ n,Mem r n↔Mem ws n)->Q (.ref d) H'):zY vs H Q
def zU:Sp:=fun vs H Q _=>zY vs H Q
section
variable {P:Program}{w:World}{K:Frag}{mg:Str->Option Value}{base:Heap}
theorem ZD {a:Ad} (T:Txt K mg a):qV P w K mg base CX0 2 a.f_n a.fd_n ["thing"] zZ:=by
 have G_i:=jc (P:=P) (w:=w) (base:=base) T;refine T.d_n.F.ok Zx (fun vs H Q E h=>?_) (fun cdv A outer s H vs Q E hr h=>?_)
 · obtain⟨t,r,rfl,ht,kk⟩:=h;rfl
 · obtain⟨t,r,rfl,ht,kk⟩:=h;have hU:=hr.units;have h_i:Room (1) _:=hr.mono (by decide);refine⟨_,(qg (qy (Zi (qp zd (by rfl) T.n_isinstance qr (qa (pv 0) (qa (zF (v:=.ty "tuple") rfl T.n_tuple Q4 rfl) qc))) (Zi (jG (uEq hU) (qp zk (by rfl) T.n_len q9 (qa (pv 0) qc)) qd (qD _)) (Zi (qh G_i h_i rfl T.d_i.m T.d_i.k T.d_i.b .nil qB (qa (qw (r:=rIx K) qk (pv 0) qd (fun _ _=>rfl)) qc)) (ja (qh G_i h_i rfl T.d_i.m T.d_i.k T.d_i.b .nil qB (qa (qw (r:=rIx K) qk (pv 0) qd (fun _ _=>rfl)) qc)))))))),?_⟩;(try dsimp only [Qx,Cx.nox]);have ty:tyN H (.ref t)=some "tuple":=by simp only[tyN];rw[ht]
   refine⟨_,rfl,_,_,_,rfl,(by decide),ty,_,rfl,qaF rfl ?_⟩;refine⟨_,rfl,_,_,rfl,.inr ⟨_,SqT.of ht,rfl⟩,.inl ⟨rfl,_,rfl,qaF (decide_eq_true rfl) ?_⟩⟩;refine⟨_,rfl,.inr (.inl ⟨t,_,_,_,rfl,rfl,SqT.of ht,rfl,_,rfl,true,rfl,qbu ?_⟩)⟩;exact⟨_,rfl,.inr (.inl ⟨t,_,_,_,rfl,rfl,SqT.of ht,rfl,_,rfl,kk⟩)⟩
theorem Qd {a:Ad} (T:Txt K mg a):qV P w K mg base CX0 3 a.f_p a.fd_p ["stretches"] zb:=by
 have G_n:=ZD (P:=P) (w:=w) (base:=base) T;refine T.d_p.F.ok sc_check_stretches (fun vs H Q E h=>?_) (fun cdv A outer s H vs Q E hr h=>?_)
 · obtain⟨q,ws,rfl,hrs,kk⟩:=h;rfl
 · obtain⟨q,ws,rfl,hrs,kk⟩:=h;have h_n:Room (2) _:=hr.mono (by decide)
   refine⟨_,(qe (zi (zR (zQ (qp zd (by rfl) T.n_isinstance qr (qa (pv 0) (qa (zF (v:=.ty "list") rfl T.n_list qP rfl) qc)))))
       (qg Jm)
       qI)
     (qg (Qa PassesOwn.never rfl (qcz rfl T.n_enumerate (qa (pv 0) qc)) (Qv rfl (qE (qt (i:=1) (sc_check_stretches.nd) rfl (Or.inl rfl)) (qE (qt (i:=2) (sc_check_stretches.nd) rfl (Or.inl rfl)) zD)))
       (qg (zi (zR (zQ (qh G_n h_n rfl T.d_n.m T.d_n.k T.d_n.b .nil qB (qa (pv 2) qc))))
         (qg Jm)
         qI))))),?_⟩
   try dsimp only [Qx,Cx.nox]
   obtain⟨zs,hq,tp⟩:=id hrs;have ty:tyN H (.ref q)=some "list":=by simp only[tyN];rw[hq]
   refine⟨_,rfl,_,_,_,rfl,(by decide),ty,true,rfl,Qn rfl ?_⟩;refine⟨_,rfl,q,rfl,⟨zs,SqL.of hq⟩,qbB (K:=K) (a:=q) (xs:=zs) (fun i σ H2=>∃ s1 s2:Option V,σ=[some (.ref q),s1,s2]∧Same H H2) ⟨none,none,rfl,Same.refl H⟩ (fun i σ H2 _ ⟨_,_,_,S⟩=>SqL.of (S _ _ hq)) ?_ ?_⟩
   · rintro i x σ H2 p hx ⟨s1,s2,rfl,S⟩ hn;have S2:Same H (upd H2 p (.tup [.int i,x])):=S.then _ hn
     obtain⟨r,t,hr',rfl,ht⟩:=tp.of hx;refine⟨p,_,rfl,SqT.of qb,rfl,_,_,rfl,_,_,rfl,rfl,?_⟩;exact⟨_,rfl,t,r,rfl,S2 _ _ ht,_,rfl,Qn rfl ⟨_,_,rfl,S2⟩⟩
   · rintro σ H2 ⟨s1,s2,rfl,S⟩;exact kk H2 S
theorem QT {a:Ad} (T:Txt K mg a):qV P w K mg base CX0 4 a.f_h a.fd_h ["stretches"] zU:=by
 have G_p:=Qd (P:=P) (w:=w) (base:=base) T;refine T.d_h.F.ok sc_spans_of (fun vs H Q E h=>?_) (fun cdv A outer s H vs Q E hr h=>?_)
 · obtain⟨q,ws,rfl,hrs,few,kk⟩:=h;rfl
 · obtain⟨q,ws,rfl,hrs,few,kk⟩:=h;have few1:=few.le;have h_p:Room (3) _:=hr.mono (by decide)
   refine⟨_,(qe (Qk (qh G_p h_p rfl T.d_p.m T.d_p.k T.d_p.b .nil qB (qa (pv 0) qc)))
     (qe (qx (i:=1) sc_spans_of.nd rfl (Or.inl rfl) (qH qc))
     (qe (Qa PassesOwn.never rfl (qM (qp (call_sortT.or (call_sortU.or JU)) (by rfl) T.n_sorted Qy (qa (zE rfl (CompOk.def ["stretch"] [none]) (qM (pv 0)) (fun _ _ _ _ _=>(qt (i:=0) (show List.Nodup (["stretch"]:List Str) by decide +kernel) rfl (Or.inl rfl))) (fun _ _ _ _ _=>(QQ (qv JL (qw (r:=rIx K) qk (pv 0) qd (fun _ _=>rfl)) (qw (r:=rIx K) qk (pv 0) qd (fun _ _=>rfl)) (qD _)))) (fun _ _ _ _ _=>(pv 0))) qc))) (Qv rfl (qE (qt (i:=2) (sc_spans_of.nd) rfl (Or.inl rfl)) (qE (qt (i:=3) (sc_spans_of.nd) rfl (Or.inl rfl)) zD)))
       (qg (zi (PW.pt (Jk (Jl (pv 1) (fun _=>rfl)) (Zy (qv JL (pv 2) (qu Qz (qw (r:=rIx K) qk (qw (r:=rIx K) qk (pv 1) (JI Q8 qd) (fun _ _=>rfl)) qd (fun _ _=>rfl)) qd) (qD _)))))
         (qg (qak (Qb (qa (qw (r:=rIx K) qk (qw (r:=rIx K) qk (pv 1) (JI Q8 qd) (fun _ _=>rfl)) qd (fun _ _=>rfl)) (qa (qp (zH rfl) (by rfl) T.n_max zI (qa (qw (r:=rIx K) qk (qw (r:=rIx K) qk (pv 1) (JI Q8 qd) (fun _ _=>rfl)) qd (fun _ _=>rfl)) (qa (pv 3) qc))) qc))) (qdd (pv 1) (JI Q8 qd) qbb)))
         (qg (Qk (qao PySem.F.plainAttrs_list PySem.F.slot_list_append PySem.F.type_list_append qX (pv 1) (qa (Qb (qa (pv 2) (qa (pv 3) qc))) qc)))))))
     (qg (qy (pv 1)))))),?_⟩
   try dsimp only [Qx,Cx.nox]
   refine⟨_,rfl,q,ws,rfl,hrs,fun G0 S0=>?_⟩;refine⟨qm (Nat.le_of_ble_eq_true rfl),fun D fD=>?_⟩;have SD:=Same.new (.lst []) fD;have hD0:(upd G0 D (.lst [])) D=some (.lst []):=qb;obtain⟨zs,hq,tp⟩:=(hrs.same S0).same SD;(try unfold qJ);(try dsimp only);generalize upd G0 D (.lst [])=G at SD hD0 hq tp ⊢;have hl:zs.length=ws.length:=tp.1;refine⟨_,rfl,q,rfl,⟨_,SqL.of hq⟩,fun C fC=>?_⟩;refine qQ (K:=K) (a:=q) (xs:=zs) (D:=C) (fun i σ H2=>∃ (c0:Option V) (cs:List V),σ=[c0]∧Same G H2∧H2 C=some (.lst cs)∧TupL pr H2 cs ((ws.take i).filter okw)) ⟨none,[],rfl,Same.new _ fC,qb,.nil⟩ (fun i σ H2 _ ⟨_,_,_,S,_⟩=>SqL.of (S _ _ hq)) ?_ ?_
   · rintro i z σ H2 hz ⟨c0,cs,rfl,S,hC,tc⟩;obtain⟨r,t,hr',rfl,ht⟩:=tp.of hz;have ht2:=S _ _ ht;have et:ws.take (i+1)=ws.take i++[r]:=by rw[List.take_add_one,hr'];rfl
     have lc:cs.length≤80:=by
       rw[tc.1];refine Nat.le_trans (List.length_filter_le _ _) ?_;rw[List.length_take];omega
     refine⟨_,rfl,.inr (.inl ⟨t,_,_,_,rfl,rfl,SqT.of ht2,rfl,_,rfl,.inr (.inl ⟨t,_,_,_,rfl,rfl,SqT.of ht2,rfl,_,_,rfl,rfl,_,rfl,jw (fun g=>?_) (fun g=>?_)⟩)⟩)⟩
     · refine⟨_,rfl,_,hC,qj (by omega),_,cs++[.ref t],rfl,S.put fC _,qb,?_⟩;rw[et,List.filter_append,show List.filter okw [r]=[r] by simp[okw,g]];exact(tc.snoc (p:=r) ht2).put hC
     · refine⟨_,cs,rfl,S,hC,?_⟩;rw[et,List.filter_append,show List.filter okw [r]=[] by simp[okw,g],List.append_nil];exact tc
   rintro σ H2 ⟨c0,cs,rfl,S,hC,tc⟩;rw[hl,List.take_length]at tc;have okf:∀ w∈ws.filter okw,w.1≤w.2:=fun w hw=>of_decide_eq_true (List.mem_filter.mp hw).2;have lf:(ws.filter okw).length≤ws.length:=List.length_filter_le _ _;have mok:=qdn ws;have sof:=few.filter okw;generalize ws.filter okw=fs at tc okf lf mok sof;refine qdP (SqL.of hC) tc sof fun p zs' rs' fp hp tI ho=>?_;obtain⟨ss,rfl,hss⟩:=Jn hp;have ord:=qb3 ho;have oks:∀ w∈ss,w.1≤w.2:=fun w m=>okf w (hss.mem_iff.mp m);have lss:ss.length≤ws.length:=by rw[hss.length_eq];exact lf
   have tz0:TupL pr H2 zs' ss:=qau tI;have Sp:=Same.new (.lst zs') fp;have tz:=tz0.same Sp;have hp1:(upd H2 p (.lst zs')) p=some (.lst zs'):=qb;have hD1:=Sp _ _ (S _ _ hD0);have npD:p≠D:=fun e=>by rw[e,S _ _ hD0]at fp;cases fp
   have SG:=SD.trans (S.trans Sp);(try dsimp only);generalize upd H2 p (.lst zs')=G1 at tz hp1 hD1 SG ⊢;refine⟨p,rfl,⟨_,SqL.of hp1⟩,zO (D:={ nx:=qcT (qcS 1) { nx:=fun _ H'=>Q .non H',rt:=Q },rt:=Q }) (K:=K) (a:=p) (xs:=zs') (fun i σ H3=>∃ (s2 s3:Option V) (ys:List V),σ=[some (.ref q),some (.ref D),s2,s3]∧But D G1 H3∧H3 D=some (.lst ys)∧TupL pr H3 ys ((ss.take i).foldl QB [])) ⟨none,none,[],rfl,(fun c o e _=>e),hD1,.nil⟩ (fun i σ H3 _ ⟨_,_,_,_,B,_⟩=>SqL.of (B _ _ hp1 npD)) ?_ ?_⟩
   · rintro i z σ H3 hz ⟨s2,s3,ys,rfl,B,hD,ty⟩;obtain⟨wv,t,hw,rfl,ht⟩:=tz.of hz;have ntD:t≠D:=je ht hD1 (by intro z;cases z);have ht3:=B _ _ ht ntD;have okv:=oks wv (List.mem_of_getElem? hw)
     have ly:ys.length≤80:=by
       have:=zj ss i
       have lti:i < ss.length:=(List.getElem?_eq_some_iff.mp hw).1;rw[ty.1];omega
     refine⟨t,_,rfl,SqT.of ht3,rfl,_,_,rfl,_,_,rfl,rfl,?_⟩;rw[ZI hw];generalize (ss.take i).foldl QB []=acc at ty ⊢
     cases ea:acc.getLast? with
     | none =>
       have e0:acc=[]:=List.getLast?_eq_none_iff.mp ea;subst e0;have ey:ys=[]:=List.eq_nil_of_length_eq_zero ty.1;subst ey;refine⟨_,rfl,false,.inl ⟨_,SqL.of hD,rfl⟩,ZG (ZG ?_)⟩;refine⟨_,rfl,.inl ⟨rfl,_,SqL.of hD⟩,_,rfl,_,rfl,qm (Nat.le_of_ble_eq_true rfl),fun tt ft=>?_⟩;have St:=Same.new (.tup [.int wv.1,.int wv.2]) ft;refine⟨D,_,_,rfl,rfl,St _ _ hD,qj (by omega),?_⟩;refine⟨_,_,[]++[.ref tt],rfl,(fun c o e n=>?_),qb,?_⟩
       · rw[qi n];exact St _ _ (B c o e n)
       · exact((TupL.nil (f:=pr)).snoc (p:=wv) qb).put (St _ _ hD)
     | some l =>
       obtain⟨tl,hzl,htl⟩:=TupL.last ty ea
       have ey:true=!ys.isEmpty:=by
         cases ys with
         | nil=>cases hzl
         | cons y ys=>rfl
       refine⟨_,rfl,true,.inl ⟨_,SqL.of hD,ey⟩,qbu ?_⟩;refine⟨_,rfl,_,rfl,_,rfl,.inl ⟨D,_,_,_,rfl,rfl,SqL.of hD,Qi hzl,.inr (.inl ⟨tl,_,_,_,rfl,rfl,SqT.of htl,rfl,.inl ⟨_,_,rfl,rfl,_,_,rfl,rfl,_,rfl,jw (fun g=>?_) (fun g=>?_)⟩⟩)⟩⟩
       · have g':wv.1≤l.2+1:=g;refine⟨_,rfl,_,rfl,.inl ⟨D,_,_,_,rfl,rfl,SqL.of hD,Qi hzl,.inr (.inl ⟨tl,_,_,_,rfl,rfl,SqT.of htl,rfl,_,rfl,_,rfl,.inl ⟨D,_,_,_,rfl,rfl,SqL.of hD,Qi hzl,.inr (.inl ⟨tl,_,_,_,rfl,rfl,SqT.of htl,rfl,_,rfl,_,_,rfl,qm (Nat.le_of_ble_eq_true rfl),fun tt ft=>?_⟩)⟩⟩)⟩⟩;have St:=Same.new (.tup [.int l.1,.int (if wv.2 > l.2 then wv.2 else l.2)]) ft;refine⟨_,rfl,_,rfl,D,_,_,ys.length - 1,rfl,rfl,St _ _ hD,qbt (by cases ys with|nil=>cases hzl|cons y ys=>simp),?_⟩;refine⟨_,_,ys.set (ys.length - 1) (.ref tt),rfl,(fun c o e n=>?_),qb,?_⟩
         · rw[qi n];exact St _ _ (B c o e n)
         · rw[jj ea g',← ty.1];exact(TupL.set (ty.same St) (i:=ys.length - 1) (p:=(l.1,if wv.2 > l.2 then wv.2 else l.2)) qb).put (St _ _ hD)
       · have g':¬ wv.1≤l.2+1:=g;refine⟨_,rfl,.inl ⟨rfl,_,SqL.of hD⟩,_,rfl,_,rfl,qm (Nat.le_of_ble_eq_true rfl),fun tt ft=>?_⟩;have St:=Same.new (.tup [.int wv.1,.int wv.2]) ft;refine⟨D,_,_,rfl,rfl,St _ _ hD,qj (by omega),?_⟩;refine⟨_,_,ys++[.ref tt],rfl,(fun c o e n=>?_),qb,?_⟩
         · rw[qi n];exact St _ _ (B c o e n)
         · rw[Ju ea g'];exact((ty.same St).snoc (p:=wv) qb).put (St _ _ hD)
   · rintro σ H3 ⟨s2,s3,ys,rfl,B,hD,ty⟩;have glen:=zj ss ss.length;rw[tz.1]at ty;rw[List.take_length]at ty glen;obtain⟨f1,f2⟩:=jN ss [] ⟨fun _ z=>(nomatch z),List.Pairwise.nil⟩ oks ord fun _ z=>nomatch z;refine⟨_,rfl,kk D _ H3 (S0.none fD) (fun c o e=>?_) ⟨ys,hD,ty⟩ f1 (by omega) fun n=>?_⟩
     · have n:c≠D:=qf (S0 _ _ e) fD;exact B _ _ (SG _ _ (S0 _ _ e)) n
     · rw[f2,qbp hss,mok];exact⟨fun h=>h.elim (fun⟨_,z,_⟩=>nomatch z) id,.inr⟩
end
theorem qad {H G:Hp}{l:Addr}{o:HO} (h:upd H l o=G) (f:H l=none):Same H G∧G l=some o:=by
 subst h;exact⟨Same.new o f,qb⟩
theorem J9 {i:Nat}{v:V}{u:TS}{D:qa3}{σ:L2.St}{H:Hp} (h:u D (σ.set i (some v)) H):qdD (qc2 (tC v) (qbz i)) u D σ H:=h
theorem drop_at {A:List (Int×Int)}{i:Nat}{x:Int×Int} (h:A[i]?=some x):A.drop i=x::A.drop (i+1):=by
 obtain⟨hi,e⟩:=List.getElem?_eq_some_iff.mp h;rw[← e];exact List.drop_eq_getElem_cons hi
theorem Qh {A:List (Int×Int)} (c:qA A) {i:Nat}{x:Int×Int} (h:A[i]?=some x):∀ u∈A.drop (i+1),x.2+1 < u.1:=fun u m=>by
 obtain⟨k,hk,e⟩:=List.mem_iff_getElem.mp m;rw[List.getElem_drop]at e;obtain⟨hi,ex⟩:=List.getElem?_eq_some_iff.mp h;have hk':i+1+k < A.length:=by rw[List.length_drop]at hk;omega
 have:=List.pairwise_iff_getElem.mp c.2 i (i+1+k) hi hk' (by omega)
 rw[ex,e]at this;exact this
theorem mem_cons2 {x:Int×Int}{A:List (Int×Int)}{n:Int}:Mem (x::A) n↔(x.1≤n∧n≤x.2)∨Mem A n:=by
 constructor
 · rintro⟨w,m,h⟩;rcases List.mem_cons.mp m with e|m
   · exact .inl (e▸h)
   · exact .inr ⟨w,m,h⟩
 · rintro (h|⟨w,m,h⟩)
   · exact⟨x,List.mem_cons_self,h⟩
   · exact⟨w,List.mem_cons_of_mem _ m,h⟩
theorem mem_snoc2 {x:Int×Int}{A:List (Int×Int)}{n:Int}:Mem (A++[x]) n↔Mem A n∨(x.1≤n∧n≤x.2):=by
 constructor
 · rintro⟨w,m,h⟩;rcases List.mem_append.mp m with m|m
   · exact .inl ⟨w,m,h⟩
   · exact .inr (List.mem_singleton.mp m▸h)
 · rintro (⟨w,m,h⟩|h)
   · exact⟨w,List.mem_append_left _ m,h⟩
   · exact⟨x,List.mem_append_right _ (List.mem_singleton.mpr rfl),h⟩
structure BI (A B:List (Int×Int)) (i j:Nat) (t:List (Int×Int)):Prop where
 can:qA t
 sub:∀ n,Mem t n->Mem A n∧Mem B n
 cov:∀ n,Mem A n->Mem B n->Mem t n∨(Mem (A.drop i) n∧Mem (B.drop j) n)
 sep:∀ w∈t,∀ x y,A[i]?=some x->B[j]?=some y->w.2+1 < x.1∨w.2+1 < y.1
 len:t.length≤i+j
abbrev mx2 (x y:Int):Int:=if y > x then y else x
abbrev mn2 (x y:Int):Int:=if y < x then y else x
abbrev bt (x y:Int×Int) (t:List (Int×Int)):List (Int×Int):=if mx2 x.1 y.1≤mn2 x.2 y.2 then t++[(mx2 x.1 y.1,mn2 x.2 y.2)] else t
theorem BI.mid {A B:List (Int×Int)}{i j:Nat}{t:List (Int×Int)}{x y:Int×Int} (b:BI A B i j t) (hx:A[i]?=some x) (hy:B[j]?=some y):qA (bt x y t)∧(∀ n,Mem (bt x y t) n->Mem A n∧Mem B n)∧(∀ n,Mem t n∨((x.1≤n∧n≤x.2)∧(y.1≤n∧n≤y.2))->Mem (bt x y t) n)∧(bt x y t).length≤i+j+1:=by
 have h1:x.1≤mx2 x.1 y.1∧y.1≤mx2 x.1 y.1∧(mx2 x.1 y.1=x.1∨mx2 x.1 y.1=y.1):=by unfold mx2;split<;>omega
 have h2:mn2 x.2 y.2≤x.2∧mn2 x.2 y.2≤y.2∧(mn2 x.2 y.2=x.2∨mn2 x.2 y.2=y.2):=by unfold mn2;split<;>omega
 have mx:=List.mem_of_getElem? hx;have my:=List.mem_of_getElem? hy;unfold bt;generalize mx2 x.1 y.1=lo at *;generalize mn2 x.2 y.2=hi at *;split
 · rename_i le
   refine⟨⟨fun w m=>?_,List.pairwise_append.mpr ⟨b.can.2,List.pairwise_singleton _ _,fun u mu v mv=>?_⟩⟩,fun n h=>?_,fun n h=>mem_snoc2.mpr ?_,?_⟩
   · rcases List.mem_append.mp m with m|m
     · exact b.can.1 w m
     · rw[List.mem_singleton.mp m];exact le
   · rw[List.mem_singleton.mp mv];show u.2+1 < lo;rcases b.sep u mu x y hx hy with z|z<;>omega
   · rcases mem_snoc2.mp h with h|h
     · exact b.sub n h
     · have h3:lo≤n:=h.1;have h4:n≤hi:=h.2;exact⟨⟨x,mx,by omega,by omega⟩,⟨y,my,by omega,by omega⟩⟩
   · rcases h with h|h
     · exact .inl h
     · refine .inr ⟨?_,?_⟩
       · show lo≤n;omega
       · show n≤hi;omega
   · rw[List.length_append];have:=b.len;show t.length+1≤_;omega
 · rename_i le
   refine⟨b.can,b.sub,fun n h=>?_,by have:=b.len;omega⟩;rcases h with h|h
   · exact h
   · omega
theorem BI.stepA {A B:List (Int×Int)} (cA:qA A) (cB:qA B) {i j:Nat}{t:List (Int×Int)}{x y:Int×Int} (b:BI A B i j t) (hx:A[i]?=some x) (hy:B[j]?=some y) (lt:x.2 < y.2):BI A B (i+1) j (bt x y t):=by
 obtain⟨m1,m2,m3,m4⟩:=b.mid hx hy;have gA:=Qh cA hx;have gB:=Qh cB hy;refine⟨m1,m2,fun n a1 a2=>?_,fun w mw x' y' hx' hy'=>?_,by omega⟩
 · rcases b.cov n a1 a2 with h|⟨h,h'⟩
   · exact .inl (m3 n (.inl h))
   · rw[drop_at hx]at h;rcases mem_cons2.mp h with h|h
     · have h'':=h';rw[drop_at hy]at h'';rcases mem_cons2.mp h'' with k|⟨u,mu,k1,k2⟩
       · exact .inl (m3 n (.inr ⟨h,k⟩))
       · have:=gB u mu
         omega
     · exact .inr ⟨h,h'⟩
 · have gx:=gA x' (by rw[drop_at hx'];exact List.mem_cons_self);have x0:=cA.1 x (List.mem_of_getElem? hx);rw[hy]at hy';cases hy';unfold bt at mw;split at mw
   · rcases List.mem_append.mp mw with mw|mw
     · rcases b.sep w mw x y hx hy with z|z
       · exact .inl (by omega)
       · exact .inr z
     · rw[List.mem_singleton.mp mw];refine .inl ?_;show mn2 x.2 y.2+1 < x'.1;unfold mn2;split<;>omega
   · rcases b.sep w mw x y hx hy with z|z
     · exact .inl (by omega)
     · exact .inr z
theorem BI.stepB {A B:List (Int×Int)} (cA:qA A) (cB:qA B) {i j:Nat}{t:List (Int×Int)}{x y:Int×Int} (b:BI A B i j t) (hx:A[i]?=some x) (hy:B[j]?=some y) (lt:¬ x.2 < y.2):BI A B i (j+1) (bt x y t):=by
 obtain⟨m1,m2,m3,m4⟩:=b.mid hx hy;have gA:=Qh cA hx;have gB:=Qh cB hy;refine⟨m1,m2,fun n a1 a2=>?_,fun w mw x' y' hx' hy'=>?_,by omega⟩
 · rcases b.cov n a1 a2 with h|⟨h,h'⟩
   · exact .inl (m3 n (.inl h))
   · rw[drop_at hy]at h';rcases mem_cons2.mp h' with k|k
     · have h'':=h;rw[drop_at hx]at h'';rcases mem_cons2.mp h'' with k'|⟨u,mu,k1,k2⟩
       · exact .inl (m3 n (.inr ⟨k',k⟩))
       · have:=gA u mu
         omega
     · exact .inr ⟨h,k⟩
 · have gy:=gB y' (by rw[drop_at hy'];exact List.mem_cons_self);have y0:=cB.1 y (List.mem_of_getElem? hy);rw[hx]at hx';cases hx';unfold bt at mw;split at mw
   · rcases List.mem_append.mp mw with mw|mw
     · rcases b.sep w mw x y hx hy with z|z
       · exact .inl z
       · exact .inr (by omega)
     · rw[List.mem_singleton.mp mw];refine .inr ?_;show mn2 x.2 y.2+1 < y'.1;unfold mn2;split<;>omega
   · rcases b.sep w mw x y hx hy with z|z
     · exact .inl z
     · exact .inr (by omega)
theorem BI.fin {A B:List (Int×Int)}{i j:Nat}{t:List (Int×Int)} (b:BI A B i j t) (h:A.length≤i∨B.length≤j):∀ n,Mem t n↔Mem A n∧Mem B n:=fun n=>by
 refine⟨b.sub n,fun zz_=>?_⟩;obtain⟨h1,h2⟩:=zz_;rcases b.cov n h1 h2 with z|⟨z1,z2⟩
 · exact z
 · rcases h with h|h
   · rw[List.drop_eq_nil_of_le h]at z1;obtain⟨_,m,_⟩:=z1;cases m
   · rw[List.drop_eq_nil_of_le h]at z2;obtain⟨_,m,_⟩:=z2;cases m
theorem BI.zero (A B:List (Int×Int)):BI A B 0 0 []:=⟨⟨(fun _ m=>nomatch m),List.Pairwise.nil⟩,(fun _ ⟨_,m,_⟩=>nomatch m),fun _ h1 h2=>.inr ⟨h1,h2⟩,(fun _ m=>nomatch m),Nat.zero_le _⟩
inductive ZS (vs:List V) (H:Hp) (Q:VK):Prop
 | mk (p q:Addr) (A B:List (Int×Int)) (h1:vs=[.ref p,.ref q]) (h2:Rs H p A) (h3:Rs H q B) (h4:qA A) (h5:qA B) (h6:A.length+B.length≤900) (h7:∀ (d:Addr) (r:List (Int×Int)) (H':Hp),H d=none->Same H H'->Rs H' d r->qA r->r.length≤A.length+B.length->(∀ n,Mem r n↔Mem A n∧Mem B n)->Q (.ref d) H'):ZS vs H Q
def Zt:Sp:=fun vs H Q _=>ZS vs H Q
section
variable {P:Program}{w:World}{K:Frag}{mg:Str->Option Value}{base:Heap}
theorem jI {a:Ad} (T:Txt K mg a):qV P w K mg base CX0 1 a.f_b a.fd_b ["one","other"] Zt:=by
 refine T.d_b.F.ok sc_both (fun vs H Q E h=>?_) (fun cdv A outer s H vs Q E hr h=>?_)
 · obtain⟨p,q,A,B,rfl,⟨zp,hp,tp⟩,⟨zq,hq,tq⟩,cA,cB,few,kk⟩:=h;rfl
 · obtain⟨p,q,A,B,rfl,⟨zp,hp,tp⟩,⟨zq,hq,tq⟩,cA,cB,few,kk⟩:=h;have hu:=zo hr;have hU:=hr.units
   refine⟨_,(qe (qx (i:=2) sc_both.nd rfl (Or.inl rfl) (qH qc))
     (qe (qx (i:=3) sc_both.nd rfl (Or.inl rfl) qd)
     (qe (qx (i:=4) sc_both.nd rfl (Or.inl rfl) qd)
     (qe (qbi PassesOwn.never (PW.pt (Jk (qv JK (pv 3) (qp zk (by rfl) T.n_len q9 (qa (pv 0) qc)) (qD _)) (Zy (qv JK (pv 4) (qp zk (by rfl) T.n_len q9 (qa (pv 1) qc)) (qD _)))))
       (qe (qx (i:=5) sc_both.nd rfl (Or.inl rfl) (qp (zH rfl) (by rfl) T.n_max zI (qa (qw (r:=rIx K) qk (qw (r:=rIx K) qk (pv 0) (pv 3) (fun _ _=>rfl)) qd (fun _ _=>rfl)) (qa (qw (r:=rIx K) qk (qw (r:=rIx K) qk (pv 1) (pv 4) (fun _ _=>rfl)) qd (fun _ _=>rfl)) qc))))
       (qe (qx (i:=6) sc_both.nd rfl (Or.inl rfl) (qp (jm rfl) (by rfl) T.n_min jn (qa (qw (r:=rIx K) qk (qw (r:=rIx K) qk (pv 0) (pv 3) (fun _ _=>rfl)) qd (fun _ _=>rfl)) (qa (qw (r:=rIx K) qk (qw (r:=rIx K) qk (pv 1) (pv 4) (fun _ _=>rfl)) qd (fun _ _=>rfl)) qc))))
       (qe (zi (qv JL (pv 5) (pv 6) (qD _))
         (qg (Qk (qao PySem.F.plainAttrs_list PySem.F.slot_list_append PySem.F.type_list_append qX (pv 2) (qa (Qb (qa (pv 5) (qa (pv 6) qc))) qc))))
         qI)
       (qg (zi (qv JK (qw (r:=rIx K) qk (qw (r:=rIx K) qk (pv 0) (pv 3) (fun _ _=>rfl)) qd (fun _ _=>rfl)) (qw (r:=rIx K) qk (qw (r:=rIx K) qk (pv 1) (pv 4) (fun _ _=>rfl)) qd (fun _ _=>rfl)) (qD _))
         (qg (qb0 (i:=3) sc_both.nd rfl (Or.inl rfl) qd qb6))
         (qg (qb0 (i:=4) sc_both.nd rfl (Or.inl rfl) qd qb6))))))))
     (qg (qy (pv 2))))))),?_⟩
   try dsimp only [Qx,Cx.nox]
   refine⟨qm (Nat.le_of_ble_eq_true rfl),fun d fd=>?_⟩;generalize hG:upd H d _=G;obtain⟨S0,e0⟩:=qad hG fd;clear hG;(try unfold qJ);(try dsimp only);refine J9 (J9 ?_);refine zg (t:=qbJ _ _) (fun σ' H'=>∃ (s3 s4 s5 s6:Option V) (t:List (Int×Int)),σ'=[some (.ref p),some (.ref q),some (.ref d),s3,s4,s5,s6]∧Same H H'∧Rs H' d t∧qA t∧t.length≤A.length+B.length∧∀ n,Mem t n↔Mem A n∧Mem B n) (fun N hN=>?_) ?_
   · refine⟨fun m σ H2=>∃ (i j:Nat) (s5 s6:Option V) (t:List (Int×Int)),σ=[some (.ref p),some (.ref q),some (.ref d),some (.int (i:Int)),some (.int (j:Int)),s5,s6]∧Same H H2∧Rs H2 d t∧BI A B i j t∧i≤A.length∧j≤B.length∧m=(A.length - i)+(B.length - j),⟨_,0,0,none,none,[],rfl,S0,⟨[],e0,.nil⟩,.zero A B,Nat.zero_le _,Nat.zero_le _,rfl⟩,?_⟩;rintro m σ H2 ⟨i,j,s5,s6,t,rfl,S2,⟨zt,ht,tt⟩,bi,hi,hj,rfl⟩;have lp:zp.length=A.length:=tp.1;have lq:zq.length=B.length:=tq.1;have hp2:=S2 _ _ hp;have hq2:=S2 _ _ hq;refine⟨_,rfl,_,rfl,_,_,rfl,.inl ⟨_,SqL.of hp2,rfl⟩,_,_,rfl,rfl,_,rfl,jw (fun g1=>?_) (fun g1=>?_)⟩
     case refine_2=>exact Qn rfl (hN _ _ ⟨_,_,_,_,t,rfl,S2,⟨zt,ht,tt⟩,bi.can,Nat.le_trans bi.len (by omega),bi.fin (.inl (by omega))⟩)
     refine⟨_,rfl,_,rfl,_,_,rfl,.inl ⟨_,SqL.of hq2,rfl⟩,_,_,rfl,rfl,_,rfl,jw (fun g2=>?_) (fun g2=>?_)⟩
     case refine_2=>exact hN _ _ ⟨_,_,_,_,t,rfl,S2,⟨zt,ht,tt⟩,bi.can,Nat.le_trans bi.len (by omega),bi.fin (.inr (by omega))⟩
     refine⟨fun σ' H'=>∃ m',m' < (A.length - i)+(B.length - j)∧(fun m σ H2=>∃ (i j:Nat) (s5 s6:Option V) (t:List (Int×Int)),σ=[some (.ref p),some (.ref q),some (.ref d),some (.int (i:Int)),some (.int (j:Int)),s5,s6]∧Same H H2∧Rs H2 d t∧BI A B i j t∧i≤A.length∧j≤B.length∧m=(A.length - i)+(B.length - j)) m' σ' H',fun _ _ h=>h,?_⟩;obtain⟨x,hx⟩:∃ x,A[i]?=some x:=⟨_,List.getElem?_eq_getElem (by omega)⟩
     obtain⟨y,hy⟩:∃ y,B[j]?=some y:=⟨_,List.getElem?_eq_getElem (by omega)⟩
     obtain⟨u,ha,hu0⟩:=tp.at_ hx;obtain⟨v,hb,hv0⟩:=tq.at_ hy;have hu:=S2 _ _ hu0;have hv:=S2 _ _ hv0;refine⟨_,rfl,_,rfl,.inl ⟨p,_,_,_,rfl,rfl,SqL.of hp2,zm ha,.inr (.inl ⟨u,_,_,_,rfl,rfl,SqT.of hu,rfl,_,rfl,_,rfl,.inl ⟨q,_,_,_,rfl,rfl,SqL.of hq2,zm hb,.inr (.inl ⟨v,_,_,_,rfl,rfl,SqT.of hv,rfl,_,_,rfl,?_⟩)⟩⟩)⟩⟩;(try unfold qJ);(try dsimp only);refine⟨_,rfl,_,rfl,.inl ⟨p,_,_,_,rfl,rfl,SqL.of hp2,zm ha,.inr (.inl ⟨u,_,_,_,rfl,rfl,SqT.of hu,rfl,_,rfl,_,rfl,.inl ⟨q,_,_,_,rfl,rfl,SqL.of hq2,zm hb,.inr (.inl ⟨v,_,_,_,rfl,rfl,SqT.of hv,rfl,_,_,rfl,?_⟩)⟩⟩)⟩⟩;(try unfold qJ);(try dsimp only);have lt:zt.length=t.length:=tt.1;have bl:=bi.len;refine zg (t:=qdH _ _ _) (fun σ' H'=>σ'=[some (.ref p),some (.ref q),some (.ref d),some (.int (i:Int)),some (.int (j:Int)),some (.int (mx2 x.1 y.1)),some (.int (mn2 x.2 y.2))]∧Same H H'∧Rs H' d (bt x y t)) (fun N hN=>?_) ?_
     · refine⟨_,rfl,_,rfl,_,_,rfl,rfl,_,rfl,jw (fun g3=>?_) (fun g3=>hN _ _ ⟨rfl,S2,by unfold bt;rw[if_neg g3];exact⟨zt,ht,tt⟩⟩)⟩;refine⟨_,rfl,.inl ⟨rfl,_,SqL.of ht⟩,_,rfl,_,rfl,qm (Nat.le_of_ble_eq_true rfl),fun w fw=>?_⟩;generalize hG:upd H2 w _=G2;obtain⟨S3,e3⟩:=qad hG fw;clear hG;refine⟨d,_,_,rfl,rfl,S3 _ _ ht,qj (by omega),?_⟩;refine hN _ _ ⟨rfl,(S2.trans S3).put fd _,?_⟩;unfold bt;rw[if_pos g3];exact⟨_,qb,((tt.same S3).snoc (p:=(mx2 x.1 y.1,mn2 x.2 y.2)) e3).put (S3 _ _ ht)⟩
     rintro _ H3 ⟨rfl,S3,R3⟩;have hp2:=S3 _ _ hp;have hq2:=S3 _ _ hq;have hu:=S3 _ _ hu0;have hv:=S3 _ _ hv0;refine⟨_,rfl,_,rfl,.inl ⟨p,_,_,_,rfl,rfl,SqL.of hp2,zm ha,.inr (.inl ⟨u,_,_,_,rfl,rfl,SqT.of hu,rfl,_,rfl,_,rfl,.inl ⟨q,_,_,_,rfl,rfl,SqL.of hq2,zm hb,.inr (.inl ⟨v,_,_,_,rfl,rfl,SqT.of hv,rfl,_,_,rfl,rfl,_,rfl,jw (fun g4=>?_) (fun g4=>?_)⟩)⟩⟩)⟩⟩
     · refine⟨_,rfl,_,_,rfl,rfl,?_⟩;exact⟨_,(by omega:(A.length - (i+1))+(B.length - j) < _),i+1,j,_,_,_,rfl,S3,R3,bi.stepA cA cB hx hy g4,by omega,hj,rfl⟩
     · refine⟨_,rfl,_,_,rfl,rfl,?_⟩;exact⟨_,(by omega:(A.length - i)+(B.length - (j+1)) < _),i,j+1,_,_,_,rfl,S3,R3,bi.stepB cA cB hx hy g4,hi,by omega,rfl⟩
   rintro _ H2 ⟨s3,s4,s5,s6,t,rfl,S2,R2,c2,l2,m2⟩;exact⟨_,rfl,kk d t H2 fd S2 R2 c2 l2 m2⟩
end
def qb7 (a:Int):List (Int×Int)->Int->List (Int×Int)
 | [],z=>[(a,z)]
 | b::B,z=>(a,b.1 - 1)::qb7 (b.2+1) B z
theorem QD (z:Int):∀ (B:List (Int×Int)) (a:Int),(qb7 a B z).length=B.length+1
 | [],_=>rfl
 | b::B,a=>by show (qb7 (b.2+1) B z).length+1=_;rw[QD z B];rfl
theorem Jx {z n:Int}:∀ {B:List (Int×Int)}{a:Int},(∀ b∈B,a≤b.2+1)->B.Pairwise (fun a b=>a.2 < b.2)->Mem (qb7 a B z) n->a≤n
 | [],a,_,_,h=>by
   obtain⟨w,hw,h1,_⟩:=h;cases List.mem_singleton.mp hw;exact h1
 | b::B,a,h,p,m=>by
   rcases (mem_cons2.mp m) with m|m
   · exact m.1
   · have p':=List.pairwise_cons.mp p
     have:=Jx (a:=b.2+1) (fun b' hb'=>by have:=p'.1 b' hb';omega) p'.2 m
     have:=h b List.mem_cons_self
     omega
theorem qbH {B:List (Int×Int)} (c:qA B):B.Pairwise (fun a b=>a.2 < b.2):=c.2.imp_of_mem fun {a b} _ hb h=>by have:=c.1 b hb;omega
theorem Jw {z n:Int} (hz:n≤z):∀ {B:List (Int×Int)}{a:Int},qA B->a≤n->(Mem (qb7 a B z) n↔¬ Mem B n)
 | [],a,_,ha=>⟨fun _ ⟨_,m,_⟩=>(nomatch m),fun _=>⟨(a,z),List.mem_singleton_self _,ha,hz⟩⟩
 | b::B,a,c,ha=>by
   obtain⟨cB,hb,far⟩:=qW c;show Mem ((a,b.1 - 1)::qb7 (b.2+1) B z) n↔_;rw[mem_cons2,mem_cons2];by_cases h1:n < b.1
   · refine⟨fun _ h=>?_,fun _=>.inl ⟨ha,by show n≤b.1 - 1;omega⟩⟩;rcases h with h|h
     · omega
     · have:=far n h;omega
   by_cases h2:n≤b.2
   · refine⟨fun h=>?_,fun h=>absurd (.inl ⟨by omega,h2⟩) h⟩;rcases h with h|h
     · have:=h.2;simp only at this;omega
     · have:=Jx (a:=b.2+1) (fun b' hb'=>by
         have:=far b'.1 ⟨b',hb',Int.le_refl _,cB.1 b' hb'⟩
         have:=cB.1 b' hb'
         omega) (qbH cB) h
       omega
   · have ih:=Jw hz (a:=b.2+1) cB (by omega);rw[ih];refine⟨fun h k=>?_,fun h=>.inr fun k=>h (.inr k)⟩;rcases h with h|h
     · have:=h.2;simp only at this;omega
     · rcases k with k|k
       · omega
       · exact h k
theorem Jv (z:Int):∀ (B:List (Int×Int)) (a:Int) (j:Nat) (p:Int×Int),(qb7 a B z)[j]?=some p->((a::B.map fun b:Int×Int=>b.2+1)[j]?=some p.1∧((B.map fun b:Int×Int=>b.1 - 1)++[z])[j]?=some p.2)
 | [],a,0,p,h=>by cases h;exact⟨rfl,rfl⟩
 | [],a,j+1,p,h=>by cases h
 | b::B,a,0,p,h=>by cases h;exact⟨rfl,rfl⟩
 | b::B,a,j+1,p,h=>by
   have:=Jv z B (b.2+1) j p h
   exact⟨this.1,this.2⟩
theorem jT {A:List (Int×Int)} (c:qA A) {w:Int×Int} (h:A[0]?=some w) {n:Int} (m:Mem A n):w.1≤n:=by
 cases A with
 | nil=>cases h
 | cons x A =>
   cases h;obtain⟨_,hx,far⟩:=qW c;rcases mem_cons2.mp m with m|m
   · exact m.1
   · have:=far n m;omega
theorem JT {A:List (Int×Int)} (c:qA A) {w:Int×Int} (h:A.getLast?=some w) {n:Int} (m:Mem A n):n≤w.2:=by
 obtain⟨init,rfl⟩:=ZF h;obtain⟨_,hw,far⟩:=canon_snoc.mp c;rcases mem_snoc2.mp m with ⟨x,hx,h1,h2⟩|m
 · have:=far x hx;omega
 · exact m.2
theorem Qj {H:Hp}{zs ys:List V}{ws us:List (Int×Int)} (h:TupL pr H zs ws) (k:TupL pr H ys us):TupL pr H (zs++ys) (ws++us):=by
 refine⟨by rw[List.length_append,List.length_append,h.1,k.1],fun i z p e1 e2=>?_⟩;by_cases hi:i < zs.length
 · rw[List.getElem?_append_left hi]at e1;rw[List.getElem?_append_left (by rw[← h.1];exact hi)]at e2;exact h.2 i z p e1 e2
 · rw[List.getElem?_append_right (by omega)]at e1;rw[List.getElem?_append_right (by rw[← h.1];omega),← h.1]at e2;exact k.2 _ z p e1 e2
section
variable {P:Program}{w:World}{K:Frag}{mg:Str->Option Value}{base:Heap}
theorem jd {a:Ad} (T:Txt K mg a):qV P w K mg base CX0 5 a.f_d a.fd_d ["one","other"] QI:=by
 have G_h:=QT (P:=P) (w:=w) (base:=base) T;refine T.d_d.F.ok qab (fun vs H Q E h=>?_) (fun cdv A outer s H vs Q E hr h=>?_)
 · obtain⟨p,q,A,B,rfl,⟨zp,hp,tp⟩,⟨zq,hq,tq⟩,cA,cB,lA,lB,kk⟩:=h;rfl
 · obtain⟨p,q,A,B,rfl,⟨zp,hp,tp⟩,⟨zq,hq,tq⟩,cA,cB,lA,lB,kk⟩:=h;have h_h:Room (4) _:=hr.mono (by decide);refine⟨_,(qg (qy (qh G_h h_h rfl T.d_h.m T.d_h.k T.d_h.b .nil qB (qa (qu Qz (pv 0) (pv 1)) qc)))),?_⟩;(try dsimp only [Qx,Cx.nox]);refine⟨_,rfl,_,rfl,.inr (.inl ⟨p,q,zp,zq,rfl,rfl,hp,hq,(by rw[tp.1,tq.1];exact Nat.le_of_lt (qj (by omega))),fun e fe=>?_⟩)⟩;have S1:=Same.new (.lst (zp++zq)) fe;refine⟨e,A++B,rfl,⟨_,qb,(Qj tp tq).same S1⟩,.inr ⟨A,B,rfl,JA cA,JA cB,lA,lB⟩,fun d r H' fd S2 R c lr m=>?_⟩;exact kk d r H' (S1.none fd) (S1.trans S2) R c (by rw[List.length_append]at lr;omega) fun n=>(m n).trans (QV A B n)
theorem qap {a:Ad} (T:Txt K mg a):qV P w K mg base CX0 5 a.f_e a.fd_e ["one","other"] jE:=by
 have G_b:=jI (P:=P) (w:=w) (base:=base) T;have G_h:=QT (P:=P) (w:=w) (base:=base) T;refine T.d_e.F.ok sc_less (fun vs H Q E h=>?_) (fun cdv A outer s H vs Q E hr h=>?_)
 · obtain⟨p,q,A,B,rfl,⟨zp,hp,tp⟩,⟨zq,hq,tq⟩,cA,cB,lA,lB,kk⟩:=h;rfl
 · obtain⟨p,q,A,B,rfl,⟨zp,hp,tp⟩,⟨zq,hq,tq⟩,cA,cB,lA,lB,kk⟩:=h;have h_b:Room (1) _:=hr.mono (by decide);have h_h:Room (4) _:=hr.mono (by decide)
   refine⟨_,(qe (zi (zR (Jl (pv 0) (fun _=>rfl)))
       (qg (qy (qH qc)))
       qI)
     (qe (qx (i:=2) sc_less.nd rfl (Or.inl rfl) (qu Qz (qH (qa (qw (r:=rIx K) qk (qw (r:=rIx K) qk (pv 0) qd (fun _ _=>rfl)) qd (fun _ _=>rfl)) qc)) (zE rfl (CompOk.def ["low","high"] [none,none]) (qM (pv 1)) (fun _ _ _ _ _=>(show PG _ _ (qd1 K 2 _) from (Qv rfl (qE (qt (i:=0) (show List.Nodup (["low","high"]:List Str) by decide +kernel) rfl (Or.inl rfl)) (qE (qt (i:=1) (show List.Nodup (["low","high"]:List Str) by decide +kernel) rfl (Or.inl rfl)) zD))))) (fun _ _ _ _ _=>Zz) (fun _ _ _ _ _=>(qu Qz (pv 1) qd)))))
     (qe (qx (i:=3) sc_less.nd rfl (Or.inl rfl) (qu Qz (zE rfl (CompOk.def ["low","high"] [none,none]) (qM (pv 1)) (fun _ _ _ _ _=>(show PG _ _ (qd1 K 2 _) from (Qv rfl (qE (qt (i:=0) (show List.Nodup (["low","high"]:List Str) by decide +kernel) rfl (Or.inl rfl)) (qE (qt (i:=1) (show List.Nodup (["low","high"]:List Str) by decide +kernel) rfl (Or.inl rfl)) zD))))) (fun _ _ _ _ _=>Zz) (fun _ _ _ _ _=>(qu Qw (pv 0) qd))) (qH (qa (qw (r:=rIx K) qk (qw (r:=rIx K) qk (pv 0) (JI Q8 qd) (fun _ _=>rfl)) qd (fun _ _=>rfl)) qc))))
     (qg (qy (qh G_b h_b rfl T.d_b.m T.d_b.k T.d_b.b .nil qB (qa (pv 0) (qa (qh G_h h_h rfl T.d_h.m T.d_h.k T.d_h.b .nil qB (qa (JJ rfl rfl T.n_list rfl T.n_zip (qa (pv 2) (qa (pv 3) qc))) qc)) qc)))))))),?_⟩
   try dsimp only [Qx,Cx.nox]
   have lp:zp.length=A.length:=tp.1;have lq:zq.length=B.length:=tq.1
   cases hA:A with
   | nil =>
     subst hA;have e0:zp=[]:=List.eq_nil_of_length_eq_zero lp;subst e0;refine⟨_,rfl,false,.inl ⟨_,SqL.of hp,rfl⟩,qaF rfl ?_⟩;refine⟨qm (Nat.le_of_ble_eq_true rfl),fun d fd=>?_⟩;exact kk d [] _ fd (Same.new _ fd) ⟨[],qb,.nil⟩ ⟨fun _ z=>(nomatch z),List.Pairwise.nil⟩ (Nat.zero_le _) fun n=>⟨fun⟨_,m,_⟩=>(nomatch m),fun⟨⟨_,m,_⟩,_⟩=>(nomatch m)⟩
   | cons x0 A0 =>
   have ne:0 < A.length:=by rw[hA];exact Nat.zero_lt_succ _
   have e0:A[0]?=some x0:=by rw[hA];rfl
   obtain⟨xl,el⟩:∃ xl,A.getLast?=some xl:=by
     cases q:A.getLast? with
     | none=>rw[List.getLast?_eq_none_iff.mp q]at ne;exact absurd ne (Nat.lt_irrefl _)
     | some xl=>exact⟨xl,rfl⟩
   clear hA
   have ez:true=!zp.isEmpty:=by
     cases zp with
     | nil=>have:0=A.length:=lp;omega
     | cons y ys=>rfl
   refine⟨_,rfl,true,.inl ⟨_,SqL.of hp,ez⟩,Qn rfl ?_⟩;obtain⟨t0,hz0,ht0⟩:=tp.at_ e0;obtain⟨tl,hzl,htl⟩:=TupL.last tp el;(try unfold qJ);(try dsimp only);refine⟨_,rfl,.inl ⟨p,_,_,_,rfl,rfl,SqL.of hp,zm (j:=0) hz0,.inr (.inl ⟨t0,_,_,_,rfl,rfl,SqT.of ht0,rfl,qm (Nat.le_of_ble_eq_true rfl),fun l0 fl0=>?_⟩)⟩⟩;have qs:=Same.new (.lst [.int x0.1]) fl0;have hl0:(upd H l0 (.lst [.int x0.1])) l0=some (.lst [.int x0.1]):=qb;(try dsimp only);generalize upd H l0 (.lst [.int x0.1])=G0 at qs hl0 ⊢;have hq':=qs _ _ hq;refine⟨_,rfl,q,rfl,⟨_,SqL.of hq'⟩,fun C fC=>?_⟩;refine qQ (K:=K) (a:=q) (xs:=zq) (D:=C) (fun i σ H2=>∃ (c0 c1:Option V),σ=[c0,c1]∧Same G0 H2∧H2 C=some (.lst (((B.take i).map fun b:Int×Int=>b.2+1).map V.int))) ⟨none,none,rfl,Same.new _ fC,qb⟩ (fun i σ H2 _ ⟨_,_,_,S',_⟩=>SqL.of (S' _ _ hq')) ?_ ?_
   · rintro i z σ H2 hz ⟨c0,c1,rfl,S',hC⟩;obtain⟨b,t,hb,rfl,ht⟩:=tq.of hz;have lti:i < B.length:=(List.getElem?_eq_some_iff.mp hb).1;refine⟨t,_,rfl,SqT.of (S' _ _ (qs _ _ ht)),rfl,_,_,rfl,_,_,rfl,rfl,?_⟩;refine⟨_,rfl,.inl ⟨_,_,rfl,rfl,_,hC,qj (by rw[List.length_map,List.length_map,List.length_take];omega),_,_,rfl,S'.put fC _,?_⟩⟩;rw[qb,List.take_add_one,hb];simp
   rintro σ H2 ⟨c0,c1,rfl,S1,hC⟩;rw[lq,List.take_length]at hC;refine .inr (.inl ⟨l0,C,_,_,rfl,rfl,S1 _ _ hl0,hC,(by rw[List.length_map,List.length_map];exact Nat.le_of_lt (qj (by show 1+B.length≤1000;omega))),fun d1 fd1=>?_⟩);have S2:=Same.new (.lst ([.int x0.1]++(B.map fun b:Int×Int=>b.2+1).map V.int)) fd1;have hd1:(upd H2 d1 (.lst ([.int x0.1]++(B.map fun b:Int×Int=>b.2+1).map V.int))) d1=some (.lst ((x0.1::B.map fun b:Int×Int=>b.2+1).map V.int)):=qb;have Sd:=(qs.trans S1).trans S2;clear hl0 hC hq' S1 S2 qs;(try unfold qJ);(try dsimp only);generalize upd H2 d1 (.lst ([.int x0.1]++(B.map fun b:Int×Int=>b.2+1).map V.int))=G1 at hd1 Sd ⊢;have qs:=Sd;have hq':=qs _ _ hq;refine⟨_,rfl,q,rfl,⟨_,SqL.of hq'⟩,fun F fF=>?_⟩;refine qQ (K:=K) (a:=q) (xs:=zq) (D:=F) (fun i σ H2=>∃ (c0 c1:Option V),σ=[c0,c1]∧Same G1 H2∧H2 F=some (.lst (((B.take i).map fun b:Int×Int=>b.1 - 1).map V.int))) ⟨none,none,rfl,Same.new _ fF,qb⟩ (fun i σ H2 _ ⟨_,_,_,S',_⟩=>SqL.of (S' _ _ hq')) ?_ ?_
   · rintro i z σ H2 hz ⟨c0,c1,rfl,S',hC⟩;obtain⟨b,t,hb,rfl,ht⟩:=tq.of hz;have lti:i < B.length:=(List.getElem?_eq_some_iff.mp hb).1;refine⟨t,_,rfl,SqT.of (S' _ _ (qs _ _ ht)),rfl,_,_,rfl,_,_,rfl,rfl,?_⟩;refine⟨_,rfl,_,_,rfl,rfl,_,hC,qj (by rw[List.length_map,List.length_map,List.length_take];omega),_,_,rfl,S'.put fF _,?_⟩;rw[qb,List.take_add_one,hb];simp
   rintro σ H3 ⟨c0,c1,rfl,S3,hF⟩;rw[lq,List.take_length]at hF;have S4:=qs.trans S3;refine⟨_,rfl,_,rfl,.inl ⟨p,_,_,_,rfl,rfl,SqL.of (S4 _ _ hp),Qi hzl,.inr (.inl ⟨tl,_,_,_,rfl,rfl,SqT.of (S4 _ _ htl),rfl,qm (Nat.le_of_ble_eq_true rfl),fun l1 fl1=>?_⟩)⟩⟩;have S5:=Same.new (.lst [.int xl.2]) fl1;have hl1:(upd H3 l1 (.lst [.int xl.2])) l1=some (.lst [.int xl.2]):=qb;refine .inr (.inl ⟨F,l1,_,_,rfl,rfl,S5 _ _ hF,hl1,(by rw[List.length_map,List.length_map];exact Nat.le_of_lt (qj (by show B.length+1≤1000;omega))),fun d2 fd2=>?_⟩);have S6:=Same.new (.lst ((B.map fun b:Int×Int=>b.1 - 1).map V.int++[.int xl.2])) fd2;have hd2:(upd (upd H3 l1 (.lst [.int xl.2])) d2 (.lst ((B.map fun b:Int×Int=>b.1 - 1).map V.int++[.int xl.2]))) d2=some (.lst (((B.map fun b:Int×Int=>b.1 - 1)++[xl.2]).map V.int)):=by rw[qb,List.map_append];rfl
   have hd1':=S6 _ _ (S5 _ _ (S3 _ _ hd1));have S7:=(S4.trans S5).trans S6;clear S6 S5 S4 S3 hF hl1 Sd qs hq' hd1;(try unfold qJ);(try dsimp only);generalize upd (upd H3 l1 (.lst [.int xl.2])) d2 (.lst ((B.map fun b:Int×Int=>b.1 - 1).map V.int++[.int xl.2]))=G2 at hd1' hd2 S7 ⊢;refine⟨_,rfl,_,rfl,_,rfl,d1,d2,_,_,rfl,SqL.of hd1',SqL.of hd2,?_,?_,?_,fun z zz G3 fz S8 hz lz at_=>?_⟩
   · simp
   · simp
   · exact qj (by simp;omega)
   refine⟨z,qb7 x0.1 B xl.2,rfl,⟨zz,hz,?_,fun i v pr' e1 e2=>?_⟩,.inl (by rw[QD];omega),fun d r G4 fd S9 R c lr m=>?_⟩
   · rw[lz,QD];simp
   · obtain⟨g1,g2⟩:=Jv _ _ _ _ _ e2;obtain⟨t,h1,h2⟩:=at_ i (.int pr'.1) (.int pr'.2) (by rw[List.getElem?_map,g1];rfl) (by rw[List.getElem?_map,g2];rfl);rw[h1]at e1;cases e1;exact⟨t,rfl,h2⟩
   have S10:=(S7.trans S8).trans S9;rw[QD]at lr;refine⟨p,d,A,r,rfl,⟨zp,S10 _ _ hp,tp.same S10⟩,R,cA,c,by omega,fun d' r' G5 fd' S11 R' c' lr' m'=>?_⟩;refine kk d' r' G5 (S10.none fd') (S10.trans S11) R' c' (by omega) fun n=>?_;rw[m',m];refine and_congr_right fun hn=>?_;exact Jw (JT cA el hn) cB (jT cA e0 hn)
end
abbrev rD (r:Int×Int):PyData:=.tuple [.int r.1,.int r.2]
theorem QO {H:Hp}:∀ {rows:List (Int×Int)}{zs:List V},TupL pr H zs rows->DVs H zs (rows.map rD)∧PyData.canLayAll0 (rows.map rD)=true∧PyData.depthAll (rows.map rD)≤2
 | [],zs,h=>by
   have:zs=[]:=List.eq_nil_of_length_eq_zero h.1
   subst this;exact⟨.nil,rfl,by simp[PyData.depthAll]⟩
 | r::rows,zs,h=>by
   cases zs with
   | nil=>have:=h.1;simp at this
   | cons z zs =>
     obtain⟨t,rfl,ht⟩:=h.2 0 z r rfl rfl;obtain⟨h1,h2,h3⟩:=QO (rows:=rows) (zs:=zs) ⟨by have:=h.1;simpa using this,fun i z p e1 e2=>h.2 (i+1) z p (by simpa using e1) (by simpa using e2)⟩;refine⟨.cons (.tup (.inl ht) (.cons (.int _) (.cons (.int _) .nil))) h1,?_,?_⟩
     · rw[List.map_cons];simp only[PyData.canLayAll0,PyData.canLay0,h2];rfl
     · rw[List.map_cons];simp only[PyData.depthAll,PyData.depth];omega
theorem qah {rows:List (Int×Int)} (h1:PyData.canLayAll0 (rows.map rD)=true) (h2:PyData.depthAll (rows.map rD)≤2):PyData.canLay0 (.list (rows.map rD))=true∧SeqAt.shaped (.list (rows.map rD))=true:=by
 have cl:PyData.canLay0 (.list (rows.map rD))=true:=by simp only[PyData.canLay0,h1]
 refine⟨cl,?_⟩;unfold SeqAt.shaped;rw[cl,Bool.true_and];refine decide_eq_true ?_;simp only[PyData.depth];omega
theorem qaw {H:Hp}{a b:Addr}{rows:List (Int×Int)}{Q:VK} (h1:Rs H a rows) (h2:Rs H b rows) (q:Q (.bl false) H):qc7 (.ref a) (.ref b) H Q:=by
 obtain⟨zs,ha,ta⟩:=h1;obtain⟨ys,hb,tb⟩:=h2;obtain⟨d1,d2,d3⟩:=QO ta;obtain⟨cl,sh⟩:=qah d2 d3;refine .inr ⟨_,_,.lst (.inl ha) d1,.lst (.inl hb) (QO tb).1,sh,sh,?_⟩;rw[SeqAt.eqv_refl _ cl];exact q
theorem jf {H:Hp}{a b:Addr}{ws:List (Int×Int)}{Q:VK} (h1:Rs H a ws) (h2:H b=some (.lst [])) (q:Q (.bl (!ws.isEmpty)) H):qc7 (.ref a) (.ref b) H Q:=by
 obtain⟨zs,ha,ta⟩:=h1;obtain⟨d1,d2,d3⟩:=QO ta;obtain⟨cl,sh⟩:=qah d2 d3;refine .inr ⟨_,_,.lst (.inl ha) d1,.lst (.inl h2) .nil,sh,rfl,?_⟩
 cases ws with
 | nil=>exact q
 | cons w ws=>exact q
theorem qS (ws:List (Int×Int)) (n:Int):Qm ws n=true↔Mem ws n:=by
 unfold Qm Mem;constructor
 · intro h
   cases e:ws.filter (fun w=>decide (w.1≤n) && decide (n≤w.2)) with
   | nil=>rw[e]at h;cases h
   | cons w l =>
     have m:w∈ws.filter (fun w=>decide (w.1≤n) && decide (n≤w.2)):=by rw[e];simp
     obtain⟨m1,m2⟩:=List.mem_filter.mp m;simp only[Bool.and_eq_true,decide_eq_true_eq]at m2;exact⟨w,m1,m2⟩
 · rintro⟨w,m1,m2⟩;have m:w∈ws.filter (fun w=>decide (w.1≤n) && decide (n≤w.2)):=List.mem_filter.mpr ⟨m1,by simp[m2]⟩
   cases e:ws.filter (fun w=>decide (w.1≤n) && decide (n≤w.2)) with
   | nil=>rw[e]at m;cases m
   | cons w l=>rfl
theorem jY {H:Hp}{zs:List V}{ws:List (Int×Int)} (h:TupL pr H zs ws) (n:Nat):TupL pr H (zs.take n) (ws.take n):=by
 refine⟨by rw[List.length_take,List.length_take,h.1],fun i z p e1 e2=>?_⟩;have hi:i < n:=by have:=(List.getElem?_eq_some_iff.mp e1).1;rw[List.length_take]at this;omega
 rw[List.getElem?_take_of_lt hi]at e1 e2;exact h.2 i z p e1 e2
theorem qcp {acc:List (Int×Int)}{l w:Int×Int} (h:acc.getLast?=some l) (g:w.1 - l.2 < 2):acc.dropLast++[(l.1,if l.2 > w.2 then l.2 else w.2)]=QB acc w:=by
 rw[jj h (by omega)];obtain⟨init,rfl⟩:=ZF h;rw[j9,List.dropLast_concat,show (if w.2 > l.2 then w.2 else l.2)=(if l.2 > w.2 then l.2 else w.2) by split<;>split<;>omega]
theorem qa8 {H:Hp}{zs:List V}{ws:List (Int×Int)} (h:TupL pr H zs ws):TupL pr H zs.dropLast ws.dropLast:=by
 rw[List.dropLast_eq_take,List.dropLast_eq_take,← h.1];exact jY h _
section
variable {P:Program}{w:World}{K:Frag}{mg:Str->Option Value}{base:Heap}
theorem qbk {a:Ad} (T:Txt K mg a):qV P w K mg base CX0 1 a.f_k a.fd_k ["_law_stretches_here"] j7:=by
 refine T.d_k.F.ok sc_Llaid (fun vs H Q E h=>?_) (fun cdv A outer s H vs Q E hr h=>?_)
 · obtain⟨q,ws,rfl,hrs,few,kk⟩:=h;rfl
 · obtain⟨q,ws,rfl,hrs,few,kk⟩:=h;have hU:=hr.units
   refine⟨_,(qe (qx (i:=1) sc_Llaid.nd rfl (Or.inl rfl) (qH qc))
     (qe (Qa PassesOwn.never rfl (qM (qp call_sortT (by rfl) T.n_sorted Qy (qa (zE rfl (CompOk.def ["_law_one"] [none]) (qM (pv 0)) (fun _ _ _ _ _=>(qt (i:=0) (show List.Nodup (["_law_one"]:List Str) by decide +kernel) rfl (Or.inl rfl))) (fun _ _ _ _ _=>(QQ (qv JL (qw (r:=rIx K) qk (pv 0) qd (fun _ _=>rfl)) (qw (r:=rIx K) qk (pv 0) qd (fun _ _=>rfl)) (qD _)))) (fun _ _ _ _ _=>(pv 0))) qc))) (Qv rfl (qE (qt (i:=2) (sc_Llaid.nd) rfl (Or.inl rfl)) (qE (qt (i:=3) (sc_Llaid.nd) rfl (Or.inl rfl)) zD)))
       (qe (zi (PW.pt (Jk (qv (uNe hU) (pv 1) (qH qc) (qD _)) (Zy (qv JK (qu Qw (pv 2) (qw (r:=rIx K) qk (qw (r:=rIx K) qk (pv 1) (JI Q8 qd) (fun _ _=>rfl)) qd (fun _ _=>rfl))) qd (qD _)))))
         (qe (qak (qdf PySem.F.plainAttrs_list PySem.F.slot_list_pop PySem.F.type_list_pop qdm (pv 1)) (Qv rfl (qE (qt (i:=2) (sc_Llaid.nd) rfl (Or.inl rfl)) (qE (qt (i:=4) (sc_Llaid.nd) rfl (Or.inl rfl)) zD))))
         (qg (qx (i:=3) sc_Llaid.nd rfl (Or.inl rfl) (qp (zH rfl) (by rfl) T.n_max zI (qa (pv 3) (qa (pv 4) qc))))))
         qI)
       (qg (Qk (qao PySem.F.plainAttrs_list PySem.F.slot_list_append PySem.F.type_list_append qX (pv 1) (qa (Qb (qa (pv 2) (qa (pv 3) qc))) qc))))))
     (qg (qy (pv 1))))),?_⟩
   try dsimp only [Qx,Cx.nox]
   refine⟨qm (Nat.le_of_ble_eq_true rfl),fun D fD=>?_⟩;have SD:=Same.new (.lst []) fD;have hD0:(upd H D (.lst [])) D=some (.lst []):=qb;obtain⟨zs,hq,tp⟩:=hrs.same SD;(try unfold qJ);(try dsimp only);generalize upd H D (.lst [])=G at SD hD0 hq tp ⊢;have hl:zs.length=ws.length:=tp.1;refine⟨_,rfl,q,rfl,⟨_,SqL.of hq⟩,fun C fC=>?_⟩;refine qQ (K:=K) (a:=q) (xs:=zs) (D:=C) (fun i σ H2=>∃ (c0:Option V) (cs:List V),σ=[c0]∧Same G H2∧H2 C=some (.lst cs)∧TupL pr H2 cs ((ws.take i).filter okw)) ⟨none,[],rfl,Same.new _ fC,qb,.nil⟩ (fun i σ H2 _ ⟨_,_,_,S,_⟩=>SqL.of (S _ _ hq)) ?_ ?_
   · rintro i z σ H2 hz ⟨c0,cs,rfl,S,hC,tc⟩;obtain⟨r,t,hr',rfl,ht⟩:=tp.of hz;have ht2:=S _ _ ht;have et:ws.take (i+1)=ws.take i++[r]:=by rw[List.take_add_one,hr'];rfl
     have lc:cs.length≤64:=by
       rw[tc.1];refine Nat.le_trans (List.length_filter_le _ _) ?_;rw[List.length_take];omega
     refine⟨_,rfl,.inr (.inl ⟨t,_,_,_,rfl,rfl,SqT.of ht2,rfl,_,rfl,.inr (.inl ⟨t,_,_,_,rfl,rfl,SqT.of ht2,rfl,_,_,rfl,rfl,_,rfl,jw (fun g=>?_) (fun g=>?_)⟩)⟩)⟩
     · refine⟨_,rfl,_,hC,qj (by omega),_,cs++[.ref t],rfl,S.put fC _,qb,?_⟩;rw[et,List.filter_append,show List.filter okw [r]=[r] by simp[okw,g]];exact(tc.snoc (p:=r) ht2).put hC
     · refine⟨_,cs,rfl,S,hC,?_⟩;rw[et,List.filter_append,show List.filter okw [r]=[] by simp[okw,g],List.append_nil];exact tc
   rintro σ H2 ⟨c0,cs,rfl,S,hC,tc⟩;rw[hl,List.take_length]at tc;have okf:∀ w∈ws.filter okw,w.1≤w.2:=fun w hw=>of_decide_eq_true (List.mem_filter.mp hw).2;have lf:(ws.filter okw).length≤ws.length:=List.length_filter_le _ _;generalize ws.filter okw=fs at tc okf lf;refine⟨C,cs,fs.map g2,2,rfl,SqL.of hC,QG tc,(fun r hr=>by obtain⟨w,_,rfl⟩:=List.mem_map.mp hr;rfl),(by decide),(by rw[tc.1];omega),fun p zs' rs' fp hp tI ho=>?_⟩;obtain⟨ss,rfl,hss⟩:=Jn hp;have ord:=qb3 ho;have oks:∀ w∈ss,w.1≤w.2:=fun w m=>okf w (hss.mem_iff.mp m);have lss:ss.length≤ws.length:=by rw[hss.length_eq];exact lf
   have tz0:TupL pr H2 zs' ss:=qau tI;have Sp:=Same.new (.lst zs') fp;have tz:=tz0.same Sp;have hp1:(upd H2 p (.lst zs')) p=some (.lst zs'):=qb;have hD1:=Sp _ _ (S _ _ hD0);have npD:p≠D:=fun e=>by rw[e,S _ _ hD0]at fp;cases fp
   have SG:=SD.trans (S.trans Sp);(try dsimp only);generalize upd H2 p (.lst zs')=G1 at tz hp1 hD1 SG ⊢;refine⟨p,rfl,⟨_,SqL.of hp1⟩,zO (D:={ nx:=qcT (qcS 1) { nx:=fun _ H'=>Q .non H',rt:=Q },rt:=Q }) (K:=K) (a:=p) (xs:=zs') (fun i σ H3=>∃ (s2 s3 s4:Option V) (ys:List V),σ=[some (.ref q),some (.ref D),s2,s3,s4]∧But D G1 H3∧H3 D=some (.lst ys)∧TupL pr H3 ys ((ss.take i).foldl QB [])) ⟨none,none,none,[],rfl,(fun c o e _=>e),hD1,.nil⟩ (fun i σ H3 _ ⟨_,_,_,_,_,B,_⟩=>SqL.of (B _ _ hp1 npD)) ?_ ?_⟩
   · rintro i z σ H3 hz ⟨s2,s3,s4,ys,rfl,B,hD,ty⟩;obtain⟨wv,t,hw,rfl,ht⟩:=tz.of hz;have ntD:t≠D:=je ht hD1 (by intro z;cases z);have ht3:=B _ _ ht ntD
     have ly:ys.length≤64:=by
       have:=zj ss i
       have lti:i < ss.length:=(List.getElem?_eq_some_iff.mp hw).1;rw[ty.1];omega
     refine⟨t,_,rfl,SqT.of ht3,rfl,_,_,rfl,_,_,rfl,rfl,?_⟩;rw[ZI hw];generalize (ss.take i).foldl QB []=acc at ty ⊢;have la:ys.length=acc.length:=ty.1;(try unfold qJ);(try dsimp only);refine zg (t:=qdH _ _ _) (fun σ' H'=>∃ (lo hi:Int) (s4:Option V) (zs2:List V) (acc2:List (Int×Int)),σ'=[some (.ref q),some (.ref D),some (.int lo),some (.int hi),s4]∧But D G1 H'∧H' D=some (.lst zs2)∧TupL pr H' zs2 acc2∧zs2.length≤64∧acc2++[(lo,hi)]=QB acc wv) (fun N hN=>?_) ?_
     · refine⟨_,rfl,qm (Nat.le_of_ble_eq_true rfl),fun nl fnl=>?_⟩;have An:=Same.new (.lst []) fnl;have hDn:=An _ _ hD;have tyn:=ty.same An;have Bn:But D G1 (upd H3 nl (.lst [])):=B.same An;refine jf ⟨ys,hDn,tyn⟩ qb ⟨_,rfl,?_⟩;generalize upd H3 nl (.lst [])=H4 at hDn tyn Bn ⊢
       cases ea:acc.getLast? with
       | none =>
         have e0:acc=[]:=List.getLast?_eq_none_iff.mp ea;subst e0;refine Qn rfl ?_;exact hN _ _ ⟨wv.1,wv.2,s4,ys,[],rfl,Bn,hDn,tyn,ly,rfl⟩
       | some l =>
         obtain⟨tl,hzl,htl⟩:=TupL.last tyn ea
         have ne:(!acc.isEmpty)=true:=by
           cases acc with
           | nil=>cases ea
           | cons a as=>rfl
         refine qaF ne ?_;refine⟨_,rfl,_,rfl,_,rfl,.inl ⟨D,_,_,_,rfl,rfl,SqL.of hDn,Qi hzl,.inr (.inl ⟨tl,_,_,_,rfl,rfl,SqT.of htl,rfl,_,_,rfl,rfl,_,_,rfl,rfl,_,rfl,jw (fun g=>?_) (fun g=>?_)⟩)⟩⟩
         · have g':wv.1 - l.2 < 2:=g;refine⟨_,rfl,.inl ⟨rfl,_,SqL.of hDn⟩,D,_,.ref tl,rfl,rfl,hDn,(by rw[← List.getLast?_eq_getElem?];exact hzl),?_⟩;have ntl:tl≠D:=je htl hDn (by intro z;cases z);have htl2:(upd H4 D (.lst ys.dropLast)) tl=some (.tup (pr l)):=(qi ntl).trans htl;refine⟨tl,_,rfl,SqT.of htl2,rfl,_,_,rfl,_,_,rfl,rfl,?_⟩;refine⟨_,rfl,_,rfl,_,_,rfl,?_⟩;refine hN _ _ ⟨l.1,(if l.2 > wv.2 then l.2 else wv.2),some (.int l.2),ys.dropLast,acc.dropLast,rfl,(fun c o e n=>by rw[qi n];exact Bn c o e n),qb,(qa8 tyn).put hDn,(by rw[List.length_dropLast];omega),qcp ea g'⟩
         · have g':¬ wv.1≤l.2+1:=fun z=>g (by show wv.1 - l.2 < 2;omega);refine hN _ _ ⟨wv.1,wv.2,s4,ys,acc,rfl,Bn,hDn,tyn,ly,(Ju ea g').symm⟩
     rintro _ H4 ⟨lo,hi,s4',zs2,acc2,rfl,B4,hD4,ty4,ly4,e4⟩;refine⟨_,rfl,.inl ⟨rfl,_,SqL.of hD4⟩,_,rfl,_,rfl,qm (Nat.le_of_ble_eq_true rfl),fun tt ft=>?_⟩;have St:=Same.new (.tup [.int lo,.int hi]) ft;refine⟨D,_,_,rfl,rfl,St _ _ hD4,qj (by omega),?_⟩;refine⟨_,_,_,zs2++[.ref tt],rfl,(fun c o e n=>?_),qb,?_⟩
     · rw[qi n];exact St _ _ (B4 c o e n)
     · rw[← e4];exact((ty4.same St).snoc (p:=(lo,hi)) qb).put (St _ _ hD4)
   · rintro σ H3 ⟨s2,s3,s4,ys,rfl,B,hD,ty⟩;have glen:=zj ss ss.length;rw[tz.1]at ty;rw[List.take_length]at ty glen;obtain⟨f1,f2⟩:=jN ss [] ⟨fun _ z=>(nomatch z),List.Pairwise.nil⟩ oks ord fun _ z=>nomatch z;refine⟨_,rfl,kk D _ H3 fD (fun c o e=>?_) ⟨ys,hD,ty⟩ f1 (by omega)⟩;have n:c≠D:=qf e fD;exact B _ _ (SG _ _ e) n
end
theorem qbg (L S A:Int):jX (pur L S A) (Sum.inr "left")=some (.int L):=rfl
theorem qbf (L S A:Int):jX (pur L S A) (Sum.inr "seed")=some (.int S):=rfl
theorem qda (L S A:Int):jX (pur L S A) (Sum.inr "at")=some (.int A):=rfl
theorem qbe (L S A x:Int):Z8 (pur L S A) (Sum.inr "left") (.int x)=pur x S A:=rfl
theorem qc9 (L S A x:Int):Z8 (pur L S A) (Sum.inr "at") (.int x)=pur L S x:=rfl
theorem jQ {H:Hp}{p:Addr}{L S A:Int} (h:H p=some (.dK (pur L S A))):DGet H p (.str "left") (some (.int L)):=qbg L S A▸DGet.k (k:=Sum.inr "left") h
theorem qcO {H:Hp}{p:Addr}{L S A:Int} (h:H p=some (.dK (pur L S A))):DGet H p (.str "seed") (some (.int S)):=qbf L S A▸DGet.k (k:=Sum.inr "seed") h
theorem qcP {H:Hp}{p:Addr}{L S A:Int} (h:H p=some (.dK (pur L S A))):DGet H p (.str "at") (some (.int A)):=qda L S A▸DGet.k (k:=Sum.inr "at") h
theorem qcM {H:Hp}{p:Addr}{L S A x:Int} (h:H p=some (.dK (pur L S A))):DPut H p (.str "left") (.int x) (upd H p (.dK (pur x S A))):=qbe L S A x▸DPut.k (k:=Sum.inr "left") h (qj (Nat.le_of_ble_eq_true rfl))
theorem qd5 {H:Hp}{p:Addr}{L S A x:Int} (h:H p=some (.dK (pur L S A))):DPut H p (.str "at") (.int x) (upd H p (.dK (pur L S x))):=qc9 L S A x▸DPut.k (k:=Sum.inr "at") h (qj (Nat.le_of_ble_eq_true rfl))
section
variable {P:Program}{w:World}{K:Frag}{mg:Str->Option Value}{base:Heap}
theorem qbl {a:Ad} (T:Txt K mg a):qV P w K mg base CX0 1 a.f_q a.fd_q ["_law_script","_law_k"] (j8 K):=by
 refine T.d_q.F.ok qbc (fun vs H Q E h=>?_) (fun cdv A outer s H vs Q E hr h=>?_)
 · obtain⟨b,ns,j,rfl,hS,j0,k⟩:=h;rfl
 · obtain⟨b,ns,j,rfl,hS,j0,k⟩:=h;have hU:=hr.units
   refine⟨_,(qe (zi (qv JK (pv 1) (qp zk (by rfl) T.n_len q9 (qa (pv 0) qc)) (qD _))
       (qg (qy (qw (r:=rIx K) qk (pv 0) (pv 1) (fun _ _=>rfl))))
       qI)
     (qg (qy qd))),?_⟩
   try dsimp only [Qx,Cx.nox]
   refine⟨_,rfl,_,rfl,_,_,rfl,.inl ⟨_,hS,rfl⟩,_,_,rfl,rfl,_,rfl,?_⟩;refine jw (fun hj=>?_) (fun hj=>?_)
   · obtain⟨n,rfl⟩:=Int.eq_ofNat_of_zero_le j0;rw[List.length_map]at hj;have hn:n < ns.length:=by omega
     refine⟨_,rfl,_,rfl,.inl ⟨b,_,_,.int ns[n],rfl,rfl,hS,zm (by rw[List.getElem?_map,List.getElem?_eq_getElem hn];rfl),?_⟩⟩;exact k _
   · exact k _
theorem qas {a:Ad} (T:Txt K mg a):qV P w K mg base CX0 1 a.f_r a.fd_r ["_law_cell_here"] ZW:=by
 refine T.d_r.F.ok qac (fun vs H Q E h=>?_) (fun cdv A outer s H vs Q E hr h=>?_)
 · obtain⟨c,rfl,k⟩:=h;rfl
 · obtain⟨c,rfl,k⟩:=h;refine⟨_,(qg (qy (qcA (ZA zn (qp (zH rfl) (by rfl) T.n_max zI (qa qd (qa (qu Qw (pv 0) (qu jb qd qd)) qc))) (ZA zn (qu QS (pv 0) qd) (ZA zn qd qcx))) rfl rfl (by simp) (by decide)))),?_⟩;(try dsimp only [Qx,Cx.nox]);intro p hp;refine⟨_,rfl,_,_,rfl,rfl,⟨by decide,by decide,by decide⟩,_,_,rfl,rfl,_,_,rfl,?_⟩;refine⟨_,rfl,_,_,rfl,rfl,(by show (0:Int) < _;decide),?_⟩;refine⟨qb,[(Sum.inr "left",_),(Sum.inr "seed",_),(Sum.inr "at",_)],rfl,(Nat.le_of_ble_eq_true rfl),?_⟩;rw[qck];exact k p _ _ _ hp
theorem Jq {a:Ad} (T:Txt K mg a):qV P w K mg base CX0 1 a.f_a a.fd_a ["_law_purse_here","_law_many"] Zu:=by
 refine T.d_a.F.ok sc_Ltake (fun vs H Q E h=>?_) (fun cdv A outer s H vs Q E hr h=>?_)
 · obtain⟨p,many,rfl,⟨L,S,A,hp⟩,m0,m1,k⟩:=h;rfl
 · obtain⟨p,many,rfl,⟨L,S,A,hp⟩,m0,m1,k⟩:=h;have hu:=zo hr;have hU:=hr.units
   refine⟨_,(qe (zi (qv qdh (zV hu (pv 0) zn (fun _ _=>rfl)) qd (qD _))
       (qe (qx (i:=2) sc_Ltake.nd rfl (Or.inl rfl) (qu QS (zV hu (pv 0) zn (fun _ _=>rfl)) (pv 1)))
       (qe (qaj hu (pv 0) zn (qu ZC (zV hu (pv 0) zn (fun _ _=>rfl)) (pv 1)) rfl)
       (qg (qy (pv 2)))))
       qI)
     (qe (qaj hu (pv 0) zn (qu Qz (zV hu (pv 0) zn (fun _ _=>rfl)) qd) rfl)
     (qe (qx (i:=3) sc_Ltake.nd rfl (Or.inl rfl) (qu QS (qu Zj (qu Qz (zV hu (pv 0) zn (fun _ _=>rfl)) (qu Zj qd (zV hu (pv 0) zn (fun _ _=>rfl)))) qd) qd))
     (qe (qx (i:=3) sc_Ltake.nd rfl (Or.inl rfl) (qu QS (qu Zj (pv 3) (pv 3)) qd))
     (qe (qx (i:=3) sc_Ltake.nd rfl (Or.inl rfl) (qu QS (qu Zj (qu Qz (pv 3) qd) (qu Qz (pv 3) (zV hu (pv 0) zn (fun _ _=>rfl)))) qd))
     (qg (qy (qu QS (qu ZC (qu QS (qu Zj (pv 3) (qu Qz (pv 3) qd)) qd) qd) (pv 1))))))))),?_⟩
   try dsimp only [Qx,Cx.nox]
   refine⟨_,rfl,p,_,rfl,jQ hp,_,_,rfl,rfl,_,rfl,?_⟩;refine jw (fun hL=>?_) (fun hL=>?_)
   · refine⟨_,rfl,p,_,rfl,jQ hp,_,rfl,_,_,rfl,rfl,m0,?_⟩;refine⟨_,rfl,p,_,rfl,jQ hp,_,rfl,_,_,rfl,rfl,⟨m0,m1⟩,_,rfl,p,_,rfl,qcM hp,?_⟩;refine⟨_,rfl,?_⟩;exact k _ _ _ _ (Int.emod_nonneg _ (by omega)) (Int.emod_lt_of_pos _ m0)
   · refine⟨_,rfl,p,_,rfl,qcP hp,.inl ⟨_,_,rfl,rfl,_,rfl,p,_,rfl,qd5 hp,?_⟩⟩;have hp1:(upd H p (.dK (pur L S (A+1)))) p=some (.dK (pur L S (A+1))):=qb;refine⟨_,rfl,p,_,rfl,qcO hp1,_,rfl,p,_,rfl,qcP hp1,_,_,rfl,rfl,.inl ⟨by decide,by decide⟩,.inl ⟨_,_,rfl,rfl,_,_,rfl,rfl,.inr ⟨by decide,by decide⟩,_,_,rfl,rfl,(by show (0:Int) < _;decide),?_⟩⟩;dsimp only;generalize hn:(S+7919 * (A+1)) * 48271 % 2147483647=n;have n0:0≤n:=by omega
     have n1:n < 2147483647:=by omega
     refine⟨_,rfl,_,rfl,_,_,rfl,rfl,.inl ⟨by omega,by omega⟩,_,_,rfl,rfl,(by show (0:Int) < _;decide),?_⟩;dsimp only;generalize hm:n * n % 2147483629=m;have m2:0≤m:=by rw[← hm];exact Int.emod_nonneg _ (by decide)
     have m3:m < 2147483629:=by rw[← hm];exact Int.emod_lt_of_pos _ (by decide)
     refine⟨_,rfl,.inl ⟨_,_,rfl,rfl,_,rfl,_,rfl,p,_,rfl,qcP hp1,.inl ⟨_,_,rfl,rfl,_,_,rfl,rfl,.inl ⟨by omega,by omega⟩,_,_,rfl,rfl,(by show (0:Int) < _;decide),?_⟩⟩⟩;dsimp only;generalize hq:(m+104729) * (m+(A+1)) % 2147483587=q;have q0:0≤q:=by rw[← hq];exact Int.emod_nonneg _ (by decide)
     have q1:q < 2147483587:=by rw[← hq];exact Int.emod_lt_of_pos _ (by decide)
     refine⟨_,rfl,_,rfl,.inl ⟨_,_,rfl,rfl,_,_,rfl,rfl,.inl ⟨by omega,by omega⟩,_,_,rfl,rfl,(by show (0:Int) < _;decide),_,_,rfl,rfl,⟨by decide,by decide⟩,_,rfl,_,_,rfl,rfl,m0,?_⟩⟩;exact k _ _ _ _ (Int.emod_nonneg _ (by omega)) (Int.emod_lt_of_pos _ m0)
theorem JN {a:Ad} (T:Txt K mg a):qV P w K mg base CX0 1 a.f_f a.fd_f ["_law_stretches_here","_law_number"] Zb:=by
 refine T.d_f.F.ok JH (fun vs H Q E h=>?_) (fun cdv A outer s H vs Q E hr h=>?_)
 · obtain⟨q,ws,n,rfl,hrs,few,kk⟩:=h;rfl
 · obtain⟨q,ws,n,rfl,hrs,few,kk⟩:=h;have hU:=hr.units;refine⟨_,(qg (qy (jG (uNe hU) (zE rfl (CompOk.def ["_law_one","_law_number"] [none,some 1]) (qM (pv 0)) (fun _ _ _ _ _=>(qt (i:=0) (show List.Nodup (["_law_one","_law_number"]:List Str) by decide +kernel) rfl (Or.inl rfl))) (fun _ _ _ _ _=>(QQ (qbh JL JL (qw (r:=rIx K) qk (pv 0) qd (fun _ _=>rfl)) (pv 1) (qw (r:=rIx K) qk (pv 0) qd (fun _ _=>rfl))))) (fun _ _ _ _ _=>(pv 0))) (qH qc) (qD _)))),?_⟩;(try dsimp only [Qx,Cx.nox]);obtain⟨zs,hq,tp⟩:=id hrs;refine⟨_,rfl,q,rfl,⟨_,SqL.of hq⟩,fun C fC=>?_⟩;refine qQ (K:=K) (a:=q) (xs:=zs) (D:=C) (fun i σ H2=>∃ (c0:Option V) (cs:List V),σ=[c0,some (.int n)]∧Same H H2∧H2 C=some (.lst cs)∧TupL pr H2 cs ((ws.take i).filter fun w=>decide (w.1≤n) && decide (n≤w.2))) ⟨none,[],rfl,Same.new _ fC,qb,.nil⟩ (fun i σ H2 _ ⟨_,_,_,S,_⟩=>SqL.of (S _ _ hq)) ?_ ?_
   · rintro i z σ H2 hz ⟨c0,cs,rfl,S,hC,tc⟩;obtain⟨r,t,hr',rfl,ht⟩:=tp.of hz;have ht2:=S _ _ ht;have et:ws.take (i+1)=ws.take i++[r]:=by rw[List.take_add_one,hr'];rfl
     have lc:cs.length≤80:=by
       rw[tc.1];refine Nat.le_trans (List.length_filter_le _ _) ?_;rw[List.length_take];omega
     have no:(decide (r.1≤n) && decide (n≤r.2))=false->∃ (c0:Option V) (cs:List V),[some (V.ref t),some (.int n)]=[c0,some (.int n)]∧Same H H2∧H2 C=some (.lst cs)∧TupL pr H2 cs ((ws.take (i+1)).filter fun w=>decide (w.1≤n) && decide (n≤w.2)):=fun g=>by
       refine⟨_,cs,rfl,S,hC,?_⟩;rw[et,List.filter_append,show List.filter (fun w=>decide (w.1≤n) && decide (n≤w.2)) [r]=[] by simp[g],List.append_nil];exact tc
     refine⟨_,rfl,.inr (.inl ⟨t,_,_,_,rfl,rfl,SqT.of ht2,rfl,_,rfl,_,_,rfl,rfl,_,rfl,jw (fun g1=>?_) (fun g1=>⟨_,rfl,ZG (no (by rw[decide_eq_false g1,Bool.false_and]))⟩)⟩)⟩;refine⟨_,rfl,.inr (.inl ⟨t,_,_,_,rfl,rfl,SqT.of ht2,rfl,_,_,rfl,rfl,_,rfl,jw (fun g2=>?_) (fun g2=>no (by rw[decide_eq_false g2,Bool.and_false]))⟩)⟩;refine⟨_,rfl,_,hC,qj (by omega),_,cs++[.ref t],rfl,S.put fC _,qb,?_⟩;rw[et,List.filter_append,show List.filter (fun w=>decide (w.1≤n) && decide (n≤w.2)) [r]=[r] by simp[g1,g2]];exact(tc.snoc (p:=r) ht2).put hC
   rintro σ H2 ⟨c0,cs,rfl,S,hC,tc⟩;rw[tp.1,List.take_length]at tc;refine⟨qm (Nat.le_of_ble_eq_true rfl),fun nl fnl=>?_⟩;have A:=Same.new (.lst []) fnl;exact jf ⟨cs,A _ _ hC,tc.same A⟩ qb (kk _ (S.trans A))
theorem qat {a:Ad} (T:Txt K mg a):qV P w K mg base CX0 1 a.f_s a.fd_s ["_law_stretches_here"] ZX:=by
 refine T.d_s.F.ok sc_Ledges (fun vs H Q E h=>?_) (fun cdv A outer s H vs Q E hr h=>?_)
 · obtain⟨q,ws,rfl,hrs,few,kk⟩:=h;rfl
 · obtain⟨q,ws,rfl,hrs,few,kk⟩:=h;have hU:=hr.units
   refine⟨_,(@qe _ _ _ _ _ (by exact(@qx _ _ 1 _ _ _ _ (by exact sc_Ledges.nd) (by rfl) (by exact Or.inl rfl) (by exact(@qH _ _ _ _ (by exact(@qa _ _ _ _ _ (by exact qd) (by exact(@qa _ _ _ _ _ (by exact qd) (by exact(@qc _)) (by rfl))) (by rfl))))) (by rfl) (by exact .inl rfl)))
     (by exact(qe (Qa PassesOwn.never rfl (qM (pv 0)) (Qv rfl (qE (qt (i:=2) (sc_Ledges.nd) rfl (Or.inl rfl)) (qE (qt (i:=3) (sc_Ledges.nd) rfl (Or.inl rfl)) zD)))
       (qg (qx (i:=1) sc_Ledges.nd rfl (Or.inl rfl) (qu Qz (pv 1) (@qH _ _ _ _ (by exact(@qa _ _ _ _ _ (by exact(qu Qw (pv 2) qd)) (by exact(@qa _ _ _ _ _ (by exact(pv 2)) (by exact(@qa _ _ _ _ _ (by exact(pv 3)) (by exact(@qa _ _ _ _ _ (by exact(qu Qz (pv 3) qd)) (by exact(@qa _ _ _ _ _ (by exact(qu ZC (qu Qz (pv 2) (pv 3)) qd)) (by exact(@qc _)) (by rfl))) (by rfl))) (by rfl))) (by rfl))) (by rfl))))))))
     (qg (qy (pv 1)))))),?_⟩
   try dsimp only [Qx,Cx.nox]
   obtain⟨zs,hq,tp⟩:=id hrs;refine⟨qm (Nat.le_of_ble_eq_true rfl),fun d0 fd0=>?_⟩;have A0:=Same.new (.lst [.int 0,.int 7]) fd0;have hd0:(upd H d0 (.lst [.int 0,.int 7])) d0=some (.lst (([0,7]:List Int).map V.int)):=qb;(try unfold qJ);(try dsimp only);generalize upd H d0 (.lst [.int 0,.int 7])=G at A0 hd0 ⊢;refine⟨_,rfl,q,rfl,⟨_,SqL.of (A0 _ _ hq)⟩,zO (D:={ nx:=qcT (qcS 1) { nx:=fun _ H'=>Q .non H',rt:=Q },rt:=Q }) (K:=K) (a:=q) (xs:=zs) (fun i σ H2=>∃ (s2 s3:Option V) (d:Addr) (ms:List Int),σ=[some (.ref q),some (.ref d),s2,s3]∧H d=none∧Same H H2∧H2 d=some (.lst (ms.map V.int))∧ms.length≤2+5 * i) ⟨none,none,d0,[0,7],rfl,fd0,A0,hd0,by decide⟩ (fun i σ H2 _ ⟨_,_,_,_,_,_,S,_⟩=>SqL.of (S _ _ hq)) ?_ ?_⟩
   · rintro i z σ H2 hz ⟨s2,s3,d,ms,rfl,fd,S,hd,lm⟩;obtain⟨w,t,hw,rfl,ht⟩:=tp.of hz;have lti:i < ws.length:=(List.getElem?_eq_some_iff.mp hw).1;refine⟨t,_,rfl,SqT.of (S _ _ ht),rfl,_,_,rfl,_,_,rfl,rfl,?_⟩;refine⟨_,rfl,_,rfl,_,_,rfl,rfl,_,rfl,_,rfl,_,rfl,.inl ⟨_,_,rfl,rfl,_,rfl,_,rfl,.inl ⟨_,_,rfl,rfl,_,_,rfl,rfl,⟨by decide,by decide⟩,qm (Nat.le_of_ble_eq_true rfl),fun l1 fl1=>?_⟩⟩⟩;have A1:=Same.new (.lst [.int (w.1 - 1),.int w.1,.int w.2,.int (w.2+1),.int ((w.1+w.2) / 2)]) fl1;refine .inr (.inl ⟨d,l1,_,_,rfl,rfl,A1 _ _ hd,qb,(by rw[List.length_map];show ms.length+5≤_;exact Nat.le_of_lt (qct (by omega))),fun e fe=>?_⟩);refine⟨_,_,e,ms++[w.1 - 1,w.1,w.2,w.2+1,(w.1+w.2) / 2],rfl,(S.trans A1).none fe,(S.trans A1).then _ fe,by rw[qb,List.map_append];rfl,by rw[List.length_append];show ms.length+5≤_;omega⟩
   · rintro σ H2 ⟨s2,s3,d,ms,rfl,fd,S,hd,lm⟩;rw[tp.1]at lm;exact⟨_,rfl,kk d ms H2 fd S hd lm⟩
end
theorem qbG {K:Frag}{a:Addr}{xs:List V}{g:TG}{tt:TT}{te:TE}{D:Addr}{Q:VK}{σ:L2.St}{H:Hp} (Pv:Nat->L2.St->Hp->Prop) (h0:Pv 0 σ H) (hl:∀ i σ H,i≤xs.length->Pv i σ H->SqT K H a xs)
   (hs:∀ i x σ H,xs[i]?=some x->Pv i σ H->g x σ H fun σ3 H3=>tt σ3 H3 fun ok H4=>if ok=true then te σ3 H4 fun y H5=>∃ ys,H5 D=some (.lst ys)∧ys.length < sizeLine∧Pv (i+1) σ3 (upd H5 D (.lst (ys++[y]))) else Pv (i+1) σ3 H4)
   (hd:∀ σ H,Pv xs.length σ H->Q (.ref D) H) :
   ZK (Itt K a) g tt te D Q σ H:=by
 refine⟨fun i m σ H=>m=xs.length - i∧i≤xs.length∧Pv i σ H,⟨xs.length,by simp,Nat.zero_le _,h0⟩,?_⟩;rintro i m σ H ⟨rfl,hi,p⟩;have q:=hl i σ H hi p;by_cases hlt:i < xs.length
 · refine .inr ⟨⟨xs,xs[i],q,by simp[hlt]⟩,Pv (i+1),fun σ' H' p'=>⟨xs.length - (i+1),by omega,rfl,hlt,p'⟩,fun v H' y=>?_⟩;obtain⟨e,y⟩:=y;subst e;exact hs i v σ _ (y xs q) p
 · have e:i=xs.length:=by omega
   subst e;exact .inl ⟨⟨xs,q,Nat.le_refl _⟩,hd σ H p⟩
section
variable {P:Program}{w:World}{K:Frag}{mg:Str->Option Value}{base:Heap}
theorem qaq {a:Ad} (T:Txt K mg a):qV P w K mg base CX0 1 a.f_t a.fd_t ["_law_thing"] ZU:=by
 refine T.d_t.F.ok sc_Lspans (fun vs H Q E h=>?_) (fun cdv A outer s H vs Q E hr h=>?_)
 · obtain⟨q,ws,rfl,hrs,can,few,kk⟩:=h;rfl
 · obtain⟨q,ws,rfl,hrs,can,few,kk⟩:=h;have hU:=hr.units
   refine⟨_,(qe (zi (zR (zQ (qp zd (by rfl) T.n_isinstance qr (qa (pv 0) (qa (zF (v:=.ty "list") rfl T.n_list qP rfl) qc)))))
       (qg (qy QR))
       qI)
     (qe (qx (i:=1) sc_Lspans.nd rfl (Or.inl rfl) qb2)
     (qe (Qa PassesOwn.never rfl (qM (pv 0)) (qt (i:=2) (sc_Lspans.nd) rfl (Or.inl rfl))
       (qe (zi (PW.pt (Z7 (zR (zQ (qp zd (by rfl) T.n_isinstance qr (qa (pv 2) (qa (zF (v:=.ty "tuple") rfl T.n_tuple Q4 rfl) qc))))) (Zg (qv (uNe hU) (qp zk (by rfl) T.n_len q9 (qa (pv 2) qc)) qd (qD _)))))
         (qg (qy QR))
         qI)
       (qe (zi (qv (uNe hU) (zE rfl (CompOk.def ["_law_part"] [none]) (qdc (pv 2)) (fun _ _ _ _ _=>(qt (i:=0) (show List.Nodup (["_law_part"]:List Str) by decide +kernel) rfl (Or.inl rfl))) (fun _ _ _ _ _=>(QQ (PW.pt (Z7 (zR (zQ (qp zd (by rfl) T.n_isinstance qr (qa (pv 0) (qa (zF (v:=.ty "int") rfl T.n_int jo rfl) qc))))) (Zg (zQ (qp zd (by rfl) T.n_isinstance qr (qa (pv 0) (qa (zF (v:=.ty "bool") rfl T.n_bool Zo rfl) qc))))))))) (fun _ _ _ _ _=>(pv 0))) (qH qc) (qD _))
         (qg (qy QR))
         qI)
       (qe (zi (PW.pt (Z7 (qv qdh (qw (r:=rIx K) qk (pv 2) qd (fun _ _=>rfl)) (qw (r:=rIx K) qk (pv 2) qd (fun _ _=>rfl)) (qD _)) (Zg (PW.pt (Jk (qv qcB (pv 1) qb2 (qD _)) (Zy (qv JK (qu Qw (qw (r:=rIx K) qk (pv 2) qd (fun _ _=>rfl)) (pv 1)) qd (qD _))))))))
         (qg (qy QR))
         qI)
       (qg (qx (i:=1) sc_Lspans.nd rfl (Or.inl rfl) (qw (r:=rIx K) qk (pv 2) qd (fun _ _=>rfl))))))))
     (qg (qy QR))))),?_⟩
   try dsimp only [Qx,Cx.nox]
   obtain⟨zs,hq,tp⟩:=id hrs;have ty:tyN H (.ref q)=some "list":=by simp only[tyN];rw[hq]
   refine⟨_,rfl,_,_,_,rfl,(by decide),ty,true,rfl,Qn rfl ?_⟩;refine⟨_,rfl,q,rfl,⟨_,SqL.of hq⟩,zO (D:={ nx:=qcT (tC (.bl true)) { nx:=fun _ H'=>Q .non H',rt:=Q },rt:=Q }) (K:=K) (a:=q) (xs:=zs) (fun i σ H2=>∃ (ab:V) (s2:Option V),σ=[some (.ref q),some ab,s2]∧Same H H2∧(ab=.non∨∃ m:Int,ab=.int m∧∀ w,ws[i]?=some w->m+1 < w.1)) ⟨.non,none,rfl,Same.refl H,.inl rfl⟩ (fun i σ H2 _ ⟨_,_,_,S,_⟩=>SqL.of (S _ _ hq)) ?_ ?_⟩
   · rintro i z σ H2 hz ⟨ab,s2,rfl,S,hab⟩;obtain⟨w,t,hw,rfl,ht⟩:=tp.of hz;have ht2:=S _ _ ht;have okw':=can.1 w (List.mem_of_getElem? hw);have tyt:tyN H2 (.ref t)=some "tuple":=by simp only[tyN];rw[ht2]
     have nextw:∀ w2,ws[i+1]?=some w2->w.2+1 < w2.1:=fun w2 e2=>by
       obtain⟨l1,e1⟩:=List.getElem?_eq_some_iff.mp hw;obtain⟨l2,e3⟩:=List.getElem?_eq_some_iff.mp e2
       have:=List.pairwise_iff_getElem.mp can.2 i (i+1) l1 l2 (by omega)
       rw[e1,e3]at this;exact this
     refine⟨_,rfl,_,_,_,rfl,(by decide),tyt,true,rfl,Qn rfl ?_⟩;refine⟨_,rfl,_,_,rfl,.inr ⟨_,SqT.of ht2,rfl⟩,.inl ⟨rfl,_,rfl,qdV (fun g=>absurd rfl g) (fun _=>?_)⟩⟩;refine⟨_,rfl,t,rfl,⟨_,SqT.of ht2⟩,fun C fC=>?_⟩;refine qbG (K:=K) (a:=t) (xs:=pr w) (D:=C) (fun i σ H3=>∃ c0:Option V,σ=[c0]∧Same H2 H3∧H3 C=some (.lst [])) ⟨none,rfl,Same.new _ fC,qb⟩ (fun i σ H3 _ ⟨_,_,S3,_⟩=>SqT.of (S3 _ _ ht2)) ?_ ?_
     · rintro i' y σ H3 hy ⟨c0,rfl,S3,hC⟩;obtain⟨n,_,rfl⟩:=jL hy;exact⟨_,rfl,_,_,_,rfl,(by decide),rfl,true,rfl,Qn rfl ⟨_,rfl,_,_,_,rfl,(by decide),rfl,false,rfl,ZG ⟨_,rfl,S3,hC⟩⟩⟩
     rintro σ H3 ⟨c0,rfl,S3,hC⟩;refine⟨qm (Nat.le_of_ble_eq_true rfl),fun nl fnl=>jf (ws:=[]) ⟨[],Same.new _ fnl _ _ hC,.nil⟩ qb ⟨_,rfl,ZG ?_⟩⟩;have S4:=S.trans (S3.then (.lst []) fnl);have ht4:=S4 _ _ ht;(try unfold qJ);(try dsimp only);generalize upd H3 nl (.lst [])=H4 at S4 ht4 ⊢;refine⟨_,rfl,.inr (.inl ⟨t,_,_,_,rfl,rfl,SqT.of ht4,rfl,_,rfl,.inr (.inl ⟨t,_,_,_,rfl,rfl,SqT.of ht4,rfl,_,_,rfl,rfl,_,rfl,jw (fun g=>absurd (show w.2 < w.1 from g) (by omega)) (fun _=>?_)⟩)⟩)⟩;rcases hab with rfl|⟨m,rfl,hm⟩
     · refine⟨_,rfl,rfl,_,rfl,Qn (by simp) (ZG ?_)⟩;refine⟨_,rfl,.inr (.inl ⟨t,_,_,_,rfl,rfl,SqT.of ht4,rfl,⟨.int w.2,_,rfl,S4,.inr ⟨w.2,rfl,fun w2 e2=>?_⟩⟩⟩)⟩;exact nextw w2 e2
     · have lt:=hm w hw;refine⟨_,rfl,rfl,_,rfl,qaF (by simp) ?_⟩;refine⟨_,rfl,.inr (.inl ⟨t,_,_,_,rfl,rfl,SqT.of ht4,rfl,_,rfl,_,_,rfl,rfl,_,_,rfl,rfl,_,rfl,jw (fun g=>absurd (show w.1 - m < 2 from g) (by omega)) (fun _=>?_)⟩)⟩;refine⟨_,rfl,.inr (.inl ⟨t,_,_,_,rfl,rfl,SqT.of ht4,rfl,⟨.int w.2,_,rfl,S4,.inr ⟨w.2,rfl,fun w2 e2=>?_⟩⟩⟩)⟩;exact nextw w2 e2
   · rintro σ H2 ⟨ab,s2,rfl,S,hab⟩;exact kk H2 S
end
theorem IsP.put {H:Hp}{p:Addr} (L S A:Int):IsP (upd H p (.dK (pur L S A))) p:=⟨L,S,A,qb⟩
theorem IsP.new {H:Hp}{p q:Addr} (h:IsP H p) (o:HO) (hq:H q=none):IsP (upd H q o) p:=by
 obtain⟨L,S,A,e⟩:=h;exact⟨L,S,A,by rw[qi (qf e hq)];exact e⟩
theorem IsP.ne {H:Hp}{p q:Addr} (h:IsP H p) (hq:H q=none):q≠p:=by
 obtain⟨L,S,A,e⟩:=h;exact(qf e hq).symm
theorem IsP.neL {H:Hp}{p q:Addr}{xs:List V} (h:IsP H p) (hq:H q=some (.lst xs)):q≠p:=by
 obtain⟨L,S,A,e⟩:=h;exact je hq e (by intro z;cases z)
theorem IsP.neT {H:Hp}{p q:Addr}{xs:List V} (h:IsP H p) (hq:H q=some (.tup xs)):q≠p:=by
 obtain⟨L,S,A,e⟩:=h;exact je hq e (by intro z;cases z)
theorem TupL.purse {β:Type}{f:β->List V}{H H':Hp}{p:Addr}{zs:List V}{ws:List β} (h:TupL f H zs ws) (hp:IsP H p) (b:But p H H'):TupL f H' zs ws:=⟨h.1,fun i z r e1 e2=>by
 obtain⟨t,e,ht⟩:=h.2 i z r e1 e2
 exact⟨t,e,b _ _ ht (hp.neT ht)⟩⟩
theorem Rs.purse {H H':Hp}{p q:Addr}{ws:List (Int×Int)} (h:Rs H q ws) (hp:IsP H p) (b:But p H H'):Rs H' q ws:=by
 obtain⟨zs,h1,h2⟩:=h;exact⟨zs,b _ _ h1 (hp.neL h1),TupL.purse h2 hp b⟩
section
variable {P:Program}{w:World}{K:Frag}{mg:Str->Option Value}{base:Heap}
theorem ZE {a:Ad} (T:Txt K mg a):qV P w K mg base CX0 2 a.f_j a.fd_j ["_law_purse_here"] z9:=by
 have G_a:=Jq (P:=P) (w:=w) (base:=base) T;refine T.d_j.F.ok sc_Lstretches (fun vs H Q E h=>?_) (fun cdv A outer s H vs Q E hr h=>?_)
 · obtain⟨p,rfl,hp,kk⟩:=h;rfl
 · obtain⟨p,rfl,hp,kk⟩:=h;have h_a:Room (1) _:=hr.mono (by decide)
   refine⟨_,(qe (qx (i:=1) sc_Lstretches.nd rfl (Or.inl rfl) (qw (r:=rIx K) qk (@qH _ _ _ _ (by exact(@qa _ _ _ _ _ (by exact qd) (by exact(@qa _ _ _ _ _ (by exact qd) (by exact(@qa _ _ _ _ _ (by exact(qu jb qd qd)) (by exact(@qa _ _ _ _ _ (by exact(qu jb qd qd)) (by exact(@qc _)) (by rfl))) (by rfl))) (by rfl))) (by rfl)))) (qh G_a h_a rfl T.d_a.m T.d_a.k T.d_a.b .nil qB (qa (pv 0) (qa qd qc))) (fun _ _=>rfl)))
     (qe (qx (i:=2) sc_Lstretches.nd rfl (Or.inl rfl) (qu Zj (qh G_a h_a rfl T.d_a.m T.d_a.k T.d_a.b .nil qB (qa (pv 0) (qa (qu jb qd qd) qc))) (qw (r:=rIx K) qk (@qH _ _ _ _ (by exact(@qa _ _ _ _ _ (by exact qd) (by exact(@qa _ _ _ _ _ (by exact qd) (by exact(@qa _ _ _ _ _ (by exact(qu jb qd qd)) (by exact(@qc _)) (by rfl))) (by rfl))) (by rfl)))) (qh G_a h_a rfl T.d_a.m T.d_a.k T.d_a.b .nil qB (qa (pv 0) (qa qd qc))) (fun _ _=>rfl))))
     (qe (qx (i:=3) sc_Lstretches.nd rfl (Or.inl rfl) (qw (r:=rIx K) qk (@qH _ _ _ _ (by exact(@qa _ _ _ _ _ (by exact(qh G_a h_a rfl T.d_a.m T.d_a.k T.d_a.b .nil qB (qa (pv 0) (qa qd qc)))) (by exact(@qa _ _ _ _ _ (by exact(qu Qz qd (qh G_a h_a rfl T.d_a.m T.d_a.k T.d_a.b .nil qB (qa (pv 0) (qa qd qc))))) (by exact(@qc _)) (by rfl))) (by rfl)))) (qu jH (qh G_a h_a rfl T.d_a.m T.d_a.k T.d_a.b .nil qB (qa (pv 0) (qa qd qc))) qd) (fun _ _=>rfl)))
     (qe (qx (i:=4) sc_Lstretches.nd rfl (Or.inl rfl) (qH qc))
     (qe (Qa PassesOwn.never rfl (Z9 rfl T.n_range (qa (pv 3) qc)) (qt (i:=5) (sc_Lstretches.nd) rfl (Or.inl rfl))
       (qe (qx (i:=6) sc_Lstretches.nd rfl (Or.inl rfl) (qu Qw (qh G_a h_a rfl T.d_a.m T.d_a.k T.d_a.b .nil qB (qa (pv 0) (qa (pv 1) qc))) (qu jH (pv 1) qd)))
       (qe (qx (i:=7) sc_Lstretches.nd rfl (Or.inl rfl) (qu Qz (pv 6) (qw (r:=rIx K) qk (@qH _ _ _ _ (by exact(@qa _ _ _ _ _ (by exact(qu Qw (qh G_a h_a rfl T.d_a.m T.d_a.k T.d_a.b .nil qB (qa (pv 0) (qa qd qc))) qd)) (by exact(@qa _ _ _ _ _ (by exact(qu Qw (qu jH (qh G_a h_a rfl T.d_a.m T.d_a.k T.d_a.b .nil qB (qa (pv 0) (qa (pv 1) qc))) qd) qd)) (by exact(@qc _)) (by rfl))) (by rfl)))) (qh G_a h_a rfl T.d_a.m T.d_a.k T.d_a.b .nil qB (qa (pv 0) (qa qd qc))) (fun _ _=>rfl))))
       (qg (Qk (qao PySem.F.plainAttrs_list PySem.F.slot_list_append PySem.F.type_list_append qX (pv 4) (qa (Qb (qa (qu Qz (pv 6) (pv 2)) (qa (qu Qz (pv 7) (pv 2)) qc))) qc)))))))
     (qg (qy (pv 4)))))))),?_⟩
   try dsimp only [Qx,Cx.nox]
   have p0:IsP H p:=hp;have t0:But p H H:=But.refl p H;have q6:(10:Int) ^ (6:Int).toNat=1000000:=by decide
   have q28:(10:Int) ^ (28:Int).toNat=10000000000000000000000000000:=by decide
   have q20:(10:Int) ^ (20:Int).toNat=100000000000000000000:=by decide
   refine⟨_,_,rfl,rfl,⟨by decide,by decide,by decide⟩,_,_,rfl,rfl,⟨by decide,by decide,by decide⟩,?_⟩;(try dsimp only);rw[q6,q28];refine⟨(qm (Nat.le_of_ble_eq_true rfl)),fun l f_l=>?_⟩;have e_l:(upd H l (.lst [.int 9,.int 61,.int 1000000,.int 10000000000000000000000000000])) l=some (.lst [.int 9,.int 61,.int 1000000,.int 10000000000000000000000000000]):=qb;have p1:IsP (upd H l (.lst [.int 9,.int 61,.int 1000000,.int 10000000000000000000000000000])) p:=p0.new _ f_l;have n_l:l≠p:=p0.ne f_l;have u1:Same H (upd H l (.lst [.int 9,.int 61,.int 1000000,.int 10000000000000000000000000000])):=Same.new _ f_l;have t1:=t0.same u1;(try dsimp only);generalize upd H l (.lst [.int 9,.int 61,.int 1000000,.int 10000000000000000000000000000])=G1 at e_l p1 u1 t1 ⊢;refine⟨_,rfl,p,_,rfl,p1,by decide,by decide,fun da zL zS zA da0 da1=>?_⟩;have p2:IsP (upd G1 p (.dK (pur zL zS zA))) p:=.put _ _ _;have u2:But p G1 (upd G1 p (.dK (pur zL zS zA))):=(But.refl p _).put _;have t2:=t1.trans u2;(try dsimp only);generalize upd G1 p (.dK (pur zL zS zA))=G2 at p2 u2 t2 ⊢;clear zL zS zA;have e_l':=u2 _ _ e_l n_l;obtain⟨v,h_l,mv⟩:=ZL (xs:=[.int 9,.int 61,.int 1000000,.int 10000000000000000000000000000]) da0 da1
   obtain⟨wd,rfl,w0,w1⟩:∃ wd,v=.int wd∧9≤wd∧wd≤10000000000000000000000000000:=by
     simp only[List.mem_cons,List.not_mem_nil,or_false]at mv;rcases mv with rfl|rfl|rfl|rfl<;>exact⟨_,rfl,by omega,by omega⟩
   refine .inl ⟨l,_,_,_,rfl,rfl,SqL.of e_l',h_l,?_⟩;(try unfold qJ);(try dsimp only);refine⟨_,rfl,_,_,rfl,rfl,⟨by decide,by decide,by decide⟩,p,_,rfl,p2,by decide,by decide,fun db zL zS zA db0 db1=>?_⟩;have p3:IsP (upd G2 p (.dK (pur zL zS zA))) p:=.put _ _ _;have u3:But p G2 (upd G2 p (.dK (pur zL zS zA))):=(But.refl p _).put _;have t3:=t2.trans u3;(try dsimp only);generalize upd G2 p (.dK (pur zL zS zA))=G3 at p3 u3 t3 ⊢;clear zL zS zA;have db2:db < 100000000:=db1;refine⟨_,_,rfl,rfl,⟨by decide,by decide,by decide⟩,?_⟩;(try dsimp only);rw[q20];refine⟨(qm (Nat.le_of_ble_eq_true rfl)),fun m f_m=>?_⟩;have e_m:(upd G3 m (.lst [.int 0,.int 0,.int 100000000000000000000])) m=some (.lst [.int 0,.int 0,.int 100000000000000000000]):=qb;have p4:IsP (upd G3 m (.lst [.int 0,.int 0,.int 100000000000000000000])) p:=p3.new _ f_m;have n_m:m≠p:=p3.ne f_m;have u4:Same G3 (upd G3 m (.lst [.int 0,.int 0,.int 100000000000000000000])):=Same.new _ f_m;have t4:=t3.same u4;(try dsimp only);generalize upd G3 m (.lst [.int 0,.int 0,.int 100000000000000000000])=G4 at e_m p4 u4 t4 ⊢;refine⟨_,rfl,p,_,rfl,p4,by decide,by decide,fun dc zL zS zA dc0 dc1=>?_⟩;have p5:IsP (upd G4 p (.dK (pur zL zS zA))) p:=.put _ _ _;have u5:But p G4 (upd G4 p (.dK (pur zL zS zA))):=(But.refl p _).put _;have t5:=t4.trans u5;(try dsimp only);generalize upd G4 p (.dK (pur zL zS zA))=G5 at p5 u5 t5 ⊢;clear zL zS zA;have e_m':=u5 _ _ e_m n_m;obtain⟨v,h_m,mv⟩:=ZL (xs:=[.int 0,.int 0,.int 100000000000000000000]) dc0 dc1
   obtain⟨fw,rfl⟩:∃ fw,v=.int fw:=by
     simp only[List.mem_cons,List.not_mem_nil,or_false]at mv;rcases mv with rfl|rfl|rfl<;>exact⟨_,rfl⟩
   refine .inl ⟨m,_,_,_,rfl,rfl,SqL.of e_m',h_m,_,_,rfl,rfl,.inl ⟨by omega,by omega⟩,?_⟩;(try unfold qJ);(try dsimp only);generalize db * fw=far;refine⟨_,rfl,p,_,rfl,p5,by decide,by decide,fun dd zL zS zA dd0 dd1=>?_⟩;have p6:IsP (upd G5 p (.dK (pur zL zS zA))) p:=.put _ _ _;have u6:But p G5 (upd G5 p (.dK (pur zL zS zA))):=(But.refl p _).put _;have t6:=t5.trans u6;(try dsimp only);generalize upd G5 p (.dK (pur zL zS zA))=G6 at p6 u6 t6 ⊢;clear zL zS zA;refine⟨_,rfl,p,_,rfl,p6,by decide,by decide,fun de zL zS zA de0 de1=>?_⟩;have p7:IsP (upd G6 p (.dK (pur zL zS zA))) p:=.put _ _ _;have u7:But p G6 (upd G6 p (.dK (pur zL zS zA))):=(But.refl p _).put _;have t7:=t6.trans u7;(try dsimp only);generalize upd G6 p (.dK (pur zL zS zA))=G7 at p7 u7 t7 ⊢;clear zL zS zA;refine .inl ⟨_,_,rfl,rfl,?_⟩;(try dsimp only);refine⟨(qm (Nat.le_of_ble_eq_true rfl)),fun o f_o=>?_⟩;have e_o:(upd G7 o (.lst [.int dd,.int (20+de)])) o=some (.lst [.int dd,.int (20+de)]):=qb;have p8:IsP (upd G7 o (.lst [.int dd,.int (20+de)])) p:=p7.new _ f_o;have n_o:o≠p:=p7.ne f_o;have u8:Same G7 (upd G7 o (.lst [.int dd,.int (20+de)])):=Same.new _ f_o;have t8:=t7.same u8;(try dsimp only);generalize upd G7 o (.lst [.int dd,.int (20+de)])=G8 at e_o p8 u8 t8 ⊢;refine⟨_,rfl,p,_,rfl,p8,by decide,by decide,fun df zL zS zA df0 df1=>?_⟩;have p9:IsP (upd G8 p (.dK (pur zL zS zA))) p:=.put _ _ _;have u9:But p G8 (upd G8 p (.dK (pur zL zS zA))):=(But.refl p _).put _;have t9:=t8.trans u9;(try dsimp only);generalize upd G8 p (.dK (pur zL zS zA))=G9 at p9 u9 t9 ⊢;clear zL zS zA;have e_o':=u9 _ _ e_o n_o;refine⟨_,_,rfl,rfl,⟨by decide,by decide⟩,?_⟩;have g0:0≤df / 4:=by omega
   have g1:df / 4 < (([.int dd,.int (20+de)]:List V).length:Int):=by show df / 4 < 2;omega
   obtain⟨v,h_o,mv⟩:=ZL (xs:=[.int dd,.int (20+de)]) g0 g1
   obtain⟨mn,rfl,k0,k1⟩:∃ mn,v=.int mn∧0≤mn∧mn≤33:=by
     simp only[List.mem_cons,List.not_mem_nil,or_false]at mv;rcases mv with rfl|rfl<;>exact⟨_,rfl,by omega,by omega⟩
   refine .inl ⟨o,_,_,_,rfl,rfl,SqL.of e_o',h_o,?_⟩;(try unfold qJ);(try dsimp only);refine⟨(qm (Nat.le_of_ble_eq_true rfl)),fun D f_D=>?_⟩;have e_D:(upd G9 D (.lst [])) D=some (.lst []):=qb;have p10:IsP (upd G9 D (.lst [])) p:=p9.new _ f_D;have n_D:D≠p:=p9.ne f_D;have u10:Same G9 (upd G9 D (.lst [])):=Same.new _ f_D;have t10:=t9.same u10;(try dsimp only);generalize upd G9 D (.lst [])=G10 at e_D p10 u10 t10 ⊢;have fH:H D=none:=t9.none f_D n_D;obtain⟨n,rfl⟩:=Int.eq_ofNat_of_zero_le k0;(try unfold qJ);(try dsimp only);refine⟨_,rfl,_,rfl,(by omega),(by omega),?_⟩;refine jk (lo:=0) (n:=n) (D:={ nx:=qcT (qcS 4) { nx:=fun _ H'=>Q .non H',rt:=Q },rt:=Q }) (fun i σ H2=>∃ (s5 s6 s7:Option V) (ys:List V) (ws:List (Int×Int)),σ=[some (.ref p),some (.int wd),some (.int far),some (.int n),some (.ref D),s5,s6,s7]∧But p H H2∧IsP H2 p∧H2 D=some (.lst ys)∧TupL pr H2 ys ws∧ws.length=i) ⟨none,none,none,[],[],rfl,t10,p10,e_D,.nil,rfl⟩ ?_ ?_
   · rintro i σ H2 hi ⟨s5,s6,s7,ys,ws,rfl,B,pB,hD,ty,lw⟩;clear p0 t0 p1 t1 p2 t2 p3 t3 p4 t4 p5 t5 p6 t6 p7 t7 p8 t8 p9 t9 p10 t10 u1 u2 u3 u4 u5 u6 u7 u8 u9 u10;clear e_l e_m e_o e_l' e_m' e_o' h_l h_m h_o;have p0:IsP H2 p:=pB;have t0:But p H2 H2:=But.refl p H2;refine⟨_,rfl,_,rfl,p,_,rfl,p0,by omega,by omega,fun xa zL zS zA xa0 xa1=>?_⟩;have p1:IsP (upd H2 p (.dK (pur zL zS zA))) p:=.put _ _ _;have u1:But p H2 (upd H2 p (.dK (pur zL zS zA))):=(But.refl p _).put _;have t1:=t0.trans u1;(try dsimp only);generalize upd H2 p (.dK (pur zL zS zA))=G1 at p1 u1 t1 ⊢;clear zL zS zA;refine⟨_,rfl,_,_,rfl,rfl,⟨by decide,by decide⟩,_,_,rfl,rfl,?_⟩;(try unfold qJ);(try dsimp only);refine⟨_,rfl,_,rfl,p,_,rfl,p1,by decide,by decide,fun xb zL zS zA xb0 xb1=>?_⟩;have p2:IsP (upd G1 p (.dK (pur zL zS zA))) p:=.put _ _ _;have u2:But p G1 (upd G1 p (.dK (pur zL zS zA))):=(But.refl p _).put _;have t2:=t1.trans u2;(try dsimp only);generalize upd G1 p (.dK (pur zL zS zA))=G2 at p2 u2 t2 ⊢;clear zL zS zA;refine⟨_,_,rfl,rfl,?_⟩;refine⟨_,rfl,_,rfl,p,_,rfl,p2,by omega,by omega,fun xc zL zS zA xc0 xc1=>?_⟩;have p3:IsP (upd G2 p (.dK (pur zL zS zA))) p:=.put _ _ _;have u3:But p G2 (upd G2 p (.dK (pur zL zS zA))):=(But.refl p _).put _;have t3:=t2.trans u3;(try dsimp only);generalize upd G2 p (.dK (pur zL zS zA))=G3 at p3 u3 t3 ⊢;clear zL zS zA;refine⟨_,_,rfl,rfl,⟨by decide,by decide⟩,_,_,rfl,rfl,?_⟩;(try dsimp only);refine⟨(qm (Nat.le_of_ble_eq_true rfl)),fun c f_c=>?_⟩;have e_c:(upd G3 c (.lst [.int (xb - 1),.int (xc / 4 - 1)])) c=some (.lst [.int (xb - 1),.int (xc / 4 - 1)]):=qb;have p4:IsP (upd G3 c (.lst [.int (xb - 1),.int (xc / 4 - 1)])) p:=p3.new _ f_c;have n_c:c≠p:=p3.ne f_c;have u4:Same G3 (upd G3 c (.lst [.int (xb - 1),.int (xc / 4 - 1)])):=Same.new _ f_c;have t4:=t3.same u4;(try dsimp only);generalize upd G3 c (.lst [.int (xb - 1),.int (xc / 4 - 1)])=G4 at e_c p4 u4 t4 ⊢;refine⟨_,rfl,p,_,rfl,p4,by decide,by decide,fun xd zL zS zA xd0 xd1=>?_⟩;have p5:IsP (upd G4 p (.dK (pur zL zS zA))) p:=.put _ _ _;have u5:But p G4 (upd G4 p (.dK (pur zL zS zA))):=(But.refl p _).put _;have t5:=t4.trans u5;(try dsimp only);generalize upd G4 p (.dK (pur zL zS zA))=G5 at p5 u5 t5 ⊢;clear zL zS zA;have e_c':=u5 _ _ e_c n_c;obtain⟨v,h_c,mv⟩:=ZL (xs:=[.int (xb - 1),.int (xc / 4 - 1)]) xd0 xd1
     obtain⟨up,rfl⟩:∃ up,v=.int up:=by
       simp only[List.mem_cons,List.not_mem_nil,or_false]at mv;rcases mv with rfl|rfl<;>exact⟨_,rfl⟩
     refine .inl ⟨c,_,_,_,rfl,rfl,SqL.of e_c',h_c,.inl ⟨_,_,rfl,rfl,?_⟩⟩;(try unfold qJ);(try dsimp only);have nD:D≠p:=pB.neL hD;have hD9:=t5 _ _ hD nD;have ty9:=TupL.purse ty pB t5;have ly:ys.length≤64:=by rw[ty.1];omega
     refine⟨_,rfl,.inl ⟨rfl,_,SqL.of hD9⟩,_,rfl,_,rfl,.inl ⟨_,_,rfl,rfl,_,rfl,_,rfl,.inl ⟨_,_,rfl,rfl,qm (Nat.le_of_ble_eq_true rfl),fun tt ft=>?_⟩⟩⟩;have St:=Same.new (.tup [.int (xa - wd / 2+far),.int (xa - wd / 2+up+far)]) ft;refine⟨D,_,_,rfl,rfl,St _ _ hD9,qj (by omega),?_⟩;refine⟨_,_,_,ys++[.ref tt],ws++[(xa - wd / 2+far,xa - wd / 2+up+far)],rfl,?_,?_,qb,?_,?_⟩
     · exact((B.trans t5).same St).putN fH _
     · obtain⟨z1,z2,z3,z4⟩:=p5.new (.tup [.int (xa - wd / 2+far),.int (xa - wd / 2+up+far)]) ft;exact⟨z1,z2,z3,by rw[qi nD.symm];exact z4⟩
     · exact((ty9.same St).snoc (p:=(xa - wd / 2+far,xa - wd / 2+up+far)) qb).put (St _ _ hD9)
     · rw[List.length_append,lw];rfl
   · rintro σ H2 ⟨s5,s6,s7,ys,ws,rfl,B,pB,hD,ty,lw⟩;exact⟨_,rfl,kk D ws H2 fH B pB ⟨ys,hD,ty⟩ (by omega)⟩
end
theorem qaU {A B:List (Int×Int)} (c:qA A) (s:B.Sublist A):qA B:=⟨fun w hw=>c.1 w (s.subset hw),c.2.sublist s⟩
theorem qcn {α:Type} (l:List α) (n:Nat):(l.take n++l.drop (n+1)).Sublist l:=by
 have h:(l.take n++l.drop (n+1)).Sublist (l.take n++l.drop n):=List.Sublist.append (List.Sublist.refl _) (by rw[← List.drop_drop];exact List.drop_sublist _ _)
 rwa [List.take_append_drop]at h
theorem JZ {H:Hp}{zs:List V}{ws:List (Int×Int)} (h:TupL pr H zs ws) (n:Nat):TupL pr H (zs.drop n) (ws.drop n):=by
 refine⟨by rw[List.length_drop,List.length_drop,h.1],fun i z p e1 e2=>?_⟩;rw[List.getElem?_drop]at e1 e2;exact h.2 _ z p e1 e2
theorem IsP.same {H H':Hp}{p:Addr} (h:IsP H p) (s:Same H H'):IsP H' p:=by
 obtain⟨L,S,A,e⟩:=h;exact⟨L,S,A,s _ _ e⟩
section
variable {P:Program}{w:World}{K:Frag}{mg:Str->Option Value}{base:Heap}
theorem qcC {a:Ad} (T:Txt K mg a):qV P w K mg base CX0 3 a.f_u a.fd_u ["_law_purse_here"] J7:=by
 have G_k:=qbk (P:=P) (w:=w) (base:=base) T;have G_a:=Jq (P:=P) (w:=w) (base:=base) T;have G_j:=ZE (P:=P) (w:=w) (base:=base) T;refine T.d_u.F.ok sc_Ltwo (fun vs H Q E h=>?_) (fun cdv A outer s H vs Q E hr h=>?_)
 · obtain⟨p,rfl,hp,kk⟩:=h;rfl
 · obtain⟨p,rfl,hp,kk⟩:=h;have hU:=hr.units;have h_k:Room (1) _:=hr.mono (by decide);have h_a:Room (1) _:=hr.mono (by decide);have h_j:Room (2) _:=hr.mono (by decide)
   refine⟨_,(qe (qx (i:=1) sc_Ltwo.nd rfl (Or.inl rfl) (qh G_k h_k rfl T.d_k.m T.d_k.k T.d_k.b .nil qB (qa (qh G_j h_j rfl T.d_j.m T.d_j.k T.d_j.b .nil qB (qa (pv 0) qc)) qc)))
     (qe (qx (i:=2) sc_Ltwo.nd rfl (Or.inl rfl) (qh G_a h_a rfl T.d_a.m T.d_a.k T.d_a.b .nil qB (qa (pv 0) (qa qd qc))))
     (qe (zi (qv (uEq hU) (pv 2) qd (qD _))
       (qg (qy (Qb (qa (pv 1) (qa (Qc (r:=qdB K) zc (by rfl) T.n_list qP (qa (pv 1) qc)) qc)))))
       qI)
     (qe (zi (qv (uEq hU) (pv 2) qd (qD _))
       (qe (qx (i:=3) sc_Ltwo.nd rfl (Or.inl rfl) (qh G_a h_a rfl T.d_a.m T.d_a.k T.d_a.b .nil qB (qa (pv 0) (qa (qu Qz (qp zk (by rfl) T.n_len q9 (qa (pv 1) qc)) qd) qc))))
       (qg (qy (Qb (qa (pv 1) (qa (qu Qz (Jo uSl (pv 1) qan (qam (pv 3))) (Jo uSl (pv 1) (qam (qu Qz (pv 3) qd)) qan)) qc))))))
       qI)
     (qg (qy (Qb (qa (pv 1) (qa (qh G_k h_k rfl T.d_k.m T.d_k.k T.d_k.b .nil qB (qa (qh G_j h_j rfl T.d_j.m T.d_j.k T.d_j.b .nil qB (qa (pv 0) qc)) qc)) qc))))))))),?_⟩
   try dsimp only [Qx,Cx.nox]
   refine⟨_,rfl,p,rfl,hp,fun q0 ws0 G1 fq0 u1 p1 R1 lw=>?_⟩;refine⟨q0,ws0,rfl,R1,(by omega),fun q A G2 fq u2 Rq2 cA lr=>?_⟩;have t2:=u1.same u2;have p2:=p1.same u2;have lA:A.length≤33:=by omega
   try unfold qJ
   try dsimp only
   refine⟨_,rfl,p,_,rfl,p2,by decide,by decide,fun d zL zS zA d0 d1=>?_⟩;have p3:IsP (upd G2 p (.dK (pur zL zS zA))) p:=.put _ _ _;have u3:But p G2 (upd G2 p (.dK (pur zL zS zA))):=(But.refl p _).put _;(try unfold qJ);(try dsimp only);generalize upd G2 p (.dK (pur zL zS zA))=G3 at p3 u3 ⊢;clear zL zS zA;have t3:=t2.trans u3;have Rq3:=Rq2.purse p2 u3;obtain⟨zs,hq,tp⟩:=id Rq3;have lz:zs.length=A.length:=tp.1;refine⟨_,rfl,.inl ⟨rfl,_,rfl,jw (fun g=>?_) (fun g=>?_)⟩⟩
   · refine⟨_,rfl,_,rfl,q,zs,rfl,.inl (SqL.of hq),fun h fh=>?_⟩;have Z1:=Same.new (.lst zs) fh;refine⟨qm (Nat.le_of_ble_eq_true rfl),fun t ft=>?_⟩;have Z2:=Same.new (.tup [.ref q,.ref h]) ft;exact kk t q h A A _ ((t3.same Z1).same Z2) qb ((Rq3.same Z1).same Z2) ⟨zs,Z2 _ _ qb,(tp.same Z1).same Z2⟩ cA cA lA lA
   refine⟨_,rfl,.inl ⟨rfl,_,rfl,jw (fun g2=>?_) (fun g2=>?_)⟩⟩
   · refine⟨_,rfl,_,rfl,_,_,rfl,.inl ⟨_,SqL.of hq,rfl⟩,.inl ⟨_,_,rfl,rfl,p,_,rfl,p3,by omega,by omega,fun da zL zS zA da0 da1=>?_⟩⟩;have p4:IsP (upd G3 p (.dK (pur zL zS zA))) p:=.put _ _ _;have u4:But p G3 (upd G3 p (.dK (pur zL zS zA))):=(But.refl p _).put _;(try unfold qJ);(try dsimp only);generalize upd G3 p (.dK (pur zL zS zA))=G4 at p4 u4 ⊢;clear zL zS zA;have t4:=t3.trans u4;obtain⟨n,rfl⟩:=Int.eq_ofNat_of_zero_le da0;have nq:q≠p:=p3.neL hq;have hq4:=u4 _ _ hq nq;have tp4:=TupL.purse tp p3 u4;refine⟨_,rfl,_,rfl,_,rfl,_,rfl,.inl ⟨q,_,rfl,SqL.of hq4,fun ca fca=>?_⟩⟩;rw[qbD zs n _ rfl];have Z1:=Same.new (.lst (zs.take n)) fca;refine⟨_,rfl,_,rfl,.inl ⟨_,_,rfl,rfl,_,rfl,.inl ⟨q,_,rfl,SqL.of (Z1 _ _ hq4),fun cb fcb=>?_⟩⟩⟩;rw[qbE zs (n+1) ((n:Int)+1) (by omega)];have Z2:=Same.new (.lst (zs.drop (n+1))) fcb;refine .inr (.inl ⟨ca,cb,_,_,rfl,rfl,Z2 _ _ qb,qb,(by rw[List.length_take,List.length_drop];exact Nat.le_of_lt (qj (by omega))),fun cc fcc=>?_⟩);have Z3:=Same.new (.lst (zs.take n++zs.drop (n+1))) fcc;refine⟨qm (Nat.le_of_ble_eq_true rfl),fun t ft=>?_⟩;have Z4:=Same.new (.tup [.ref q,.ref cc]) ft;have Z:=(((Z1.trans Z2).trans Z3).trans Z4)
     have sub:=qcn A n;exact kk t q cc A (A.take n++A.drop (n+1)) _ (t4.same Z) qb ((Rq3.purse p3 u4).same Z) ⟨_,Z4 _ _ qb,(Qj (jY tp4 n) (JZ tp4 (n+1))).same Z⟩ cA (qaU cA sub) lA (Nat.le_trans sub.length_le lA)
   refine⟨_,rfl,_,rfl,p,rfl,p3,fun q1 ws1 G4 fq1 u4 p4 R4 lw4=>?_⟩;refine⟨q1,ws1,rfl,R4,(by omega),fun q2 B G5 fq2 u5 Rq5 cB lr5=>?_⟩;refine⟨qm (Nat.le_of_ble_eq_true rfl),fun t ft=>?_⟩;have Z1:=Same.new (.tup [.ref q,.ref q2]) ft;exact kk t q q2 A B _ (((t3.trans u4).same u5).same Z1) qb (((Rq3.purse p3 u4).same u5).same Z1) (Rq5.same Z1) cA cB lA (by omega)
end
inductive RsL (H:Hp):List V->List (List (Int×Int))->Prop
 | nil:RsL H [] []
 | cons {p:Addr}{rs:List (Int×Int)}{zs:List V}{rss:List (List (Int×Int))}:Rs H p rs->RsL H zs rss->RsL H (.ref p::zs) (rs::rss)
theorem RsL.same {H H':Hp}{zs:List V}{rss:List (List (Int×Int))} (h:RsL H zs rss) (s:Same H H'):RsL H' zs rss:=by
 induction h with
 | nil=>exact .nil
 | cons r _ ih=>exact .cons (r.same s) ih
theorem RsL.snoc {H:Hp}{zs:List V}{rss:List (List (Int×Int))}{p:Addr}{rs:List (Int×Int)} (h:RsL H zs rss) (r:Rs H p rs):RsL H (zs++[.ref p]) (rss++[rs]):=by
 induction h with
 | nil=>exact .cons r .nil
 | cons r' _ ih=>exact .cons r' ih
theorem RsL.len {H:Hp}{zs:List V}{rss:List (List (Int×Int))} (h:RsL H zs rss):zs.length=rss.length:=by
 induction h with
 | nil=>rfl
 | cons _ _ ih=>rw[List.length_cons,List.length_cons,ih]
abbrev lD (rs:List (Int×Int)):PyData:=.list (rs.map rD)
theorem Jf {H:Hp}{zs:List V}{rss:List (List (Int×Int))} (h:RsL H zs rss):DVs H zs (rss.map lD)∧PyData.canLayAll0 (rss.map lD)=true∧PyData.depthAll (rss.map lD)≤3:=by
 induction h with
 | nil=>exact⟨.nil,rfl,by simp[PyData.depthAll]⟩
 | cons r _ ih =>
   obtain⟨h1,h2,h3⟩:=ih;obtain⟨zs,hp,tp⟩:=r;obtain⟨d1,d2,d3⟩:=QO tp;refine⟨.cons (.lst (.inl hp) d1) h1,?_,?_⟩
   · rw[List.map_cons];simp only[PyData.canLayAll0,PyData.canLay0,h2,d2];rfl
   · rw[List.map_cons];simp only[PyData.depthAll,PyData.depth];omega
theorem qbP {rss:List (List (Int×Int))} (h1:PyData.canLayAll0 (rss.map lD)=true) (h2:PyData.depthAll (rss.map lD)≤3):PyData.canLay0 (.list (rss.map lD))=true∧SeqAt.shaped (.list (rss.map lD))=true:=by
 have cl:PyData.canLay0 (.list (rss.map lD))=true:=by simp only[PyData.canLay0,h1]
 refine⟨cl,?_⟩;unfold SeqAt.shaped;rw[cl,Bool.true_and];refine decide_eq_true ?_;simp only[PyData.depth];omega
theorem qdv {H:Hp}{a b:Addr}{zs ys:List V}{rss:List (List (Int×Int))}{Q:VK} (ha:H a=some (.lst zs)) (h1:RsL H zs rss) (hb:H b=some (.lst ys)) (h2:RsL H ys rss) (q:Q (.bl true) H):qek (.ref a) (.ref b) H Q:=by
 obtain⟨d1,d2,d3⟩:=Jf h1;obtain⟨cl,sh⟩:=qbP d2 d3;refine .inr ⟨_,_,.lst (.inl ha) d1,.lst (.inl hb) (Jf h2).1,sh,sh,?_⟩;rw[SeqAt.eqv_refl _ cl];exact q
theorem qb4 {H:Hp}{a b:Addr}{zs ys:List V}{rss:List (List (Int×Int))}{Q:VK} (ha:H a=some (.lst zs)) (h1:RsL H zs rss) (hb:H b=some (.lst ys)) (h2:RsL H ys rss) (q:Q (.bl false) H):qc7 (.ref a) (.ref b) H Q:=by
 obtain⟨d1,d2,d3⟩:=Jf h1;obtain⟨cl,sh⟩:=qbP d2 d3;refine .inr ⟨_,_,.lst (.inl ha) d1,.lst (.inl hb) (Jf h2).1,sh,sh,?_⟩;rw[SeqAt.eqv_refl _ cl];exact q
theorem qdl {H:Hp}{a b:Addr}{x y z:Bool}{Q:VK} (ha:H a=some (.lst [.bl x,.bl y,.bl z])) (hb:H b=some (.lst [.bl x,.bl y,.bl z])) (q:Q (.bl false) H):qc7 (.ref a) (.ref b) H Q:=by
 refine .inr ⟨_,_,.lst (.inl ha) (.cons (.bl _) (.cons (.bl _) (.cons (.bl _) .nil))),.lst (.inl hb) (.cons (.bl _) (.cons (.bl _) (.cons (.bl _) .nil))),rfl,rfl,?_⟩;rw[SeqAt.eqv_refl _ rfl];exact q
def B3 (f g h:Addr) (G H:Hp):Prop:=∀ c o,G c=some o->c≠f->c≠g->c≠h->H c=some o
def IsL (H:Hp) (f:Addr) (n:Nat):Prop:=∃ ys,H f=some (.lst ys)∧ys.length≤n
theorem IsL.neT {H:Hp}{f t:Addr}{n:Nat}{xs:List V} (h:IsL H f n) (ht:H t=some (.tup xs)):t≠f:=by
 obtain⟨ys,hf,_⟩:=h;exact je ht hf (by intro z;cases z)
theorem Rs.b3 {f g h:Addr}{G H:Hp}{n m k:Nat}{a:Addr}{rs:List (Int×Int)} (r:Rs G a rs) (b:B3 f g h G H) (lf:IsL G f n) (lg:IsL G g m) (lh:IsL G h k) (nf:a≠f) (ng:a≠g) (nh:a≠h):Rs H a rs:=by
 obtain⟨zs,ha,ta⟩:=r
 exact⟨zs,b _ _ ha nf ng nh,ta.1,fun i z p e1 e2=>by
   obtain⟨t,e,ht⟩:=ta.2 i z p e1 e2
   exact⟨t,e,b _ _ ht (lf.neT ht) (lg.neT ht) (lh.neT ht)⟩⟩
theorem RsL.put {H:Hp}{zs ys:List V}{rss:List (List (Int×Int))}{C:Addr}{xs:List V} (h:RsL H zs rss) (hc:H C=some (.lst ys)) (ne:∀ k,V.ref k∈zs->k≠C):RsL (upd H C (.lst xs)) zs rss:=by
 induction h with
 | nil=>exact .nil
 | cons r _ ih =>
   obtain⟨za,ha,ta⟩:=r;exact .cons ⟨za,by rw[qi (ne _ List.mem_cons_self)];exact ha,ta.put hc⟩ (ih fun k hk=>ne k (List.mem_cons_of_mem _ hk))
theorem RsL.b3 {f g h:Addr}{G H:Hp}{n m k:Nat}{zs:List V}{rss:List (List (Int×Int))} (r:RsL G zs rss) (b:B3 f g h G H) (lf:IsL G f n) (lg:IsL G g m) (lh:IsL G h k) (ne:∀ k,V.ref k∈zs->k≠f∧k≠g∧k≠h):RsL H zs rss:=by
 induction r with
 | nil=>exact .nil
 | cons r _ ih =>
   obtain⟨n1,n2,n3⟩:=ne _ List.mem_cons_self;exact .cons (r.b3 b lf lg lh n1 n2 n3) (ih fun k hk=>ne k (List.mem_cons_of_mem _ hk))
theorem IsL.up {H:Hp}{g f v:Addr}{n:Nat}{o:HO}{ys:List V} (h:IsL H g n) (fv:H v=none) (ly:ys.length≤n+1):IsL (upd (upd H v o) f (.lst ys)) g (n+1):=by
 by_cases e:g=f
 · subst e;exact⟨ys,qb,ly⟩
 · obtain⟨zs,hz,lz⟩:=h;exact⟨zs,by rw[qi e,qi (qf hz fv)];exact hz,by omega⟩
theorem qcG {A B r:List (Int×Int)}{n:Int} (m:Mem r n↔Mem A n∨Mem B n):Qm r n=(Qm A n || Qm B n):=by
 rw[Bool.eq_iff_iff,Bool.or_eq_true,qS,qS,qS];exact m
theorem qcH {A B r:List (Int×Int)}{n:Int} (m:Mem r n↔Mem A n∧Mem B n):Qm r n=(Qm A n && Qm B n):=by
 rw[Bool.eq_iff_iff,Bool.and_eq_true,qS,qS,qS];exact m
theorem qbq {A B r:List (Int×Int)}{n:Int} (m:Mem r n↔Mem A n∧¬ Mem B n):Qm r n=(Qm A n && !(Qm B n)):=by
 rw[Bool.eq_iff_iff,Bool.and_eq_true,qS,qS,m,Bool.not_eq_true',← Bool.not_eq_true,qS]
section
variable {P:Program}{w:World}{K:Frag}{mg:Str->Option Value}{base:Heap}
theorem qar {a:Ad} (T:Txt K mg a):qV P w K mg base CX0 6 a.f_g a.fd_g ["_law_one","_law_other"] ZV:=by
 have G_s:=qat (P:=P) (w:=w) (base:=base) T;have G_d:=jd (P:=P) (w:=w) (base:=base) T;have G_b:=jI (P:=P) (w:=w) (base:=base) T;have G_e:=qap (P:=P) (w:=w) (base:=base) T;have G_f:=JN (P:=P) (w:=w) (base:=base) T;have G_t:=qaq (P:=P) (w:=w) (base:=base) T;refine T.d_g.F.ok sc_Lright (fun vs H Q E h=>?_) (fun cdv A outer s H vs Q E hr h=>?_)
 · obtain⟨p,q,A,B,rfl,Rp,Rq,cA,cB,lA,lB,kk⟩:=h;rfl
 · obtain⟨p,q,A,B,rfl,Rp,Rq,cA,cB,lA,lB,kk⟩:=h;have hU:=hr.units;have h_s:Room (1) _:=hr.mono (by decide);have h_d:Room (5) _:=hr.mono (by decide);have h_b:Room (1) _:=hr.mono (by decide);have h_e:Room (5) _:=hr.mono (by decide);have h_f:Room (1) _:=hr.mono (by decide);have h_t:Room (1) _:=hr.mono (by decide)
   refine⟨_,(@qe _ _ _ _ _ (by exact(@qx _ _ 2 _ _ _ _ (by exact sc_Lright.nd) (by rfl) (by exact Or.inl rfl) (by exact(@qH _ _ _ _ (by exact(@qa _ _ _ _ _ (by exact(Qc (r:=qdB K) zc (by rfl) T.n_list qP (qa (pv 0) qc))) (by exact(@qa _ _ _ _ _ (by exact(Qc (r:=qdB K) zc (by rfl) T.n_list qP (qa (pv 1) qc))) (by exact(@qc _)) (by rfl))) (by rfl))))) (by rfl) (by exact .inl rfl)))
     (by exact(@qe _ _ _ _ _ (by exact(@qx _ _ 3 _ _ _ _ (by exact sc_Lright.nd) (by rfl) (by exact Or.inl rfl) (by exact(@qH _ _ _ _ (by exact(@qa _ _ _ _ _ (by exact(qh G_d h_d rfl T.d_d.m T.d_d.k T.d_d.b .nil qB (qa (qw (r:=rIx K) qk (pv 2) qd (fun _ _=>rfl)) (qa (qw (r:=rIx K) qk (pv 2) qd (fun _ _=>rfl)) qc)))) (by exact(@qa _ _ _ _ _ (by exact(qh G_b h_b rfl T.d_b.m T.d_b.k T.d_b.b .nil qB (qa (qw (r:=rIx K) qk (pv 2) qd (fun _ _=>rfl)) (qa (qw (r:=rIx K) qk (pv 2) qd (fun _ _=>rfl)) qc)))) (by exact(@qa _ _ _ _ _ (by exact(qh G_e h_e rfl T.d_e.m T.d_e.k T.d_e.b .nil qB (qa (qw (r:=rIx K) qk (pv 2) qd (fun _ _=>rfl)) (qa (qw (r:=rIx K) qk (pv 2) qd (fun _ _=>rfl)) qc)))) (by exact(@qc _)) (by rfl))) (by rfl))) (by rfl))))) (by rfl) (by exact .inl rfl)))
     (by exact(qe (zi (PW.pt (Z7 (qv (uNe hU) (zE rfl (CompOk.def ["_law_some"] [none]) (qM (pv 3)) (fun _ _ _ _ _=>(qt (i:=0) (show List.Nodup (["_law_some"]:List Str) by decide +kernel) rfl (Or.inl rfl))) (fun _ _ _ _ _=>(QQ (zR (zQ (qh G_t h_t rfl T.d_t.m T.d_t.k T.d_t.b .nil qB (qa (pv 0) qc)))))) (fun _ _ _ _ _=>(pv 0))) (qH qc) (qD _)) (Zg (qv (uNe hU) (pv 2) (@qH _ _ _ _ (by exact(@qa _ _ _ _ _ (by exact(pv 0)) (by exact(@qa _ _ _ _ _ (by exact(pv 1)) (by exact(@qc _)) (by rfl))) (by rfl)))) (qD _)))))
       (qg (qy QR))
       qI)
     (qe (Qa PassesOwn.never rfl (qM (qh G_s h_s rfl T.d_s.m T.d_s.k T.d_s.b .nil qB (qa (qu Qz (qu Qz (qu Qz (qu Qz (pv 0) (pv 1)) (qw (r:=rIx K) qk (pv 3) qd (fun _ _=>rfl))) (qw (r:=rIx K) qk (pv 3) qd (fun _ _=>rfl))) (qw (r:=rIx K) qk (pv 3) qd (fun _ _=>rfl))) qc))) (qt (i:=4) (sc_Lright.nd) rfl (Or.inr rfl))
       (qe (qx (i:=5) sc_Lright.nd rfl (Or.inl rfl) (qh G_f h_f rfl T.d_f.m T.d_f.k T.d_f.b .nil qB (qa (pv 0) (qa (pv 4) qc))))
       (qe (qx (i:=6) sc_Lright.nd rfl (Or.inl rfl) (qh G_f h_f rfl T.d_f.m T.d_f.k T.d_f.b .nil qB (qa (pv 1) (qa (pv 4) qc))))
       (@qe _ _ _ _ _ (by exact(@qx _ _ 7 _ _ _ _ (by exact sc_Lright.nd) (by rfl) (by exact Or.inl rfl) (by exact(@qH _ _ _ _ (by exact(@qa _ _ _ _ _ (by exact(qdT (pv 5) (ja (pv 6)))) (by exact(@qa _ _ _ _ _ (by exact(Zi (pv 5) (ja (pv 6)))) (by exact(@qa _ _ _ _ _ (by exact(Zi (pv 5) (ja (qb1 (pv 6))))) (by exact(@qc _)) (by rfl))) (by rfl))) (by rfl))))) (by rfl) (by exact .inl rfl)))
       (by exact(qg (zi (qv (uNe hU) (zE rfl (CompOk.def ["_law_some","_law_number"] [none,some 4]) (qM (pv 3)) (fun _ _ _ _ _=>(qt (i:=0) (show List.Nodup (["_law_some","_law_number"]:List Str) by decide +kernel) rfl (Or.inl rfl))) (fun _ _ _ _ _=>Zz) (fun _ _ _ _ _=>(qh G_f h_f rfl T.d_f.m T.d_f.k T.d_f.b .nil qB (qa (pv 0) (qa (pv 1) qc))))) (pv 7) (qD _))
         (qg (qy QR))
         qI)))))))
     (qe (qcw (i:=8) sc_Lright.nd rfl (Or.inl rfl) rfl (CompOk.def ["_law_some"] [none]) (qM (pv 3)) (fun _ _ _ _ _=>(qt (i:=0) (show List.Nodup (["_law_some"]:List Str) by decide +kernel) rfl (Or.inl rfl))) (fun _ _ _ _ _=>Zz) (fun _ _ _ _ _=>(Qc (r:=qdB K) zc (by rfl) T.n_list qP (qa (pv 0) qc))))
     (qe (Qa PassesOwn.never rfl (qM (pv 3)) (qt (i:=9) (sc_Lright.nd) rfl (Or.inl rfl))
       (qg (Qk (qao PySem.F.plainAttrs_list PySem.F.slot_list_append PySem.F.type_list_append qX (pv 9) (qa (Qb (qa qd (qa qd qc))) qc)))))
     (qe (zi (qv (uNe hU) (pv 2) (@qH _ _ _ _ (by exact(@qa _ _ _ _ _ (by exact(pv 0)) (by exact(@qa _ _ _ _ _ (by exact(pv 1)) (by exact(@qc _)) (by rfl))) (by rfl)))) (qD _))
       (qg (qy QR))
       qI)
     (qg (qy (jG (uEq hU) (@qH _ _ _ _ (by exact(@qa _ _ _ _ _ (by exact(qh G_d h_d rfl T.d_d.m T.d_d.k T.d_d.b .nil qB (qa (pv 0) (qa (pv 1) qc)))) (by exact(@qa _ _ _ _ _ (by exact(qh G_b h_b rfl T.d_b.m T.d_b.k T.d_b.b .nil qB (qa (pv 0) (qa (pv 1) qc)))) (by exact(@qa _ _ _ _ _ (by exact(qh G_e h_e rfl T.d_e.m T.d_e.k T.d_e.b .nil qB (qa (pv 0) (qa (pv 1) qc)))) (by exact(@qc _)) (by rfl))) (by rfl))) (by rfl)))) (pv 8) (qD _))))))))))))),?_⟩
   try dsimp only [Qx,Cx.nox]
   obtain⟨zp,hp,tp⟩:=id Rp;obtain⟨zq,hq,tq⟩:=id Rq;refine⟨_,rfl,p,zp,rfl,.inl (SqL.of hp),fun h0 f_h0=>?_⟩;have S1:=Same.new (.lst zp) f_h0;have e_h0:(upd H h0 (.lst zp)) h0=some (.lst zp):=qb;(try unfold qJ);(try dsimp only);generalize upd H h0 (.lst zp)=G1 at S1 e_h0 ⊢;have Rh0:Rs G1 h0 A:=⟨zp,e_h0,tp.same S1⟩
   refine⟨_,rfl,q,zq,rfl,.inl (SqL.of (S1 _ _ hq)),fun h1 f_h1=>?_⟩;have S2:=Same.new (.lst zq) f_h1;have e_h1:(upd G1 h1 (.lst zq)) h1=some (.lst zq):=qb;(try unfold qJ);(try dsimp only);generalize upd G1 h1 (.lst zq)=G2 at S2 e_h1 ⊢;have Rh1:Rs G2 h1 B:=⟨zq,e_h1,(tq.same S1).same S2⟩
   refine⟨qm (Nat.le_of_ble_eq_true rfl),fun hd f_hd=>?_⟩;have S3:=Same.new (.lst [.ref h0,.ref h1]) f_hd;have e_hd:(upd G2 hd (.lst [.ref h0,.ref h1])) hd=some (.lst [.ref h0,.ref h1]):=qb;(try unfold qJ);(try dsimp only);generalize upd G2 hd (.lst [.ref h0,.ref h1])=G3 at S3 e_hd ⊢;have U3:Same H G3:=(S1.trans S2).trans S3;replace Rh0:=(Rh0.same S2).same S3;replace Rh1:=Rh1.same S3;clear S1 S2 S3 e_h0 e_h1;refine⟨_,rfl,.inl ⟨hd,_,_,_,rfl,rfl,SqL.of e_hd,rfl,_,rfl,.inl ⟨hd,_,_,_,rfl,rfl,SqL.of e_hd,rfl,h0,h1,A,B,rfl,Rh0,Rh1,cA,cB,lA,lB,fun f0 r0 G4 ff0 S4 R0 k0 l0 m0=>?_⟩⟩⟩;refine⟨_,rfl,.inl ⟨hd,_,_,_,rfl,rfl,SqL.of (S4 _ _ e_hd),rfl,_,rfl,.inl ⟨hd,_,_,_,rfl,rfl,SqL.of (S4 _ _ e_hd),rfl,h0,h1,A,B,rfl,Rh0.same S4,Rh1.same S4,cA,cB,by omega,fun f1 r1 G5 ff1 S5 R1 k1 l1 m1=>?_⟩⟩⟩;refine⟨_,rfl,.inl ⟨hd,_,_,_,rfl,rfl,SqL.of ((S4.trans S5) _ _ e_hd),rfl,_,rfl,.inl ⟨hd,_,_,_,rfl,rfl,SqL.of ((S4.trans S5) _ _ e_hd),rfl,h0,h1,A,B,rfl,Rh0.same (S4.trans S5),Rh1.same (S4.trans S5),cA,cB,lA,lB,fun f2 r2 G6 ff2 S6 R2 k2 l2 m2=>?_⟩⟩⟩;have n01:f0≠f1:=by obtain⟨_,e,_⟩:=R0;exact qf e ff1
   have n02:f0≠f2:=by obtain⟨_,e,_⟩:=R0.same S5;exact qf e ff2
   have n12:f1≠f2:=by obtain⟨_,e,_⟩:=R1;exact qf e ff2
   refine⟨qm (Nat.le_of_ble_eq_true rfl),fun fd f_fd=>?_⟩;have S7:=Same.new (.lst [.ref f0,.ref f1,.ref f2]) f_fd;have e_fd:(upd G6 fd (.lst [.ref f0,.ref f1,.ref f2])) fd=some (.lst [.ref f0,.ref f1,.ref f2]):=qb;(try unfold qJ);(try dsimp only);generalize upd G6 fd (.lst [.ref f0,.ref f1,.ref f2])=G7 at S7 e_fd ⊢;have R0g:=((R0.same S5).same S6).same S7;have R1g:=(R1.same S6).same S7;have R2g:=R2.same S7;have V7:Same G3 G7:=((S4.trans S5).trans S6).trans S7;have fr0:G3 f0=none:=ff0;have fr1:G3 f1=none:=S4.none ff1;have fr2:G3 f2=none:=(S4.trans S5).none ff2;have U7:Same H G7:=U3.trans V7;clear R0 R1 R2 S4 S5 S6 S7 ff0 ff1 ff2;refine⟨_,rfl,fd,rfl,⟨_,SqL.of e_fd⟩,fun C fC=>?_⟩;refine qQ (K:=K) (a:=fd) (xs:=[.ref f0,.ref f1,.ref f2]) (D:=C) (fun i σ H2=>∃ c0:Option V,σ=[c0]∧Same G7 H2∧H2 C=some (.lst [])) ⟨none,rfl,Same.new _ fC,qb⟩ (fun i σ H2 _ ⟨_,_,S',_⟩=>SqL.of (S' _ _ e_fd)) ?_ ?_
   · rintro i z σ H2 hz ⟨c0,rfl,S',hC⟩
     have three:∃ (f:Addr) (r:List (Int×Int)),z=.ref f∧Rs G7 f r∧qA r∧r.length≤80∧[r0,r1,r2][i]?=some r:=by
       match i,hz with
       | 0,hz=>cases hz;exact⟨f0,r0,rfl,R0g,k0,by omega,rfl⟩
       | 1,hz=>cases hz;exact⟨f1,r1,rfl,R1g,k1,by omega,rfl⟩
       | 2,hz=>cases hz;exact⟨f2,r2,rfl,R2g,k2,by omega,rfl⟩
       | i+3,hz=>cases hz
     obtain⟨f,r,rfl,Rf,cf,lf,_⟩:=three;exact⟨_,rfl,f,r,rfl,Rf.same S',cf,lf,fun H3 S3'=>⟨true,rfl,Qn rfl ⟨_,rfl,S'.trans S3',S3' _ _ hC⟩⟩⟩
   rintro σ H2 ⟨c0,rfl,S8,hC⟩;refine⟨qm (Nat.le_of_ble_eq_true rfl),fun nl fnl=>jf (ws:=[]) ⟨[],Same.new _ fnl _ _ hC,.nil⟩ qb ⟨_,rfl,ZG ?_⟩⟩;have W9:Same G7 (upd H2 nl (.lst [])):=S8.then (.lst []) fnl
   try unfold qJ
   try dsimp only
   generalize upd H2 nl (.lst [])=G9 at W9 ⊢;clear hC S8 fnl fC;refine⟨_,rfl,_,rfl,_,rfl,qm (Nat.le_of_ble_eq_true rfl),fun cm f_cm=>?_⟩;have S10:=Same.new (.lst [.ref p,.ref q]) f_cm;have e_cm:(upd G9 cm (.lst [.ref p,.ref q])) cm=some (.lst [.ref p,.ref q]):=qb;(try unfold qJ);(try dsimp only);generalize upd G9 cm (.lst [.ref p,.ref q])=G10 at S10 e_cm ⊢;have W10:Same G7 G10:=W9.trans S10;have U10:Same H G10:=U7.trans W10;have X10:Same G3 G10:=V7.trans W10;refine qb4 (X10 _ _ e_hd) (.cons (Rh0.same X10) (.cons (Rh1.same X10) .nil)) e_cm (.cons (Rp.same U10) (.cons (Rq.same U10) .nil)) ⟨_,rfl,ZG ?_⟩;clear S10 W9 e_cm;(try unfold qJ);(try dsimp only);refine zg (t:=qdI _ _ _) (fun σ' H'=>∃ s4 s5 s6 s7:Option V,σ'=[some (.ref p),some (.ref q),some (.ref hd),some (.ref fd),s4,s5,s6,s7,none,none]∧Same G10 H') (fun N hN=>?_) ?_
   · refine⟨_,rfl,_,rfl,.inr (.inl ⟨p,q,_,_,rfl,rfl,U10 _ _ hp,U10 _ _ hq,(by rw[tp.1,tq.1];exact Nat.le_of_lt (qj (by omega))),fun x1 f_x1=>?_⟩)⟩;have S11:=Same.new (.lst (zp++zq)) f_x1;have e_x1:(upd G10 x1 (.lst (zp++zq))) x1=some (.lst (zp++zq)):=qb;(try unfold qJ);(try dsimp only);generalize upd G10 x1 (.lst (zp++zq))=G11 at S11 e_x1 ⊢;have T1:TupL pr G11 (zp++zq) (A++B):=(Qj (tp.same U10) (tq.same U10)).same S11;obtain⟨y0,hy0,ty0⟩:=((R0g).same W10).same S11;have ly0:y0.length≤67:=by rw[ty0.1];omega
     refine⟨_,rfl,.inl ⟨fd,_,_,_,rfl,rfl,SqL.of (S11 _ _ (W10 _ _ e_fd)),rfl,.inr (.inl ⟨x1,f0,_,_,rfl,rfl,e_x1,hy0,(by have:=T1.1;simp only[List.length_append]at this ⊢;exact Nat.le_of_lt (qj (by omega))),fun x2 f_x2=>?_⟩)⟩⟩;have S12:=Same.new (.lst (zp++zq++y0)) f_x2;have e_x2:(upd G11 x2 (.lst (zp++zq++y0))) x2=some (.lst (zp++zq++y0)):=qb;(try unfold qJ);(try dsimp only);generalize upd G11 x2 (.lst (zp++zq++y0))=G12 at S12 e_x2 ⊢;have T2:TupL pr G12 (zp++zq++y0) (A++B++r0):=(Qj T1 ty0).same S12;obtain⟨y1,hy1,ty1⟩:=((R1g).same W10).same (S11.trans S12);have ly1:y1.length≤67:=by rw[ty1.1];omega
     refine⟨_,rfl,.inl ⟨fd,_,_,_,rfl,rfl,SqL.of ((S11.trans S12) _ _ (W10 _ _ e_fd)),rfl,.inr (.inl ⟨x2,f1,_,_,rfl,rfl,e_x2,hy1,(by have:=T2.1;simp only[List.length_append]at this ⊢;exact Nat.le_of_lt (qj (by omega))),fun x3 f_x3=>?_⟩)⟩⟩;have S13:=Same.new (.lst (zp++zq++y0++y1)) f_x3;have e_x3:(upd G12 x3 (.lst (zp++zq++y0++y1))) x3=some (.lst (zp++zq++y0++y1)):=qb;(try unfold qJ);(try dsimp only);generalize upd G12 x3 (.lst (zp++zq++y0++y1))=G13 at S13 e_x3 ⊢;have T3:TupL pr G13 (zp++zq++y0++y1) (A++B++r0++r1):=(Qj T2 ty1).same S13;obtain⟨y2,hy2,ty2⟩:=((R2g).same W10).same ((S11.trans S12).trans S13);have ly2:y2.length≤67:=by rw[ty2.1];omega
     refine⟨_,rfl,.inl ⟨fd,_,_,_,rfl,rfl,SqL.of (((S11.trans S12).trans S13) _ _ (W10 _ _ e_fd)),rfl,.inr (.inl ⟨x3,f2,_,_,rfl,rfl,e_x3,hy2,(by have:=T3.1;simp only[List.length_append]at this ⊢;exact Nat.le_of_lt (qj (by omega))),fun x4 f_x4=>?_⟩)⟩⟩;have S14:=Same.new (.lst (zp++zq++y0++y1++y2)) f_x4;have e_x4:(upd G13 x4 (.lst (zp++zq++y0++y1++y2))) x4=some (.lst (zp++zq++y0++y1++y2)):=qb;(try unfold qJ);(try dsimp only);generalize upd G13 x4 (.lst (zp++zq++y0++y1++y2))=G14 at S14 e_x4 ⊢;have T4:TupL pr G14 (zp++zq++y0++y1++y2) (A++B++r0++r1++r2):=(Qj T3 ty2).same S14;have W14:=(((S11.trans S12).trans S13).trans S14)
     refine⟨x4,_,rfl,⟨_,e_x4,T4⟩,(by simp only[List.length_append];omega),fun ed ms G15 fed S15 hed lm=>?_⟩;have W15:=W14.trans S15;refine⟨ed,rfl,⟨_,SqL.of hed⟩,zO (D:={ nx:=N,rt:=Q }) (K:=K) (a:=ed) (xs:=ms.map V.int) (fun j σ H2=>∃ s4 s5 s6 s7:Option V,σ=[some (.ref p),some (.ref q),some (.ref hd),some (.ref fd),s4,s5,s6,s7,none,none]∧Same G15 H2) ⟨_,_,_,_,rfl,Same.refl _⟩ (fun j σ H2 _ ⟨_,_,_,_,_,S'⟩=>SqL.of (S' _ _ hed)) ?_ ?_⟩
     · rintro j zv σ H2 hzv ⟨s4,s5,s6,s7,rfl,S16⟩;obtain⟨n,_,rfl⟩:=jL hzv;have Y16:Same G10 H2:=W15.trans S16;refine⟨_,rfl,_,rfl,p,A,n,rfl,Rp.same (U10.trans Y16),by omega,fun H3 S17=>?_⟩;refine⟨_,rfl,_,rfl,q,B,n,rfl,Rq.same (U10.trans (Y16.trans S17)),by omega,fun H4 S18=>?_⟩;have Y18:Same G10 H4:=Y16.trans (S17.trans S18);have Z18:Same G15 H4:=S16.trans (S17.trans S18);clear S16 S17 S18 Y16;have e0:Qm r0 n=(Qm A n || Qm B n):=qcG (m0 n);have e1:Qm r1 n=(Qm A n && Qm B n):=qcH (m1 n);have e2:Qm r2 n=(Qm A n && !(Qm B n)):=qbq (m2 n);generalize Qm A n=bA at e0 e1 e2 ⊢;generalize Qm B n=bB at e0 e1 e2 ⊢;(try unfold qJ);(try dsimp only);refine zg (t:=qc2 _ _) (fun σ' H'=>∃ l:Addr,σ'=[some (.ref p),some (.ref q),some (.ref hd),some (.ref fd),some (.int n),some (.bl bA),some (.bl bB),some (.ref l),none,none]∧Same H4 H'∧H' l=some (.lst [.bl (bA || bB),.bl (bA && bB),.bl (bA && !bB)])) (fun N hN=>?_) ?_
       · cases bA with
         | false=>exact⟨_,rfl,_,rfl,ZG ⟨_,rfl,_,rfl,_,rfl,ZG ⟨_,rfl,_,rfl,ZG ⟨qm (Nat.le_of_ble_eq_true rfl),fun l fl=>hN _ _ ⟨l,rfl,Same.new _ fl,qb⟩⟩⟩⟩⟩
         | true=>exact⟨_,rfl,_,rfl,qbu ⟨_,rfl,_,rfl,qbu ⟨_,rfl,_,rfl,_,rfl,qbu ⟨_,rfl,_,rfl,qm (Nat.le_of_ble_eq_true rfl),fun l fl=>hN _ _ ⟨l,rfl,Same.new _ fl,qb⟩⟩⟩⟩⟩
       rintro _ H5 ⟨l,rfl,S19,hl⟩;have Y19:Same G7 H5:=W10.trans (Y18.trans S19);refine⟨_,rfl,fd,rfl,⟨_,SqL.of (Y19 _ _ e_fd)⟩,fun C fC=>?_⟩;refine qQ (K:=K) (a:=fd) (xs:=[.ref f0,.ref f1,.ref f2]) (D:=C) (fun i σ H6=>∃ c0:Option V,σ=[c0,some (.int n)]∧Same H5 H6∧H6 C=some (.lst (([r0,r1,r2].take i).map fun r=>V.bl (Qm r n)))) ⟨none,rfl,Same.new _ fC,qb⟩ (fun i σ H6 _ ⟨_,_,S',_⟩=>SqL.of (S' _ _ (Y19 _ _ e_fd))) ?_ ?_
       · rintro i z σ H6 hz ⟨c0,rfl,S',hC⟩
         have three:∃ (f:Addr) (r:List (Int×Int)),z=.ref f∧Rs G7 f r∧qA r∧r.length≤80∧[r0,r1,r2][i]?=some r:=by
           match i,hz with
           | 0,hz=>cases hz;exact⟨f0,r0,rfl,R0g,k0,by omega,rfl⟩
           | 1,hz=>cases hz;exact⟨f1,r1,rfl,R1g,k1,by omega,rfl⟩
           | 2,hz=>cases hz;exact⟨f2,r2,rfl,R2g,k2,by omega,rfl⟩
           | i+3,hz=>cases hz
         obtain⟨f,r,rfl,Rf,cf,lf,er⟩:=three;refine⟨_,rfl,_,rfl,f,r,n,rfl,Rf.same (Y19.trans S'),lf,fun H7 S7'=>?_⟩;refine⟨_,S7' _ _ hC,qj (by rw[List.length_map,List.length_take];show min i 3≤1000;omega),_,rfl,(S'.trans S7').put fC _,?_⟩;rw[qb,List.take_add_one,er,List.map_append];rfl
       rintro σ H6 ⟨c0,rfl,S20,hC⟩
       have hC':H6 C=some (.lst [.bl (bA || bB),.bl (bA && bB),.bl (bA && !bB)]):=by
         rw[hC];show some (HO.lst [.bl (Qm r0 n),.bl (Qm r1 n),.bl (Qm r2 n)])=_;rw[e0,e1,e2]
       refine⟨_,rfl,qdl hC' (S20 _ _ hl) ⟨_,rfl,ZG ⟨_,_,_,_,rfl,Z18.trans (S19.trans S20)⟩⟩⟩
     · rintro σ H2 ⟨s4,s5,s6,s7,rfl,S16⟩;exact hN _ _ ⟨_,_,_,_,rfl,W15.trans S16⟩
   rintro _ E0 ⟨s4,s5,s6,s7,rfl,S11⟩;have W11:Same G7 E0:=W10.trans S11;refine⟨_,rfl,fd,rfl,⟨_,SqL.of (W11 _ _ e_fd)⟩,fun C fC=>?_⟩;refine qQ (K:=K) (a:=fd) (xs:=[.ref f0,.ref f1,.ref f2]) (D:=C) (fun i σ H2=>∃ (c0:Option V) (ks:List V),σ=[c0]∧Same E0 H2∧H2 C=some (.lst ks)∧RsL H2 ks ([r0,r1,r2].take i)∧∀ k,V.ref k∈ks->E0 k=none∧k≠C) ⟨none,[],rfl,Same.new _ fC,qb,.nil,fun _ z=>nomatch z⟩ (fun i σ H2 _ ⟨_,_,_,S',_⟩=>SqL.of (S' _ _ (W11 _ _ e_fd))) ?_ ?_
   · rintro i z σ H2 hz ⟨c0,ks,rfl,S',hC,RL,fk⟩
     have three:∃ (f:Addr) (r:List (Int×Int)),z=.ref f∧Rs G7 f r∧qA r∧r.length≤80∧[r0,r1,r2][i]?=some r:=by
       match i,hz with
       | 0,hz=>cases hz;exact⟨f0,r0,rfl,R0g,k0,by omega,rfl⟩
       | 1,hz=>cases hz;exact⟨f1,r1,rfl,R1g,k1,by omega,rfl⟩
       | 2,hz=>cases hz;exact⟨f2,r2,rfl,R2g,k2,by omega,rfl⟩
       | i+3,hz=>cases hz
     obtain⟨f,r,rfl,Rf,cf,lf,er⟩:=three;obtain⟨zf,hf,tf⟩:=Rf.same (W11.trans S');refine⟨_,rfl,f,zf,rfl,.inl (SqL.of hf),fun kc fkc=>?_⟩;have S1:=Same.new (.lst zf) fkc;have lk:ks.length≤3:=by rw[RL.len,List.length_take];show min i 3≤3;omega
     have nC:kc≠C:=(qf hC fkc).symm
     have fk2:∀ k,V.ref k∈ks++[.ref kc]->E0 k=none∧k≠C:=fun k hk=>by
       rcases List.mem_append.mp hk with hk|hk
       · exact fk k hk
       · cases List.mem_singleton.mp hk;exact⟨S'.none fkc,nC⟩
     refine⟨_,S1 _ _ hC,qj (by omega),_,ks++[.ref kc],rfl,(S'.trans S1).put fC _,qb,?_,fk2⟩;rw[List.take_add_one,er];exact RsL.put ((RL.same S1).snoc ⟨zf,qb,tf.same S1⟩) (S1 _ _ hC) fun k hk=>(fk2 k hk).2
   rintro σ E1 ⟨c0,ks,rfl,S12,hC,RL,fk⟩;replace RL:RsL E1 ks [r0,r1,r2]:=RL;have W12:Same G7 E1:=W11.trans S12;have U12:Same H E1:=U10.trans (S11.trans S12);have X12:Same G3 E1:=X10.trans (S11.trans S12)
   have lf0:IsL E1 f0 100:=by
     obtain⟨ys,hf,tf⟩:=R0g.same W12;exact⟨ys,hf,by rw[tf.1];omega⟩
   have lf1:IsL E1 f1 100:=by
     obtain⟨ys,hf,tf⟩:=R1g.same W12;exact⟨ys,hf,by rw[tf.1];omega⟩
   have lf2:IsL E1 f2 100:=by
     obtain⟨ys,hf,tf⟩:=R2g.same W12;exact⟨ys,hf,by rw[tf.1];omega⟩
   have inE0:∀ k,E0 k=none->k≠f0∧k≠f1∧k≠f2:=fun k hk=>by
     obtain⟨_,a0,_⟩:=R0g.same W11;obtain⟨_,a1,_⟩:=R1g.same W11;obtain⟨_,a2,_⟩:=R2g.same W11;exact⟨(qf a0 hk).symm,(qf a1 hk).symm,(qf a2 hk).symm⟩
   have in3:∀ {c:Addr}{o:HO},G3 c=some o->c≠f0∧c≠f1∧c≠f2:=fun {c o} e=>⟨qf e fr0,qf e fr1,qf e fr2⟩
   have efd1:=W12 _ _ e_fd
   have nfd:fd≠f0∧fd≠f1∧fd≠f2:=by
     obtain⟨y0,a0,t0⟩:=R0g;obtain⟨y1,a1,t1⟩:=R1g;obtain⟨y2,a2,t2⟩:=R2g
     have ex:∀ {a:Addr}{ys:List V}{rs:List (Int×Int)},G7 a=some (.lst ys)->TupL pr G7 ys rs->fd≠a:=fun {a ys rs} h t e=>by
       rw[← e,e_fd]at h;injection h with h;injection h with h;subst h;obtain⟨p',hp'⟩:∃ p',rs[0]?=some p':=⟨_,List.getElem?_eq_getElem (by rw[← t.1];exact Nat.zero_lt_succ _)⟩
       obtain⟨tt,e1,e2⟩:=t.2 0 _ p' rfl hp';cases e1;rw[a0]at e2;cases e2
     exact⟨ex a0 t0,ex a1 t1,ex a2 t2⟩
   try unfold qJ
   try dsimp only
   refine zg (t:=qdI _ _ _) (fun σ' H'=>∃ s9:Option V,σ'=[some (.ref p),some (.ref q),some (.ref hd),some (.ref fd),s4,s5,s6,s7,some (.ref C),s9]∧B3 f0 f1 f2 E1 H') (fun N hN=>?_) ?_
   · refine⟨_,rfl,fd,rfl,⟨_,SqL.of efd1⟩,zO (D:={ nx:=N,rt:=Q }) (K:=K) (a:=fd) (xs:=[.ref f0,.ref f1,.ref f2]) (fun j σ H2=>∃ s9:Option V,σ=[some (.ref p),some (.ref q),some (.ref hd),some (.ref fd),s4,s5,s6,s7,some (.ref C),s9]∧B3 f0 f1 f2 E1 H2∧IsL H2 f0 (100+j)∧IsL H2 f1 (100+j)∧IsL H2 f2 (100+j)) ⟨_,rfl,(fun c o e _ _ _=>e),lf0,lf1,lf2⟩ (fun j σ H2 _ ⟨_,_,b,_⟩=>SqL.of (b _ _ efd1 nfd.1 nfd.2.1 nfd.2.2)) ?_ ?_⟩
     · rintro j z σ H2 hz ⟨s9,rfl,b,i0,i1,i2⟩
       have three:∃ f:Addr,z=.ref f∧(f=f0∨f=f1∨f=f2)∧IsL H2 f (100+j)∧j < 3:=by
         match j,hz with
         | 0,hz=>cases hz;exact⟨f0,rfl,.inl rfl,i0,by omega⟩
         | 1,hz=>cases hz;exact⟨f1,rfl,.inr (.inl rfl),i1,by omega⟩
         | 2,hz=>cases hz;exact⟨f2,rfl,.inr (.inr rfl),i2,by omega⟩
         | i+3,hz=>cases hz
       obtain⟨f,rfl,hf3,⟨ys,hf,ly⟩,j3⟩:=three;refine⟨_,rfl,.inl ⟨rfl,_,SqL.of hf⟩,qm (Nat.le_of_ble_eq_true rfl),fun v fv=>?_⟩;have A6:=Same.new (.tup [.int 0,.int 0]) fv;refine⟨f,_,_,rfl,rfl,A6 _ _ hf,qj (by omega),?_⟩;have l1:(ys++[V.ref v]).length≤100+j+1:=by rw[List.length_append];show ys.length+1≤_;omega
       refine⟨_,rfl,fun c o e n1 n2 n3=>?_,i0.up fv l1,i1.up fv l1,i2.up fv l1⟩;have nf:c≠f:=by rcases hf3 with rfl|rfl|rfl<;>assumption
       rw[qi nf];exact A6 _ _ (b c o e n1 n2 n3)
     · rintro σ H2 ⟨s9,rfl,b,_⟩;exact hN _ _ ⟨s9,rfl,b⟩
   rintro _ E2 ⟨s9,rfl,b⟩
   have U2:Same H E2:=fun c o e=>by
     obtain⟨n1,n2,n3⟩:=in3 (U3 _ _ e);exact b _ _ (U12 _ _ e) n1 n2 n3
   have b3:∀ {a:Addr}{rs:List (Int×Int)},Rs G3 a rs->Rs E2 a rs:=fun {a rs} R=>by
     obtain⟨_,ha,_⟩:=id R;obtain⟨n1,n2,n3⟩:=in3 ha;exact(R.same X12).b3 b lf0 lf1 lf2 n1 n2 n3
   obtain⟨h1',h2',h3'⟩:=in3 e_hd;have ehd2:=b _ _ (X12 _ _ e_hd) h1' h2' h3';obtain⟨q1,q2,q3⟩:=inE0 C fC;have eC2:=b _ _ hC q1 q2 q3;have RL2:=RL.b3 b lf0 lf1 lf2 fun k hk=>inE0 k (fk k hk).1;refine⟨_,rfl,_,rfl,_,rfl,qm (Nat.le_of_ble_eq_true rfl),fun cm f_cm=>?_⟩;have S20:=Same.new (.lst [.ref p,.ref q]) f_cm;have e_cm:(upd E2 cm (.lst [.ref p,.ref q])) cm=some (.lst [.ref p,.ref q]):=qb;(try unfold qJ);(try dsimp only);generalize upd E2 cm (.lst [.ref p,.ref q])=G20 at S20 e_cm ⊢;have U20:=U2.trans S20;refine qb4 (S20 _ _ ehd2) (.cons ((b3 Rh0).same S20) (.cons ((b3 Rh1).same S20) .nil)) e_cm (.cons (Rp.same U20) (.cons (Rq.same U20) .nil)) ⟨_,rfl,ZG ?_⟩;(try unfold qJ);(try dsimp only);refine⟨_,rfl,_,rfl,p,q,A,B,rfl,Rp.same U20,Rq.same U20,cA,cB,lA,lB,fun g0 t0 E4 fg0 S21 Q0 c0 l0' m0'=>?_⟩;refine⟨_,rfl,_,rfl,p,q,A,B,rfl,Rp.same (U20.trans S21),Rq.same (U20.trans S21),cA,cB,by omega,fun g1 t1 E5 fg1 S22 Q1 c1 l1' m1'=>?_⟩;have U22:=U20.trans (S21.trans S22);refine⟨_,rfl,_,rfl,p,q,A,B,rfl,Rp.same U22,Rq.same U22,cA,cB,lA,lB,fun g2 t2 E6 fg2 S23 Q2 c2 l2' m2'=>?_⟩;have e0:t0=r0:=q8 c0 k0 fun n=>(m0' n).trans (m0 n).symm;have e1:t1=r1:=q8 c1 k1 fun n=>(m1' n).trans (m1 n).symm;have e2:t2=r2:=q8 c2 k2 fun n=>(m2' n).trans (m2 n).symm;subst e0 e1 e2;refine⟨qm (Nat.le_of_ble_eq_true rfl),fun gl f_gl=>?_⟩;have S24:=Same.new (.lst [.ref g0,.ref g1,.ref g2]) f_gl;have W24:=S20.trans (S21.trans (S22.trans (S23.trans S24)));exact⟨_,rfl,qdv qb (.cons (Q0.same (S22.trans (S23.trans S24))) (.cons (Q1.same (S23.trans S24)) (.cons (Q2.same S24) .nil))) (W24 _ _ eC2) (RL2.same W24) (kk _ (U2.trans W24))⟩
end
def PvL (sa:Addr) (H:Hp):Nat->L2.St->Hp->Prop:=fun i σ H2=>∃ s1 s2 s3:Option V,σ=[some (.ref sa),s1,s2,s3]∧Same H H2
theorem jl:qA []:=⟨fun _ z=>(nomatch z),List.Pairwise.nil⟩
section
variable {P:Program}{w:World}{K:Frag}{mg:Str->Option Value}{base:Heap}
theorem qdj {a:Ad} (T:Txt K mg a):qV P w K mg base CX0 7 a.f_v a.fd_v ["_law_script"] (j6 K):=by
 have G_u:=qcC (P:=P) (w:=w) (base:=base) T;have G_r:=qas (P:=P) (w:=w) (base:=base) T;have G_q:=qbl (P:=P) (w:=w) (base:=base) T;have G_g:=qar (P:=P) (w:=w) (base:=base) T;have G_d:=jd (P:=P) (w:=w) (base:=base) T;have G_b:=jI (P:=P) (w:=w) (base:=base) T;have G_e:=qap (P:=P) (w:=w) (base:=base) T;refine T.d_v.F.ok sc_law (fun vs H Q E h=>?_) (fun cdv A outer s H vs Q E hr h=>?_)
 · obtain⟨sa,ns,rfl,hS,hlen,kk⟩:=h;rfl
 · obtain⟨sa,ns,rfl,hS,hlen,kk⟩:=h;have hU:=hr.units;have h_u:Room (3) _:=hr.mono (by decide);have h_r:Room (1) _:=hr.mono (by decide);have h_q:Room (1) _:=hr.mono (by decide);have h_g:Room (6) _:=hr.mono (by decide);have h_d:Room (5) _:=hr.mono (by decide);have h_b:Room (1) _:=hr.mono (by decide);have h_e:Room (5) _:=hr.mono (by decide)
   refine⟨_,(qe (Qa PassesOwn.never rfl (Z9 rfl T.n_range (qa (qp (zH rfl) (by rfl) T.n_max zI (qa qd (qa (qp (jm rfl) (by rfl) T.n_min jn (qa (qp zk (by rfl) T.n_len q9 (qa (pv 0) qc)) (qa qd qc))) qc))) qc)) (qt (i:=1) (sc_law.nd) rfl (Or.inl rfl))
       (qe (qak (qh G_u h_u rfl T.d_u.m T.d_u.k T.d_u.b .nil qB (qa (qh G_r h_r rfl T.d_r.m T.d_r.k T.d_r.b .nil qB (qa (qh G_q h_q rfl T.d_q.m T.d_q.k T.d_q.b .nil qB (qa (pv 0) (qa (pv 1) qc))) qc)) qc)) (Qv rfl (qE (qt (i:=2) (sc_law.nd) rfl (Or.inl rfl)) (qE (qt (i:=3) (sc_law.nd) rfl (Or.inl rfl)) zD))))
       (qe (zi (PW.pt (Z7 (zR (zQ (qh G_g h_g rfl T.d_g.m T.d_g.k T.d_g.b .nil qB (qa (pv 2) (qa (pv 3) qc))))) (Z7 (zR (zQ (qh G_g h_g rfl T.d_g.m T.d_g.k T.d_g.b .nil qB (qa (pv 3) (qa (pv 2) qc))))) (Zg (zR (zQ (qh G_g h_g rfl T.d_g.m T.d_g.k T.d_g.b .nil qB (qa (pv 2) (qa (qH qc) qc)))))))))
         (qg (qy QR))
         qI)
       (qg (zi (PW.pt (Z7 (qv (uNe hU) (qh G_d h_d rfl T.d_d.m T.d_d.k T.d_d.b .nil qB (qa (pv 2) (qa (pv 2) qc))) (pv 2) (qD _)) (Z7 (qv (uNe hU) (qh G_b h_b rfl T.d_b.m T.d_b.k T.d_b.b .nil qB (qa (pv 2) (qa (pv 2) qc))) (pv 2) (qD _)) (Zg (qv (uNe hU) (qh G_e h_e rfl T.d_e.m T.d_e.k T.d_e.b .nil qB (qa (pv 2) (qa (pv 2) qc))) (qH qc) (qD _))))))
         (qg (qy QR))
         qI)))))
     (qg (qy QR))),?_⟩
   try dsimp only [Qx,Cx.nox]
   refine⟨_,rfl,_,_,rfl,.inl ⟨_,hS,rfl⟩,_,_,rfl,_,_,rfl,_,rfl,(by split<;>split<;>omega),(by rw[List.length_map];split<;>split<;>omega),?_⟩;refine jk (lo:=0) (PvL sa H) ⟨_,_,_,rfl,Same.refl H⟩ ?_ ?_
   · rintro i σ H2 hi ⟨s1,s2,s3,rfl,S⟩;refine⟨_,rfl,_,rfl,sa,ns,_,rfl,S.seq hS,by omega,fun c=>⟨c,rfl,fun p zL zS zA fp=>?_⟩⟩;have p0:IsP (upd H2 p (.dK (pur zL zS zA))) p:=.put _ _ _;have t0:But p H2 (upd H2 p (.dK (pur zL zS zA))):=(But.refl p H2).put _;(try dsimp only);generalize upd H2 p (.dK (pur zL zS zA))=G0 at p0 t0 ⊢;clear zL zS zA;refine⟨p,rfl,p0,fun t x y A B G1 u1 et Rx Ry cA cB lA lB=>?_⟩;have U1:Same H2 G1:=(t0.trans u1).fresh fp;refine⟨t,_,rfl,SqT.of et,rfl,_,_,rfl,_,_,rfl,rfl,?_⟩;refine⟨_,rfl,_,rfl,x,y,A,B,rfl,Rx,Ry,cA,cB,lA,lB,fun G2 S2=>⟨true,rfl,Qn rfl ?_⟩⟩;refine⟨_,rfl,_,rfl,y,x,B,A,rfl,Ry.same S2,Rx.same S2,cB,cA,lB,lA,fun G3 S3=>⟨true,rfl,Qn rfl ?_⟩⟩;have W3:=S2.trans S3;refine⟨_,rfl,qm (Nat.le_of_ble_eq_true rfl),fun e fe=>?_⟩;have S4:=Same.new (.lst []) fe;have W4:=W3.trans S4;refine⟨x,e,A,[],rfl,Rx.same W4,⟨[],qb,.nil⟩,cA,jl,lA,Nat.zero_le _,fun G5 S5=>⟨true,rfl,Qn rfl ?_⟩⟩;have W5:=W4.trans S5;refine⟨_,rfl,_,rfl,x,x,A,A,rfl,Rx.same W5,Rx.same W5,cA,cA,lA,lA,fun d r G6 fd S6 Rd cr lr m=>?_⟩;have er:r=A:=q8 cr cA fun n=>(m n).trans (or_self_iff);subst er;have W6:=W5.trans S6;refine⟨_,rfl,qaw Rd (Rx.same W6) ⟨_,rfl,ZG ?_⟩⟩;refine⟨_,rfl,_,rfl,x,x,r,r,rfl,Rx.same W6,Rx.same W6,cA,cA,by omega,fun d2 r2 G7 fd2 S7 Rd2 cr2 lr2 m2=>?_⟩;have er2:r2=r:=q8 cr2 cA fun n=>(m2 n).trans (and_self_iff);subst er2;have W7:=W6.trans S7;refine⟨_,rfl,qaw Rd2 (Rx.same W7) ⟨_,rfl,ZG ?_⟩⟩;refine⟨_,rfl,_,rfl,x,x,r2,r2,rfl,Rx.same W7,Rx.same W7,cA,cA,lA,lA,fun d3 r3 G8 fd3 S8 Rd3 cr3 lr3 m3=>?_⟩;have er3:r3=[]:=q8 cr3 jl fun n=>(m3 n).trans ⟨fun h=>absurd h.1 h.2,fun⟨_,z,_⟩=>nomatch z⟩;subst er3;refine⟨qm (Nat.le_of_ble_eq_true rfl),fun nl fnl=>jf (Rd3.same (Same.new _ fnl)) qb ⟨_,rfl,ZG ?_⟩⟩;exact⟨_,_,_,rfl,S.trans (U1.trans ((W7.trans S8).trans (Same.new _ fnl)))⟩
   · rintro σ H2 _;exact kk H2
end
theorem len_0 {p:List Value->Prop} (h:p []):∀ us:List Value,us.length=0->p us:=fun us hl=>by
 cases us with
 | nil=>exact h
 | cons a t=>cases hl
theorem len_1 {p:List Value->Prop} (h:∀ a,p [a]):∀ us:List Value,us.length=1->p us:=fun us hl=>by
 cases us with
 | nil=>cases hl
 | cons a t=>exact len_0 (p:=fun t=>p (a::t)) (h a) t (Nat.succ.inj hl)
theorem len_2 {p:List Value->Prop} (h:∀ a b,p [a,b]):∀ us:List Value,us.length=2->p us:=fun us hl=>by
 cases us with
 | nil=>cases hl
 | cons a t=>exact len_1 (p:=fun t=>p (a::t)) (h a) t (Nat.succ.inj hl)
theorem mkDf {K:Frag}{h:Heap}{mg:Str->Option Value} (X:K.In h) (G:h.Ns mainGlobals mg) {x:Str}{st:Stmt}{ps:List Str}{f:Addr}{oc:Value}{od an:Option Addr}{osl:Array (Option Value)}{kV doc pm cdv ct:Value} (a:nsIn K mainGlobals x=some (some (.ref f))) (l:K.lookup f=some ⟨oc,od,.func (fnOf x x (zX st) (zG st) (qo st) .none kV doc pm an cdv ct),osl⟩) (c:PySem.W.codeIn K cdv x=true) (k:PySem.W.keepIn K (.ref f)=true) (hb:∀ (kV doc pm:Value) (an:Option Addr) (cdv ct:Value) (us:List Value),us.length=ps.length->bindArgs (fnOf x x (zX st) (zG st) (qo st) .none kV doc pm an cdv ct) ⟨us,[]⟩=pure (ps.zip us)):Df K mg x st ps f (fnOf x x (zX st) (zG st) (qo st) .none kV doc pm an cdv ct):=⟨qb9 l c k,(qb9 l c k).binds hb,PySem.W.mg_of X G a,k⟩
theorem all2 {l:PySem.W.OpenLaw}{w:World}{K:Frag}{h:Heap}{mg:Str->Option Value}{fa:Addr} (X:K.In h) (G:h.Ns mainGlobals mg) (hfa:mg "law"=some (.ref fa)) {a:Ad} (T:Txt K mg a)
   : ∃ fd:FuncData,(∀ (s:Shared) (v:Value),BindsTo s fd ⟨[v],[]⟩ [("_law_script",v)])∧∀ base:Heap,K.In base->base.Ns mainGlobals mg->qV l.prog w K mg base CX0 7 fa fd ["_law_script"] (j6 K):=by
 have e:=hfa.symm.trans T.d_v.m;obtain⟨oc,od,kV,doc,pm,an,cdv,ct,osl,e2,lk,hcd⟩:=T.d_v.F.ex;cases e;exact⟨a.fd_v,fun s v=>by rw[e2];exact .of_eq rfl,fun base _ _=>qdj T⟩
theorem walk {l:PySem.W.OpenLaw}{q:Program}{loose:List Str}{XP:(Str->Option Value)->Heap->Prop}{YP:World->Heap->Prop}{d:DefRec}{K:Params->Frag} (hn:l.most=some 63) (hdf:d.params.defaults=[])
   (hY:∀ (w:World) (h:Heap),YP w h->(K w.params).In h)
   (F:∀ (w:World) (mg:Str->Option Value) (fa:Addr) (h:Heap),(K w.params).In h->h.Ns mainGlobals mg->mg d.name=some (.ref fa) ->
     ∃ fd:FuncData,(∀ (s:Shared) (u:Value),BindsTo s fd ⟨[u],[]⟩ [("_law_script",u)])∧∀ base:Heap,(K w.params).In base->base.Ns mainGlobals mg->qV l.prog w (K w.params) mg base CX0 7 fa fd ["_law_script"] (j6 (K w.params))) :
   PySem.W.WalkO q loose XP YP l.row.toRowW d [] (fun f vs=>PySem.call f vs) :=
 L2.walk_of (n:=63) (k:=7) (x:="_law_script") (CX:=fun _=>CX0) (sp:=fun w=>j6 (K w.params)) hn (by decide) hdf ⟨rfl,by decide,by decide,rfl⟩ hY F (fun _ _ a ns hl _ hS=>⟨a,ns,rfl,hS,hl,fun _=>rfl⟩) fun _ _ _ _ _ z=>z
end K05
open PySem PySem.W PyProof.Rows
set_option maxHeartbeats 0 in
theorem PySem.Challenge.cw_foldlog_k05_either_both_less_holds : PySem.Challenge.rw_foldlog_k05_either_both_less.Holds := by
 w_on;o_law;k_head;(case hw=>w_witness2)
 k_fill
 refine K05.walk (l:=PySem.Challenge.rw_foldlog_k05_either_both_less) rfl rfl (fun w h Y=>PySem.W.kIn_of Y) ?F
 case F =>
   intro w mg fa h KX G hmg;refine' K05.all2 KX G hmg (a:=⟨_,_,_,_,_,_,_,_,_,_,_,_,_,_,_,_,_,_,_,_,_,_,_,_,_,_,_,_,_,_,_,_,_,_,_,_⟩) ?T
   case T =>
     constructor
     all_goals try dsimp only
     all_goals try refine' PySem.W.mg_of KX G ?_
     all_goals try refine' PySem.W.mg_none_of KX G ?_
     all_goals try refine' ⟨_,PySem.W.mg_of KX G ?_⟩
     all_goals try k_is
     all_goals try refine' K05.mkDf KX G ?_ ?_ ?_ ?_ (fun _ _ _ _ _ _=>by first|exact K05.len_0 rfl|exact K05.len_1 fun _=>rfl|exact K05.len_2 fun _ _=>rfl)
     all_goals try refine' K05.mkDm ⟨?_,?_,?_⟩ ?_ ?_ ?_ (fun _ _ _ _ _ _=>by first|exact K05.len_0 rfl|exact K05.len_1 fun _=>rfl|exact K05.len_2 fun _ _=>rfl)
     all_goals try refine' L2.xIsa_of ?_ ?_ ?_
     all_goals try refine' L2.XMro.of ?_ ?_
     all_goals try refine' L2.xIn_of ?_ ?_
     all_goals try refine' ⟨⟨L2.xIn_of ?_ ?_,?_,?_,?_,?_,?_,?_⟩,?_,?_,?_⟩
     all_goals try refine' ⟨⟨?_,?_,?_,?_⟩,?_,?_,?_,?_⟩
     all_goals try refine' ⟨?_,?_,?_,?_⟩
     all_goals try refine' ⟨?_,?_,?_⟩
     all_goals try refine' ⟨?_,?_⟩
     all_goals try (first|k_is|rfl)
     all_goals try (first|k_is|rfl)
     all_goals try (first|k_is|rfl)
     all_goals decide
