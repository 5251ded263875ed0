import PyProof.Rows.All
import Wide.All
import OpenK.AllK
import Wide.FinOn
import PyProof.EqAt
import PyProof.EqKinds
import PyProof.TupleCall
import KE.BitLaws
import PyProof.StationsW
import PyProof.InstStoreFacts
import PyProof.ExcInit
import PyProof.ExcArgsOwn
import PyProof.InstLoad
import PyProof.ExcAttrAll.Exception
import PyProof.ExcBaseAll.Exception
import PyProof.RulesAs
import KE.KMinKey
import Open.SpecLaws
import KE.OsHead
import KE.OsGo
import KE.SpHead
import KE.OsShapes
import PySem.Challenge.RW_celltexts_s03_tokens
set_option Elab.async false
set_option linter.all false
section
set_option maxRecDepth 100000
namespace L2
open PySem PySem.Spec PyProof.Rows
abbrev Key:=Sum Int Str
def keyIs:Key→Value→Bool
 | .inl k,v=>Value.isInt k v
 | .inr x,v=>Value.isStrOf x v
def keyH(w:World):Key→Int
 | .inl k=>hashInt k
 | .inr x=>hashStr w x
theorem keyIs_shape:∀ {k:Key} {v:Value},keyIs k v=true→(∃ i t,k=Sum.inl i∧v=Value.int i t)∨(∃ x t,k=Sum.inr x∧v=Value.str x t)
 | .inl i,v,h=>by
  obtain ⟨t,e⟩:=Value.isInt_shape (k:=i) (v:=v) h
  exact .inl ⟨i,t,rfl,e⟩
 | .inr x,v,h=>by
  obtain ⟨t,e⟩:=Value.isStrOf_shape (x:=x) (v:=v) h
  exact .inr ⟨x,t,rfl,e⟩
theorem keyIs_int(i:Int)(t:Tok):keyIs (.inl i) (.int i t)=true:=by simp [keyIs,Value.isInt]
theorem keyIs_str(x:Str)(t:Tok):keyIs (.inr x) (.str x t)=true:=by simp [keyIs,Value.isStrOf]
theorem key_ll(a b:Int):decide ((Sum.inl a:Key)=Sum.inl b)=(a == b):=by
 by_cases e:a=b
 ·subst e;simp
 ·have h:¬ (Sum.inl a:Key)=Sum.inl b:=fun q=>e (Sum.inl.inj q)
  rw [decide_eq_false h]
  exact (beq_eq_false_iff_ne.mpr e).symm
theorem key_rr(a b:Str):decide ((Sum.inr a:Key)=Sum.inr b)=decide (a=b):=by
 by_cases e:a=b
 ·subst e;simp
 ·have h:¬ (Sum.inr a:Key)=Sum.inr b:=fun q=>e (Sum.inr.inj q)
  rw [decide_eq_false h,decide_eq_false e]
theorem key_lr(a:Int)(b:Str):decide ((Sum.inl a:Key)=Sum.inr b)=false:=decide_eq_false (fun q=>nomatch q)
theorem key_rl(a:Str)(b:Int):decide ((Sum.inr a:Key)=Sum.inl b)=false:=decide_eq_false (fun q=>nomatch q)
def mixKind(prog:Program)(w:World):PySem.KeyKind prog w Key where
 is:=keyIs
 hash:=keyH w
 inj:=fun v a b ha hb=>by
  rcases keyIs_shape ha with ⟨i,t,rfl,rfl⟩ | ⟨x,t,rfl,rfl⟩
  ·rcases keyIs_shape hb with ⟨j,u,rfl,e⟩ | ⟨y,u,rfl,e⟩
   ·injection e with e1 _;rw [e1]
   ·exact nomatch e
  ·rcases keyIs_shape hb with ⟨j,u,rfl,e⟩ | ⟨y,u,rfl,e⟩
   ·exact nomatch e
   ·injection e with e1 _;rw [e1]
 byValue:=fun k v h=>by
  rcases keyIs_shape h with ⟨i,t,rfl,rfl⟩ | ⟨x,t,rfl,rfl⟩ <;> rfl
 pyHash:=fun hv h=>by
  rcases keyIs_shape hv with ⟨i,t,rfl,rfl⟩ | ⟨x,t,rfl,rfl⟩
  ·exact wpAny_pyHash_int h
  ·exact wpAny_pyHash_str h
 eqBool:=fun hu hv h=>by
  rcases keyIs_shape hu with ⟨i,t,rfl,rfl⟩ | ⟨x,t,rfl,rfl⟩
  ·rcases keyIs_shape hv with ⟨j,u,rfl,rfl⟩ | ⟨y,u,rfl,rfl⟩
   ·rw [key_ll] at h;exact wpAny_eqBool_int h
   ·rw [key_lr] at h;exact SeqAt.EqAt.int_str i t y u _ _ _ _ h
  ·rcases keyIs_shape hv with ⟨j,u,rfl,rfl⟩ | ⟨y,u,rfl,rfl⟩
   ·rw [key_rl] at h;exact SeqAt.EqAt.str_int x t j u _ _ _ _ h
   ·rw [key_rr] at h;exact wpAny_eqBool_str h
 «strs»:=fun k x t v h=>by
  rcases keyIs_shape h with ⟨i,u,rfl,e⟩ | ⟨y,u,rfl,e⟩
  ·exact nomatch e
  ·injection e with e1 _
   subst e1
   cases v <;> rfl
theorem mixKind_int(prog:Program)(w:World)(i:Int)(t:Tok):(mixKind prog w).is (.inl i) (.int i t)=true:=keyIs_int i t
theorem mixKind_str(prog:Program)(w:World)(x:Str)(t:Tok):(mixKind prog w).is (.inr x) (.str x t)=true:=keyIs_str x t
end L2
namespace L2
open PySem PySem.Spec PyProof.Rows
inductive V where
 | non | bl (b:Bool) | int (i:Int) | str (x:Str) | byt (b:Array UInt8) | flt (b:UInt64) | ref (a:Addr) | ty (n:String)
 deriving DecidableEq
def RelV:V→Value→Prop
 | .non,u=>u=Value.none
 | .bl b,u=>u=Value.bool b
 | .int i,u=>∃ t,u=Value.int i t
 | .str x,u=>∃ t,u=Value.str x t
 | .byt b,u=>∃ t,u=Value.bytes b t
 | .flt b,u=>∃ t,u=Value.float b t
 | .ref a,u=>u=Value.ref a
 | .ty n,u=>u=Value.type n
abbrev Vals:List V→List Value→Prop:=Paired RelV
theorem Vals.length{xs:List V}{us:List Value}(r:Vals xs us):xs.length=us.length:=Paired.length r
theorem Vals.get:∀ {xs:List V} {us:List Value} {i:Nat} {x:V},Vals xs us→xs[i]? = some x→∃ u,us[i]? = some u∧RelV x u
 | _,_,_,_,.nil,e=>by simp at e
 | _,_,0,_,.cons r _,e=>by simp at e;subst e;exact ⟨_,rfl,r⟩
 | _,_,i + 1,x,.cons _ t,e=>by
  obtain ⟨u,h1,h2⟩:=Vals.get (i:=i) (x:=x) t (by simpa using e)
  exact ⟨u,by simpa using h1,h2⟩
theorem Vals.append:∀ {xs ys:List V} {us ws:List Value},Vals xs us→Vals ys ws→Vals (xs ++ ys) (us ++ ws)
 | _,_,_,_,.nil,s=>s
 | _,_,_,_,.cons r t,s=>.cons r (Vals.append t s)
theorem Vals.take:∀ {xs:List V} {us:List Value} (n:Nat),Vals xs us→Vals (xs.take n) (us.take n)
 | _,_,0,_=>.nil
 | _,_,_ + 1,.nil=>.nil
 | _,_,n + 1,.cons r t=>.cons r (Vals.take n t)
theorem Vals.drop:∀ {xs:List V} {us:List Value} (n:Nat),Vals xs us→Vals (xs.drop n) (us.drop n)
 | _,_,0,r=>r
 | _,_,_ + 1,.nil=>.nil
 | _,_,n + 1,.cons _ t=>Vals.drop n t
def RelO:Option V→Option Value→Prop
 | some v,some u=>RelV v u
 | none,none=>True
 | _,_=>False
def KV{κ:Type}:List (κ×V)→List (κ×Value)→Prop:=Paired fun (p:κ×V) (q:κ×Value)=>p.1=q.1∧RelV p.2 q.2
def kV:Key→V
 | .inl i=>.int i
 | .inr x=>.str x
inductive HO where
 | lst (xs:List V)
 | tup (xs:List V)
 | dK (kvs:List (Key×V)) | dT (kvs:List (List Key×V))
 | set (S:Int→Bool) (n:Nat)
 | ins (C dx:Addr) (fs:List (Str×V))
 | own (x:Addr)
 | xd (fs:List (Str×V))
 | met (f x:Addr)
 | rng (lo hi:Int)
 | frz (o:Obj) (u:HO)
 | tbl (ps:Array Value)
 | ext (φ:Heap→Prop)
abbrev Hp:=Addr→Option HO
def upd(H:Hp)(a:Addr)(o:HO):Hp:=fun b=>if b=a then some o else H b
theorem upd_same{H:Hp}{a:Addr}{o:HO}:upd H a o a=some o:=by unfold upd;rw [if_pos rfl]
theorem upd_ne{H:Hp}{a b:Addr}{o:HO}(h:b≠a):upd H a o b=H b:=by unfold upd;rw [if_neg h]
theorem upd_upd{H:Hp}{a:Addr}{o u:HO}:upd (upd H a o) a u=upd H a u:=by
 funext b;unfold upd;split <;> rfl
theorem ne_of_none{H:Hp}{a b:Addr}{o:HO}(h:H a=some o)(h':H b=none):a≠b:=by
 intro e;subst e;rw [h] at h';cases h'
section
variable(P:Program)(w:World)
def ObjOk(H:Hp)(h:Heap)(a:Addr):HO→Prop
 | .lst xs=>xs.length≤sizeLine∧∃ (its:List Value) (n:Nat),Vals xs its∧h.get? a=some { cls:=.type "list",data:=.seq its.toArray n }
 | .tup xs=>xs.length≤sizeLine∧∃ its:List Value,Vals xs its∧IsTup h a its.toArray
 | .dK kvs=>kvs.length≤sizeLine∧(a == sysModules)=false∧∃ vs,KV kvs vs∧h.DictOf (mixKind P w) a vs
 | .dT kvs=>kvs.length≤sizeLine∧(a == sysModules)=false∧∃ xs:List (List Key×Addr×Value),
   Paired (fun (p:List Key×V) (q:List Key×Addr×Value)=>p.1=q.1∧H q.2.1=some (.tup (p.1.map kV))∧RelV p.2 q.2.2) kvs xs∧
   ∃ o es ep,h.get? a=some o∧o.ExactDict∧o.data = .dict es ep∧es.toList=xs.map (entryOfKey (tupleKind (mixKind P w)))∧(xs.map (·.1)).Nodup
 | .set S n=>h.SetOf (intKind P w) a S n
 | .ins C dx fs=>H dx=some (.own a)∧fs.length≤1000∧dx≠a∧h.get? a=some (PySem.W.instObj C dx)∧
   ∃ mA,h.Ns1 dx mA∧(∀ f,RelO (fs.lookup f) (mA f))∧PySem.Within mA (fs.map (·.1))
 | .own _=>∃ o,h.get? a=some o
 | .xd fs=>∃ mA,h.Ns1 a mA∧∀ f,RelO (fs.lookup f) (mA f)
 | .rng lo hi=>∃ t u v,h.get? a=some { cls:=.type "range",data:=.fields #[.int lo t,.int hi u,.int 1 v] }
 | .frz o u=>h.get? a=some o∧ObjOk H h a u
 | .tbl ps=>h.get? a=some { cls:=.none,data:=.fields ps }
 | .met f x=>h.get? a=some (PySem.W.methodObj (.ref f) (.ref x))
 | .ext φ=>φ h∧(∃ o,h.get? a=some o)∧∀ h1 h2:Heap,φ h1→(∀ o,h1.get? a=some o→h2.get? a=some o)→φ h2
def HOk(H:Hp)(h:Heap):Prop:=∀ a o,H a=some o→ObjOk P w H h a o
end
section
variable{P:Program}{w:World}{H H':Hp}{h h':Heap}{a:Addr}{o:HO}
theorem ObjOk.lt(x:ObjOk P w H h a o):a < h.objs.size:=by
 cases o with
 | lst xs=>obtain ⟨_,_,_,_,e⟩:=x;exact Heap.lt_size e
 | tup xs=>obtain ⟨_,_,_,p⟩:=x;exact p.lt
 | dK kvs=>obtain ⟨_,_,_,_,o,_,_,e,_⟩:=x;exact Heap.lt_size e
 | dT kvs=>obtain ⟨_,_,_,_,o,_,_,e,_⟩:=x;exact Heap.lt_size e
 | set S n=>obtain ⟨o,_,_,_,e,_⟩:=x;exact Heap.lt_size e
 | ins C dx fs=>obtain ⟨_,_,_,e,_⟩:=x;exact Heap.lt_size e
 | own y=>obtain ⟨_,e⟩:=x;exact Heap.lt_size e
 | xd fs=>obtain ⟨_,⟨_,_,_,e,_⟩,_⟩:=x;exact Heap.lt_size e
 | rng lo hi=>obtain ⟨_,_,_,e⟩:=x;exact Heap.lt_size e
 | frz ob u=>obtain ⟨e,_⟩:=x;exact Heap.lt_size e
 | tbl ps=>exact Heap.lt_size (show h.get? a=some _ from x)
 | met f y=>exact Heap.lt_size (show h.get? a=some _ from x)
 | ext φ=>obtain ⟨_,⟨_,e⟩,_⟩:=x;exact Heap.lt_size e
theorem Paired.mapP{α β:Type}{F G:α→β→Prop}:∀ {l₁:List α} {l₂:List β},Paired F l₁ l₂→(∀ a b,F a b→G a b)→Paired G l₁ l₂
 | _,_,.nil,_=>.nil
 | _,_,.cons r t,f=>.cons (f _ _ r) (Paired.mapP t f)
theorem ObjOk.stay(x:ObjOk P w H h a o)(k:∀ b u,(b=a∨H b=some (.own a))→h.get? b=some u→h'.get? b=some u)
  (ho:∀ b,H b=some (.own a)→H' b=some (.own a)) (ht:∀ b xs,H b=some (.tup xs)→H' b=some (.tup xs)):ObjOk P w H' h' a o:=by
 induction o with
 | lst xs=>obtain ⟨z,its,n,r,e⟩:=x;exact ⟨z,its,n,r,k _ _ (.inl rfl) e⟩
 | tup xs=>obtain ⟨z,its,r,ob,e,c⟩:=x;exact ⟨z,its,r,ob,k _ _ (.inl rfl) e,c⟩
 | dK kvs=>obtain ⟨z,y,vs,r,ob,es,ep,e,c⟩:=x;exact ⟨z,y,vs,r,ob,es,ep,k _ _ (.inl rfl) e,c⟩
 | dT kvs =>
  obtain ⟨z,y,xs,r,ob,es,ep,e,c⟩:=x
  exact ⟨z,y,xs,Paired.mapP r fun p q z=>⟨z.1,ht _ _ z.2.1,z.2.2⟩,ob,es,ep,k _ _ (.inl rfl) e,c⟩
 | set S n=>obtain ⟨ob,es,ep,t,e,c⟩:=x;exact ⟨ob,es,ep,t,k _ _ (.inl rfl) e,c⟩
 | ins C dx fs =>
  obtain ⟨d,z,ne,e,mA,⟨od,es,ep,e2,c⟩,r⟩:=x
  exact ⟨ho _ d,z,ne,k _ _ (.inl rfl) e,mA,⟨od,es,ep,k _ _ (.inr d) e2,c⟩,r⟩
 | own y=>obtain ⟨ob,e⟩:=x;exact ⟨ob,k _ _ (.inl rfl) e⟩
 | xd fs=>obtain ⟨mA,⟨od,es,ep,e,c⟩,r⟩:=x;exact ⟨mA,⟨od,es,ep,k _ _ (.inl rfl) e,c⟩,r⟩
 | rng lo hi=>obtain ⟨t,u,v,e⟩:=x;exact ⟨t,u,v,k _ _ (.inl rfl) e⟩
 | frz ob u ih=>obtain ⟨e,q⟩:=x;exact ⟨k _ _ (.inl rfl) e,ih q⟩
 | tbl ps =>
  have e:h.get? a=some { cls:=.none,data:=.fields ps }:=x
  show h'.get? a=some { cls:=.none,data:=.fields ps }
  exact k a _ (.inl rfl) e
 | met f y =>
  have e:h.get? a=some (PySem.W.methodObj (.ref f) (.ref y)):=x
  show h'.get? a=some (PySem.W.methodObj (.ref f) (.ref y))
  exact k a _ (.inl rfl) e
 | ext φ=>obtain ⟨p,⟨o,e⟩,st⟩:=x;exact ⟨st _ _ p fun o q=>k _ _ (.inl rfl) q,⟨o,k _ _ (.inl rfl) e⟩,st⟩
theorem HOk.lt(x:HOk P w H h)(e:H a=some o):a < h.objs.size:=(x a o e).lt
theorem HOk.fresh(x:HOk P w H h)(e:h.objs.size≤a):H a=none:=by
 cases q:H a with
 | none=>rfl
 | some u=>exact absurd (Nat.lt_of_lt_of_le (x.lt q) e) (Nat.lt_irrefl _)
theorem HOk.kept(x:HOk P w H h)(k:∀ b u,h.get? b=some u→h'.get? b=some u):HOk P w H h':=fun a o e =>
 (x a o e).stay (fun b u _ q=>k b u q) (fun _ q=>q) fun _ _ q=>q
theorem HOk.laid(x:HOk P w H h)(k:∀ b u,h.get? b=some u→h'.get? b=some u)(hp:h.objs.size≤a)(new:ObjOk P w (upd H a o) h' a o):HOk P w (upd H a o) h':=fun b u e=>by
 have hn:=x.fresh hp
 by_cases hb:b=a
 ·subst hb;rw [upd_same] at e;cases e;exact new
 ·rw [upd_ne hb] at e
  exact (x b u e).stay (fun c v _ q=>k c v q) (fun c q=>by rw [upd_ne (ne_of_none q hn)];exact q) fun c xs q=>by rw [upd_ne (ne_of_none q hn)];exact q
end
def Rd(H:Hp)(a:Addr)(u:HO):Prop:=H a=some u∨∃ o,H a=some (.frz o u)
theorem Rd.ok{P:Program}{w:World}{H:Hp}{h:Heap}{a:Addr}{u:HO}(r:Rd H a u)(x:HOk P w H h):ObjOk P w H h a u:=by
 rcases r with r | ⟨o,r⟩
 ·exact x a u r
 ·obtain ⟨_,q⟩:=x a _ r
  exact q
def Mut:Option HO→Prop
 | some (.lst _)=>True
 | some (.dK _)=>True
 | some (.dT _)=>True
 | some (.set _ _)=>True
 | some (.ins _ _ _)=>True
 | some (.ext _)=>True
 | _=>False
section
variable{P:Program}{w:World}{H:Hp}{h h':Heap}{x e:Addr}{o':HO}
theorem HOk.write(ok:HOk P w H h)(mu:Mut (H x))(he:e=x∨H e=some (.own x))(k:∀ b u,b≠e→h.get? b=some u→h'.get? b=some u)(heo:∃ u,h'.get? e=some u)
  (new:ObjOk P w (upd H x o') h' x o'):HOk P w (upd H x o') h':=fun b u q=>by
 have nown:∀ c y,H c=some (.own y)→c≠x:=fun c y r z=>by subst z;rw [r] at mu;exact mu
 have ntup:∀ c xs,H c=some (.tup xs)→c≠x:=fun c xs r z=>by subst z;rw [r] at mu;exact mu
 by_cases hb:b=x
 ·subst hb;rw [upd_same] at q;cases q;exact new
 ·rw [upd_ne hb] at q
  by_cases hbe:b=e
  ·have q':H b=some (.own x):=by
    rcases he with z | z
    ·exact absurd (hbe.trans z) hb
    ·rw [hbe];exact z
   rw [q] at q';cases q'
   obtain ⟨v,hv⟩:=heo
   exact ⟨v,by rw [hbe];exact hv⟩
  ·refine (ok b u q).stay (fun c v hc r=>k c v ?_ r) (fun c r=>by rw [upd_ne (nown c b r)];exact r) fun c xs r=>by rw [upd_ne (ntup c xs r)];exact r
   rcases hc with rfl | hc
   ·exact hbe
   ·rintro rfl
    rcases he with z | z
    ·exact nown c b hc z
    ·rw [hc] at z;cases z;exact hb rfl
end
structure Un(fs ex:List Addr)(H H':Hp)(h h':Heap):Prop where
 keep:∀ b o,h.get? b=some o→H b=none→b∉fs→b∉ex→h'.get? b=some o
 slot:∀ b o,h.get? b=some o→H b=none→b∈fs→b∉ex→∃ sl,h'.get? b=some { o with slots:=sl }
 free:∀ b o,h.get? b=some o→H b=none→b∉ex→H' b=none
 there:∀ b o,h.get? b=some o→b∉ex→∃ o',h'.get? b=some o'
 tups:∀ b xs,H b=some (.tup xs)→H' b=some (.tup xs)
 frzs:∀ b o u,H b=some (.frz o u)→H' b=some (.frz o u)
 tbls:∀ b ps,H b=some (.tbl ps)→∃ more,H' b=some (.tbl (ps ++ more))
section
variable{fs fs' ex ex':List Addr}{H H1 H2:Hp}{h h1 h2 h':Heap}{a x e:Addr}{o:HO}
theorem Un.any(u:Un fs ex H H1 h h1){b:Addr}{ob:Obj}(q:h.get? b=some ob)(n:H b=none)(hx:b∉ex):∃ sl,h1.get? b=some { ob with slots:=sl }:=by
 by_cases hb:b∈fs
 ·exact u.slot b ob q n hb hx
 ·exact ⟨ob.slots,u.keep b ob q n hb hx⟩
theorem Un.kept(k:∀ b u,h.get? b=some u→h'.get? b=some u):Un fs ex H H h h' :=
 ⟨fun b ob q _ _ _=>k b ob q,fun b ob q _ _ _=>⟨ob.slots,k b ob q⟩,fun _ _ _ n _=>n,fun b ob q _=>⟨ob,k b ob q⟩,fun _ _ q=>q,fun _ _ _ q=>q,fun _ ps q=>⟨#[],by rw [q];simp⟩⟩
theorem Un.refl:Un fs ex H H h h:=Un.kept fun _ _ q=>q
theorem Un.laid(k:∀ b u,h.get? b=some u→h'.get? b=some u)(hp:h.objs.size≤a)(hn:H a=none):Un fs ex H (upd H a o) h h' where
 keep:=fun b u q _ _ _=>k b u q
 slot:=fun b u q _ _ _=>⟨u.slots,k b u q⟩
 free:=fun b u q n _=>by rw [upd_ne (Nat.ne_of_lt (Nat.lt_of_lt_of_le (Heap.lt_size q) hp))];exact n
 there:=fun b u q _=>⟨u,k b u q⟩
 tups:=fun b xs q=>by rw [upd_ne (ne_of_none q hn)];exact q
 frzs:=fun b u xs q=>by rw [upd_ne (ne_of_none q hn)];exact q
 tbls:=fun b ps q=>⟨#[],by rw [upd_ne (ne_of_none q hn),q];simp⟩
theorem Un.write(mu:Mut (H x))(he:e=x∨H e=some (.own x))(k:∀ b u,b≠e→h.get? b=some u→h'.get? b=some u)(heo:∃ u,h'.get? e=some u):Un fs ex H (upd H x o) h h':=by
 have hx:∀ b,H b=none→b≠x:=fun b n z=>by subst z;rw [n] at mu;exact mu
 have hb:∀ b,H b=none→b≠e:=fun b n z=>by
  subst z
  rcases he with r | r
  ·exact hx b n r
  ·rw [n] at r;cases r
 have hm:∀ b u,H b=some u→¬ Mut (some u)→b≠x:=fun b u q nm z=>by subst z;rw [q] at mu;exact nm mu
 refine ⟨fun b u q n _ _=>k b u (hb b n) q,fun b u q n _ _=>⟨u.slots,k b u (hb b n) q⟩,fun b u q n _=>by rw [upd_ne (hx b n)];exact n,fun b u q _=>?_,
  fun b xs q=>by rw [upd_ne (hm b _ q fun z=>z)];exact q,fun b u xs q=>by rw [upd_ne (hm b _ q fun z=>z)];exact q,fun b ps q=>⟨#[],by rw [upd_ne (hm b _ q fun z=>z),q];simp⟩⟩
 by_cases hbe:b=e
 ·subst hbe;exact heo
 ·exact ⟨u,k b u hbe q⟩
end
def trk(h:Heap)(H:Hp):List Addr:=(List.range h.objs.size).filter fun a=>(H a).isSome
def hidT(h:Heap)(H:Hp):Heap:=PySem.W.hideAll h (trk h H)
theorem hidT_size(h:Heap)(H:Hp):(hidT h H).objs.size=h.objs.size:=PySem.W.hideAll_size _ _
theorem hidT_get{h:Heap}{H:Hp}{b:Addr}{o:Obj}(e:h.get? b=some o)(n:H b=none):(hidT h H).get? b=some o :=
 PySem.W.hideAll_get _ e fun hm=>by
  have q:(H b).isSome=true:=(List.mem_filter.mp hm).2
  rw [n] at q;simp at q
theorem of_hidT{h:Heap}{H:Hp}{b:Addr}{o:Obj}(e:(hidT h H).get? b=some o):h.get? b=some o∧H b=none:=by
 have e':h.get? b=some o:=PySem.W.of_hideAll (trk h H) e
 refine ⟨e',?_⟩
 cases q:H b with
 | none=>rfl
 | some x =>
  have hm:b∈trk h H:=List.mem_filter.mpr ⟨List.mem_range.mpr (Heap.lt_size e'),by simp [q]⟩
  have z:(hidT h H).get? b=none:=PySem.W.hideAll_none (trk h H) hm
  rw [z] at e;cases e
end L2
namespace L2
open PySem PySem.Spec PyProof.Rows
structure Mod(K:PySem.W.Frag)(mg:Str→Option Value)(base:Heap):Prop where
 kin:K.In base
 glob:base.Ns mainGlobals mg
 blt:∃ mb,base.Ns builtinsNs mb∧∀ x:Str,x≠"__name__"→mb x=bootBuiltins x
 nolimit:base.NoLimit
structure Cx where
 prog:Program
 w:World
 K:PySem.W.Frag
 mg:Str→Option Value
 base:Heap
 A:Around
 N:List Str
 s_0:Shared
 H_0:Hp
 env:Env
 outer:List Env
 stack:List Env
 ex:List Addr
 fn:Str→Bool
 calm:Bool
 pn:List (Addr×Obj)
 xe:Value→Shared→Prop
def frs(l:List Env):List Addr:=l.filterMap (·.frame)
abbrev Cx.fs(X:Cx):List Addr:=frs X.outer
def Vis(sc:Scope)(x:Str):Prop:=sc.names.lookup x=some .local∨sc.names.lookup x=some .cell∨sc.names.lookup x=some .free
def Loc(sc:Scope)(x:Str):Prop:=sc.names.lookup x=some .local∨sc.names.lookup x=some .cell
def Look(env:Env)(h:Heap)(m:Str→Option Value)(x:Str)(u:Value):Prop :=
 (env.kindOf x=some .local∧m x=some u)∨((env.kindOf x=some .cell∨env.kindOf x=some .free)∧∃ c,env.cells.lookup x=some c∧h.IsCell c (some u))
structure Cx.Ok(X:Cx):Prop where
 mod:Mod X.K X.mg X.base
 kind:X.env.scope.kind = .function
 glob:X.env.globals=mainGlobals
 blt:X.env.builtins=builtinsNs
 above:X.s_0.heap.objs.size≤X.env.locals
 inj:∀ x y c,X.env.cells.lookup x=some c→X.env.cells.lookup y=some c→x=y
 has:∀ x,(X.env.kindOf x=some .cell∨X.env.kindOf x=some .free)→∃ c,X.env.cells.lookup x=some c
 cab:∀ x c,X.fn x=true→X.env.cells.lookup x=some c→X.s_0.heap.objs.size≤c
 hd:X.calm=true→X.A.handled=none
 frames:X.A.frames=some X.stack
 stk:X.stack=X.outer∨(X.stack=X.env::X.outer∧X.env.frame=some X.env.locals)
 exf:∀ b∈X.ex,b≠X.env.locals∧∀ x c,X.env.cells.lookup x=some c→c≠b
 bs:∀ b o,X.base.get? b=some o→X.s_0.heap.get? b=some o∧X.H_0 b=none
 bsz:X.base.objs.size≤X.s_0.heap.objs.size
 noex:∀ b o,X.base.get? b=some o→b∉X.ex
 exfs:∀ b∈X.ex,b∉X.fs
 funs:X.s_0.heap.FunFrames X.base X.outer
 frf:∀ b∈X.fs,X.H_0 b=none
structure Inv(X:Cx)(pins:List (Addr×Obj))(σ:List (Option V))(H:Hp)(s:Shared):Prop where
 ok:X.Ok
 os:s.os=X.s_0.os
 bare:AllBare s.gens
 base:Un X.fs X.ex X.H_0 H X.s_0.heap s.heap
 loc:∃ m,s.heap.Ns X.env.locals m∧∀ (i:Nat) (x:Str) (v:V),X.N[i]? = some x→σ[i]? = some (some v)→Vis X.env.scope x→∃ u,RelV v u∧Look X.env s.heap m x u
 cell:∀ x c,X.env.cells.lookup x=some c→∃ v,s.heap.IsCell c v
 free:H X.env.locals=none
 freeC:∀ x c,X.env.cells.lookup x=some c→H c=none
 pin:∀ p∈X.pn ++ pins,s.heap.get? p.1=some p.2∧H p.1=none∧p.1≠X.env.locals∧p.1∉X.fs∧∀ v,p.2.data≠.cell v
 hok:HOk X.prog X.w H s.heap
 len:σ.length=X.N.length
section
variable{X:Cx}{pins:List (Addr×Obj)}{σ:List (Option V)}{H H':Hp}{s:Shared}{h':Heap}
theorem Cx.Ok.nofr(ok:X.Ok){b:Addr}{o:Obj}(e:X.base.get? b=some o):b∉X.fs:=fun hb=>by
 have:=(ok.funs.mem hb).1
 rw [e] at this;cases this
theorem Inv.bs(I:Inv X pins σ H s):∀ b o,X.base.get? b=some o→s.heap.get? b=some o∧H b=none:=fun b o e =>
 ⟨I.base.keep b o (I.ok.bs b o e).1 (I.ok.bs b o e).2 (I.ok.nofr e) (I.ok.noex b o e),I.base.free b o (I.ok.bs b o e).1 (I.ok.bs b o e).2 (I.ok.noex b o e)⟩
theorem Inv.bk(I:Inv X pins σ H s):∀ b o,X.base.get? b=some o→s.heap.get? b=some o:=fun b o e=>(I.bs b o e).1
theorem Inv.mod(I:Inv X pins σ H s):Mod X.K X.mg X.base:=I.ok.mod
theorem Inv.kIn(I:Inv X pins σ H s):X.K.In s.heap:=I.ok.mod.kin.keeps I.bk
theorem Inv.fr(I:Inv X pins σ H s):∃ m,Fr X.base X.env.locals s.heap m :=
 let ⟨m,hn,_⟩:=I.loc
 ⟨m,hn,I.bk,Nat.le_trans I.ok.bsz I.ok.above⟩
theorem Inv.lt(I:Inv X pins σ H s):X.env.locals < s.heap.objs.size:=let ⟨_,hn,_⟩:=I.loc;hn.lt
theorem Inv.sz(I:Inv X pins σ H s):X.s_0.heap.objs.size≤s.heap.objs.size:=Nat.le_trans I.ok.above (Nat.le_of_lt I.lt)
theorem Inv.nofs(I:Inv X pins σ H s){a:Addr}(h:s.heap.objs.size≤a):a∉X.fs:=fun hb=>by
 obtain ⟨_,o,ho,_⟩:=I.ok.funs.mem hb
 exact absurd (Nat.lt_of_lt_of_le (Heap.lt_size ho) (Nat.le_trans I.sz h)) (Nat.lt_irrefl _)
theorem Inv.cne(I:Inv X pins σ H s):∀ x c,X.env.cells.lookup x=some c→c≠X.env.locals:=fun x c e z=>by
 obtain ⟨v,o,ho,hd⟩:=I.cell x c e
 obtain ⟨m,⟨o',es,ep,ho',hd',_⟩,_⟩:=I.loc
 rw [z,ho'] at ho;cases ho;rw [hd'] at hd;cases hd
theorem Inv.funs(I:Inv X pins σ H s):s.heap.FunFrames X.base X.outer:=by
 have all:∀ (l:List Env),(∀ b∈frs l,b∈X.fs)→X.s_0.heap.FunFrames X.base l→s.heap.FunFrames X.base l:=by
  intro l
  induction l with
  | nil=>intro _ _;trivial
  | cons env r ih =>
   intro hs hl
   obtain ⟨hk,⟨L,o,hf,hn,ho,hd⟩,hr⟩:=hl
   have hL:L∈X.fs:=hs L (by unfold frs;rw [List.filterMap_cons,hf];exact List.mem_cons_self)
   obtain ⟨sl,e⟩:=I.base.slot L o ho (I.ok.frf L hL) hL fun z=>I.ok.exfs L z hL
   exact ⟨hk,⟨L,_,hf,hn,e,hd⟩,ih (fun b hb=>hs b (by unfold frs;rw [List.filterMap_cons,hf];exact List.mem_cons_of_mem _ hb)) hr⟩
 exact all X.outer (fun _ hb=>hb) I.ok.funs
theorem Inv.stack(I:Inv X pins σ H s):s.heap.FunFrames X.base X.stack:=by
 rcases I.ok.stk with e | ⟨e,hf⟩
 ·rw [e];exact I.funs
 ·rw [e]
  obtain ⟨m,hn,_⟩:=I.loc
  refine .cons (by rw [I.ok.kind];decide) hf hn ?_ I.funs
  exact Heap.get?_none_of_le (Nat.le_trans I.ok.bsz I.ok.above)
theorem Inv.stkSub(I:Inv X pins σ H s):∀ b∈frs X.stack,b∈X.env.locals::X.fs:=fun b hb=>by
 rcases I.ok.stk with e | ⟨e,hf⟩
 ·rw [e] at hb;exact List.mem_cons_of_mem _ hb
 ·rw [e] at hb
  unfold frs at hb
  rw [List.filterMap_cons,hf] at hb
  exact hb
theorem Inv.stkFree(I:Inv X pins σ H s):∀ b∈frs X.stack,H b=none:=fun b hb=>by
 rcases List.mem_cons.mp (I.stkSub b hb) with e | hb
 ·rw [e];exact I.free
 ·obtain ⟨_,o,ho,_⟩:=I.ok.funs.mem hb
  exact I.base.free b o ho (I.ok.frf b hb) fun z=>I.ok.exfs b z hb
theorem Inv.step{g':Array GenState}{t':Nat}{d':Drawn}{ch:List Addr}(I:Inv X pins σ H s)
  (hch:∀ b∈ch,(b∈X.ex∨X.s_0.heap.objs.size≤b)∧b≠X.env.locals∧(∀ x c,X.env.cells.lookup x=some c→c≠b)∧∀ p∈X.pn ++ pins,p.1≠b)
  (keep:∀ b o,b≠X.env.locals→b∉X.fs→b∉ch→s.heap.get? b=some o→H b=none→h'.get? b=some o)
  (slot:∀ b o,b≠X.env.locals→b∈X.fs→b∉ch→s.heap.get? b=some o→H b=none→∃ sl,h'.get? b=some { o with slots:=sl }) (free:∀ b o,b∉ch→s.heap.get? b=some o→H b=none→H' b=none)
  (there:∀ b o,b∉ch→s.heap.get? b=some o→∃ o',h'.get? b=some o')
  (tups:∀ b xs,H b=some (.tup xs)→H' b=some (.tup xs)) (frzs:∀ b o u,H b=some (.frz o u)→H' b=some (.frz o u)) (tbls:∀ b ps,H b=some (.tbl ps)→∃ more,H' b=some (.tbl (ps ++ more)))
  (ns:∀ m,s.heap.Ns X.env.locals m→h'.Ns X.env.locals m) (hok:HOk X.prog X.w H' h') (hg:AllBare g') :
  Inv X pins σ H' { s with heap:=h',gens:=g',drawn:=d',toks:=t' }:=by
 have neL:∀ b o,X.s_0.heap.get? b=some o→b≠X.env.locals:=fun b o e=>Nat.ne_of_lt (Nat.lt_of_lt_of_le (Heap.lt_size e) I.ok.above)
 have neC:∀ b o,X.s_0.heap.get? b=some o→b∉X.ex→b∉ch:=fun b o e hx hb=>by
  rcases (hch b hb).1 with z | z
  ·exact hx z
  ·exact absurd (Nat.lt_of_lt_of_le (Heap.lt_size e) z) (Nat.lt_irrefl _)
 have cellK:∀ x c,X.env.cells.lookup x=some c→∀ v,s.heap.IsCell c v→h'.IsCell c v:=fun x c e v ⟨o,ho,hd⟩=>by
  have nch:c∉ch:=fun z=>(hch c z).2.2.1 x c e rfl
  by_cases hc:c∈X.fs
  ·obtain ⟨sl,q⟩:=slot c o (I.cne x c e) hc nch ho (I.freeC x c e)
   exact ⟨_,q,hd⟩
  ·exact ⟨o,keep c o (I.cne x c e) hc nch ho (I.freeC x c e),hd⟩
 refine ⟨I.ok,I.os,hg,⟨fun b o e n hb hx=>?_,fun b o e n hb hx=>?_,fun b o e n hx=>?_,fun b o e hx=>?_,fun b xs e=>tups b xs (I.base.tups b xs e),fun b o xs e=>frzs b o xs (I.base.frzs b o xs e),fun b ps e=>?_⟩,?_,fun x c e=>?_,?_,fun x c e=>?_,fun p hp=>?_,hok,I.len⟩
 ·exact keep b o (neL b o e) hb (neC b o e hx) (I.base.keep b o e n hb hx) (I.base.free b o e n hx)
 ·obtain ⟨sl,e1⟩:=I.base.slot b o e n hb hx
  obtain ⟨sl',e2⟩:=slot b _ (neL b o e) hb (neC b o e hx) e1 (I.base.free b o e n hx)
  exact ⟨sl',e2⟩
 ·obtain ⟨o',e1⟩:=I.base.there b o e hx
  exact free b o' (neC b o e hx) e1 (I.base.free b o e n hx)
 ·obtain ⟨o',e1⟩:=I.base.there b o e hx
  exact there b o' (neC b o e hx) e1
 ·obtain ⟨m1,e1⟩:=I.base.tbls b ps e
  obtain ⟨m2,e2⟩:=tbls b _ e1
  exact ⟨m1 ++ m2,by rw [e2,Array.append_assoc]⟩
 ·obtain ⟨m,hn,hl⟩:=I.loc
  refine ⟨m,ns m hn,fun i x v e1 e2 e3=>?_⟩
  obtain ⟨u,r,l⟩:=hl i x v e1 e2 e3
  refine ⟨u,r,?_⟩
  rcases l with l | ⟨k,c,e,z⟩
  ·exact .inl l
  ·exact .inr ⟨k,c,e,cellK x c e _ z⟩
 ·obtain ⟨v,z⟩:=I.cell x c e
  exact ⟨v,cellK x c e v z⟩
 ·obtain ⟨m,⟨o,_,_,ho,_⟩,_⟩:=I.loc
  exact free _ o (fun z=>(hch _ z).2.1 rfl) ho I.free
 ·obtain ⟨v,o,ho,hd⟩:=I.cell x c e
  exact free c o (fun z=>(hch c z).2.2.1 x c e rfl) ho (I.freeC x c e)
 ·obtain ⟨e,n,ne,nf,d⟩:=I.pin p hp
  have nch:p.1∉ch:=fun z=>(hch p.1 z).2.2.2 p hp rfl
  exact ⟨keep p.1 p.2 ne nf nch e n,free p.1 p.2 nch e n,ne,nf,d⟩
theorem Inv.un{t':Nat}(I:Inv X pins σ H s)(u:Un X.fs [] H H' s.heap h')(hok:HOk X.prog X.w H' h'):Inv X pins σ H' { s with heap:=h',toks:=t' }:=by
 obtain ⟨m,⟨o,es,ep,ho,r⟩,_⟩:=id I.loc
 obtain ⟨sl,hL⟩:=u.any ho I.free (by simp)
 exact I.step (g':=s.gens) (d':=s.drawn) (ch:=[]) (fun _ z=>nomatch z) (fun b o _ hb _ e n=>u.keep b o e n hb (by simp)) (fun b o _ hb _ e n=>u.slot b o e n hb (by simp)) (fun b o _ e n=>u.free b o e n (by simp)) (fun b o _ e=>u.there b o e (by simp)) u.tups u.frzs u.tbls (fun m' hm=>by
  obtain ⟨o',es',ep',ho',r'⟩:=hm
  rw [ho] at ho';cases ho'
  exact ⟨_,es',ep',hL,r'⟩) hok I.bare
theorem Inv.call{g':Array GenState}{t':Nat}{d':Drawn}{ch:List Addr}(I:Inv X pins σ H s)(u:Un (frs X.stack) ch H H' s.heap h')(hok:HOk X.prog X.w H' h')(hg:AllBare g')
  (hch:∀ b∈ch,(b∈X.ex∨X.s_0.heap.objs.size≤b)∧b≠X.env.locals∧(∀ x c,X.env.cells.lookup x=some c→c≠b)∧∀ p∈X.pn ++ pins,p.1≠b) :
  Inv X pins σ H' { s with heap:=h',gens:=g',drawn:=d',toks:=t' }:=by
 obtain ⟨m,⟨o,es,ep,ho,r⟩,_⟩:=id I.loc
 obtain ⟨sl,hL⟩:=u.any ho I.free fun z=>(hch _ z).2.1 rfl
 exact I.step (ch:=ch) hch (fun b o hL hb hc e n=>u.keep b o e n (fun z=>(List.mem_cons.mp (I.stkSub b z)).elim hL hb) hc) (fun b o _ _ hc e n=>u.any e n hc) (fun b o hc e n=>u.free b o e n hc) (fun b o hc e=>u.there b o e hc) u.tups u.frzs u.tbls (fun m' hm=>by
  obtain ⟨o',es',ep',ho',r'⟩:=hm
  rw [ho] at ho';cases ho'
  exact ⟨_,es',ep',hL,r'⟩) hok hg
theorem Inv.turned{t':Nat}{it:Addr}(I:Inv X pins σ H s)(k:∀ b o,b≠it→s.heap.get? b=some o→h'.get? b=some o)(hn:H it=none)(hL:it≠X.env.locals)
  (h1:it∈X.ex∨X.s_0.heap.objs.size≤it) (h2:∀ x c,X.env.cells.lookup x=some c→c≠it) (h3:∀ p∈X.pn ++ pins,p.1≠it):Inv X pins σ H { s with heap:=h',toks:=t' }:=by
 have nit:∀ b u,H b=some u→b≠it:=fun b u e z=>by rw [z,hn] at e;cases e
 refine I.step (g':=s.gens) (d':=s.drawn) (ch:=[it]) (fun b hb=>?_) (fun b o _ _ hc e _=>k b o (fun z=>hc (by simp [z])) e) (fun b o _ _ hc e _=>⟨o.slots,k b o (fun z=>hc (by simp [z])) e⟩) (fun _ _ _ _ n=>n)
  (fun b o hc e=>⟨o,k b o (fun z=>hc (by simp [z])) e⟩) (fun _ _ e=>e) (fun _ _ _ e=>e) (fun b ps e=>⟨#[],by rw [e];simp⟩) (fun m hm=>?_) (fun b u e=>?_) I.bare
 ·have e:b=it:=by simpa using hb
  subst e
  exact ⟨h1,hL,h2,h3⟩
 ·obtain ⟨o,es,ep,ho,r⟩:=hm
  exact ⟨o,es,ep,k _ o (Ne.symm hL) ho,r⟩
 ·refine (I.hok b u e).stay (fun c v hc q=>k c v ?_ q) (fun _ q=>q) fun _ _ q=>q
  rcases hc with z | z
  ·rw [z];exact nit b u e
  ·exact nit c _ z
theorem Inv.tok(I:Inv X pins σ H s)(t:Nat):Inv X pins σ H { s with toks:=t }:=I.un (h':=s.heap) (t':=t) Un.refl I.hok
theorem Inv.kept{t':Nat}(I:Inv X pins σ H s)(k:∀ b u,s.heap.get? b=some u→h'.get? b=some u):Inv X pins σ H { s with heap:=h',toks:=t' }:=I.un (Un.kept k) (I.hok.kept k)
theorem Inv.laid{a:Addr}{o:HO}{t':Nat}(I:Inv X pins σ H s)(k:∀ b u,s.heap.get? b=some u→h'.get? b=some u)(hp:s.heap.objs.size≤a)(new:ObjOk X.prog X.w (upd H a o) h' a o) :
  Inv X pins σ (upd H a o) { s with heap:=h',toks:=t' }:=I.un (Un.laid k hp (I.hok.fresh hp)) (I.hok.laid k hp new)
theorem Inv.write{x e:Addr}{o:HO}{t':Nat}(I:Inv X pins σ H s)(mu:Mut (H x))(he:e=x∨H e=some (.own x))(k:∀ b u,b≠e→s.heap.get? b=some u→h'.get? b=some u)(heo:∃ u,h'.get? e=some u)
  (new:ObjOk X.prog X.w (upd H x o) h' x o):Inv X pins σ (upd H x o) { s with heap:=h',toks:=t' }:=I.un (Un.write mu he k heo) (I.hok.write mu he k heo new)
theorem Inv.pins_of{pins':List (Addr×Obj)}(I:Inv X pins σ H s)(h:∀ p∈pins',s.heap.get? p.1=some p.2∧H p.1=none∧p.1≠X.env.locals∧p.1∉X.fs∧∀ v,p.2.data≠.cell v):Inv X pins' σ H s :=
 ⟨I.ok,I.os,I.bare,I.base,I.loc,I.cell,I.free,I.freeC,fun p hp=>(List.mem_append.mp hp).elim (fun z=>I.pin p (List.mem_append_left _ z)) (h p),I.hok,I.len⟩
theorem nodup_ix{N:List Str}(hN:N.Nodup){i j:Nat}{x:Str}(a:N[i]? = some x)(b:N[j]? = some x):i=j:=by
 obtain ⟨h1,e1⟩:=List.getElem?_eq_some_iff.mp a
 obtain ⟨h2,e2⟩:=List.getElem?_eq_some_iff.mp b
 exact (List.getElem_inj hN).mp (e1.trans e2.symm)
theorem store_ok2{M:Model}{A:Around}{E:Value→Shared→Prop}{i:Nat}{x:Str}{v:V}{u:Value}{Q:Unit→Shared→Prop}(I:Inv X pins σ H s)(hN:X.N.Nodup)(hi:X.N[i]? = some x)(hx:Loc X.env.scope x)(r:RelV v u)
  (h:∀ s',Inv X pins (σ.set i (some v)) H s'→(∃ a,Heap.SameBut a s.heap s'.heap∧(a=X.env.locals∨X.env.cells.lookup x=some a))→Q () s') (hf:X.fn x=true∨X.env.scope.names.lookup x=some .local:=by first | exact .inl rfl | exact .inr rfl | assumption):wpAny M A (storeName X.env x u) Q E s:=by
 obtain ⟨m,hn,hl⟩:=id I.loc
 have hcls:(X.env.scope.kind == .class || (X.env.scope.kind == .module && X.env.locals != X.env.globals))=false:=by rw [I.ok.kind];rfl
 have hiσ:i < σ.length:=by rw [I.len];exact (List.getElem?_eq_some_iff.mp hi).1
 have cne:=I.cne
 have tracked:∀ {a:Addr} {h':Heap},(∃ o,s.heap.get? a=some o∧H a=none)→Heap.SameBut a s.heap h'→HOk X.prog X.w H h':=fun {a h'} ha hs b ob e=>by
  obtain ⟨_,_,hfree⟩:=ha
  refine (I.hok b ob e).stay (fun c w' hc q=>(hs.2 c ?_).trans q) (fun _ q=>q) fun _ _ q=>q
  rintro rfl
  rcases hc with rfl | hc
  ·rw [hfree] at e;cases e
  ·rw [hfree] at hc;cases hc
 rcases hx with hk | hk
 ·refine wpAny_storeName_local hk hn (fun h' hn' hs=>?_) hcls
  obtain ⟨oL,_,_,hoL,_⟩:=id hn
  refine h _ ⟨I.ok,I.os,I.bare,⟨fun b o e n hb hx=>?_,fun b o e n hb hx=>?_,I.base.free,fun b o e hx=>?_,I.base.tups,I.base.frzs,I.base.tbls⟩,⟨_,hn',fun j y v' e1 e2 e3=>?_⟩,fun y c e=>?_,I.free,I.freeC,fun p hp=>?_,tracked ⟨oL,hoL,I.free⟩ hs,by simpa using I.len⟩ ⟨_,hs,.inl rfl⟩
  ·exact (hs.2 b (Nat.ne_of_lt (Nat.lt_of_lt_of_le (Heap.lt_size e) I.ok.above))).trans (I.base.keep b o e n hb hx)
  ·obtain ⟨sl,e1⟩:=I.base.slot b o e n hb hx
   exact ⟨sl,(hs.2 b (Nat.ne_of_lt (Nat.lt_of_lt_of_le (Heap.lt_size e) I.ok.above))).trans e1⟩
  ·obtain ⟨o',e1⟩:=I.base.there b o e hx
   exact ⟨o',(hs.2 b (Nat.ne_of_lt (Nat.lt_of_lt_of_le (Heap.lt_size e) I.ok.above))).trans e1⟩
  ·by_cases hj:j=i
   ·subst hj
    rw [hi] at e1;cases e1
    rw [List.getElem?_set_self hiσ] at e2
    cases e2
    exact ⟨u,r,.inl ⟨hk,by simp⟩⟩
   ·rw [List.getElem?_set_ne (Ne.symm hj)] at e2
    obtain ⟨u',r',q⟩:=hl j y v' e1 e2 e3
    refine ⟨u',r',?_⟩
    rcases q with ⟨k,e⟩ | ⟨k,c,e,z⟩
    ·refine .inl ⟨k,?_⟩
     have:y≠x:=fun e=>hj (nodup_ix hN e1 (e▸hi))
     simp [this,e]
    ·exact .inr ⟨k,c,e,z.sameBut hs (cne y c e)⟩
  ·obtain ⟨w',z⟩:=I.cell y c e
   exact ⟨w',z.sameBut hs (cne y c e)⟩
  ·obtain ⟨e,n,ne,nf,d⟩:=I.pin p hp
   exact ⟨(hs.2 p.1 ne).trans e,n,ne,nf,d⟩
 ·have hfn:X.fn x=true:=by
   rcases hf with z | z
   ·exact z
   ·rw [z] at hk;cases hk
  obtain ⟨c,hc⟩:=I.ok.has x (.inl hk)
  obtain ⟨w',z⟩:=I.cell x c hc
  refine wpAny_storeName_cell I.ok.kind hk hc z (fun h' hc' hs=>?_)
  obtain ⟨oc,hoc,hocd⟩:=id z
  refine h { s with heap:=h' } ⟨I.ok,I.os,I.bare,⟨fun b o e n hb hx=>?_,fun b o e n hb hx=>?_,I.base.free,fun b o e hx=>?_,I.base.tups,I.base.frzs,I.base.tbls⟩,⟨m,hn.sameBut hs (Ne.symm (cne x c hc)),fun j y v' e1 e2 e3=>?_⟩,fun y c' e=>?_,I.free,I.freeC,fun p hp=>?_,tracked ⟨oc,hoc,I.freeC x c hc⟩ hs,by simpa using I.len⟩ ⟨c,hs,.inr hc⟩
  ·exact (hs.2 b (Nat.ne_of_lt (Nat.lt_of_lt_of_le (Heap.lt_size e) (I.ok.cab x c hfn hc)))).trans (I.base.keep b o e n hb hx)
  ·obtain ⟨sl,e1⟩:=I.base.slot b o e n hb hx
   exact ⟨sl,(hs.2 b (Nat.ne_of_lt (Nat.lt_of_lt_of_le (Heap.lt_size e) (I.ok.cab x c hfn hc)))).trans e1⟩
  ·obtain ⟨o',e1⟩:=I.base.there b o e hx
   exact ⟨o',(hs.2 b (Nat.ne_of_lt (Nat.lt_of_lt_of_le (Heap.lt_size e) (I.ok.cab x c hfn hc)))).trans e1⟩
  ·by_cases hj:j=i
   ·subst hj
    rw [hi] at e1;cases e1
    rw [List.getElem?_set_self hiσ] at e2
    cases e2
    exact ⟨u,r,.inr ⟨.inl hk,c,hc,hc'⟩⟩
   ·rw [List.getElem?_set_ne (Ne.symm hj)] at e2
    obtain ⟨u',r',q⟩:=hl j y v' e1 e2 e3
    refine ⟨u',r',?_⟩
    rcases q with q | ⟨k,c',e,z'⟩
    ·exact .inl q
    ·refine .inr ⟨k,c',e,z'.sameBut hs ?_⟩
     rintro rfl
     exact hj (nodup_ix hN e1 (I.ok.inj _ _ _ e hc▸hi))
  ·by_cases hcc:c'=c
   ·subst hcc;exact ⟨_,hc'⟩
   ·obtain ⟨w2,z2⟩:=I.cell y c' e
    exact ⟨w2,z2.sameBut hs hcc⟩
  ·obtain ⟨e,n,ne,nf,d⟩:=I.pin p hp
   refine ⟨(hs.2 p.1 ?_).trans e,n,ne,nf,d⟩
   intro q
   rw [q,hoc] at e
   have q':oc=p.2:=Option.some.inj e
   exact d w' (by rw [← q'];exact hocd)
theorem store_ok{M:Model}{A:Around}{E:Value→Shared→Prop}{i:Nat}{x:Str}{v:V}{u:Value}{Q:Unit→Shared→Prop}(I:Inv X pins σ H s)(hN:X.N.Nodup)(hi:X.N[i]? = some x)(hx:Loc X.env.scope x)(r:RelV v u)
  (h:∀ s',Inv X pins (σ.set i (some v)) H s'→Q () s') (hf:X.fn x=true∨X.env.scope.names.lookup x=some .local:=by first | exact .inl rfl | exact .inr rfl | assumption):wpAny M A (storeName X.env x u) Q E s :=
 store_ok2 I hN hi hx r (fun s' I' _=>h s' I') hf
theorem Inv.call'{s':Shared}{ch:List Addr}(I:Inv X pins σ H s)(ho:s'.os=s.os)(u:Un (frs X.stack) ch H H' s.heap s'.heap)(hok:HOk X.prog X.w H' s'.heap)(hg:AllBare s'.gens)
  (hch:∀ b∈ch,(b∈X.ex∨X.s_0.heap.objs.size≤b)∧b≠X.env.locals∧(∀ x c,X.env.cells.lookup x=some c→c≠b)∧∀ p∈X.pn ++ pins,p.1≠b):Inv X pins σ H' s':=by
 obtain ⟨h',g',d',t',o'⟩:=s'
 have e:o'=s.os:=ho
 subst e
 exact I.call (g':=g') (t':=t') (d':=d') u hok hg hch
end
abbrev XK:=Value→Option Addr→Hp→Prop
abbrev St:=List (Option V)
abbrev VK:=V→Hp→Prop
abbrev TE:=St→Hp→VK→Prop
abbrev TT:=St→Hp→(Bool→Hp→Prop)→Prop
abbrev TA:=St→Hp→(List V→Hp→Prop)→Prop
structure Ends where
 nx:St→Hp→Prop
 rt:VK
 bk:St→Hp→Prop:=fun _ _=>False
 ct:St→Hp→Prop:=fun _ _=>False
abbrev TS:=Ends→St→Hp→Prop
def EP(X:Cx)(pins:List (Addr×Obj))(σ:St)(Q:VK)(u:Value)(s':Shared):Prop:=∃ v H',Inv X pins σ H' s'∧RelV v u∧Q v H'
def TP(X:Cx)(pins:List (Addr×Obj))(σ:St)(Q:Bool→Hp→Prop)(b:Bool)(s':Shared):Prop:=∃ H',Inv X pins σ H' s'∧Q b H'
def AP(X:Cx)(pins:List (Addr×Obj))(σ:St)(Q:List V→Hp→Prop)(us:List Value)(s':Shared):Prop:=∃ vs H',Inv X pins σ H' s'∧Vals vs us∧Q vs H'
def SP(X:Cx)(pins:List (Addr×Obj))(D:Ends)(f:Flow)(s':Shared):Prop :=
 match f with
 | .next=>∃ σ' H',Inv X pins σ' H' s'∧D.nx σ' H'
 | .brk=>∃ σ' H',Inv X pins σ' H' s'∧D.bk σ' H'
 | .cont=>∃ σ' H',Inv X pins σ' H' s'∧D.ct σ' H'
 | .ret u=>∃ v σ' H',Inv X pins σ' H' s'∧RelV v u∧D.rt v H'
def PE(X:Cx)(e:Expr)(t:TE):Prop :=
 ∀ (pins:List (Addr×Obj)) (s:Shared) (σ:St) (H:Hp) (Q:VK),Inv X pins σ H s→t σ H Q→wpAny (model X.prog X.w) X.A (eval e X.env) (EP X pins σ Q) X.xe s
def PT(X:Cx)(e:Expr)(t:TT):Prop :=
 ∀ (pins:List (Addr×Obj)) (s:Shared) (σ:St) (H:Hp) (Q:Bool→Hp→Prop),Inv X pins σ H s→t σ H Q→wpAny (model X.prog X.w) X.A (isTrue e X.env (eval e X.env)) (TP X pins σ Q) X.xe s
def PW(X:Cx)(e:Expr)(t:TT):Prop :=
 ∀ (whole:Sem Value) (pins:List (Addr×Obj)) (s:Shared) (σ:St) (H:Hp) (Q:Bool→Hp→Prop),Inv X pins σ H s→t σ H Q→wpAny (model X.prog X.w) X.A (isTrue e X.env whole) (TP X pins σ Q) X.xe s
theorem PW.pt{X:Cx}{e:Expr}{t:TT}(h:PW X e t):PT X e t:=h _
def PA(X:Cx)(es:List Expr)(t:TA):Prop :=
 ∀ (pos:Pos) (pins:List (Addr×Obj)) (s:Shared) (σ:St) (H:Hp) (Q:List V→Hp→Prop),Inv X pins σ H s→t σ H Q→wpAny (model X.prog X.w) X.A (spliced (backTo pos (starEach es X.env))) (AP X pins σ Q) X.xe s
def PS(X:Cx)(st:Stmt)(t:TS):Prop :=
 ∀ (pins:List (Addr×Obj)) (s:Shared) (σ:St) (H:Hp) (D:Ends),Inv X pins σ H s→t D σ H→wpAny (model X.prog X.w) X.A (exec st X.env) (SP X pins D) X.xe s
def PSs(X:Cx)(st:List Stmt)(t:TS):Prop :=
 ∀ (pins:List (Addr×Obj)) (s:Shared) (σ:St) (H:Hp) (D:Ends),Inv X pins σ H s→t D σ H→wpAny (model X.prog X.w) X.A (execs st X.env) (SP X pins D) X.xe s
theorem thn{α:Type}{t:Sem α}{Q Q':α→Shared→Prop}{M:Model}{A:Around}{E:Value→Shared→Prop}{s:Shared}(h:wpAny M A t Q E s)(hQ:∀ a s,Q a s→Q' a s):wpAny M A t Q' E s:=wpAny_mono h hQ fun _ _ x=>x
end L2
namespace L2
open PySem PySem.Spec PyProof.Rows
section
variable{X:Cx}
theorem bin{a b:Expr}{ta tb:TE}(ha:PE X a ta)(hb:PE X b tb){pins:List (Addr×Obj)}{s:Shared}{σ:St}{H:Hp}{R:V→V→Hp→Prop}(I:Inv X pins σ H s)(h:ta σ H fun x H1=>tb σ H1 fun y H2=>R x y H2)
  {α:Type} {Q:α→Shared→Prop} {f:Value→Value→Sem α}
  (hf:∀ v u s2 x y H2,Inv X pins σ H2 s2→RelV x v→RelV y u→R x y H2→wpAny (model X.prog X.w) X.A (f v u) Q X.xe s2) :
  wpAny (model X.prog X.w) X.A (eval a X.env) (fun v s₁=>wpAny (model X.prog X.w) X.A (eval b X.env) (fun u s₂=>wpAny (model X.prog X.w) X.A (f v u) Q X.xe s₂) X.xe s₁) X.xe s:=by
 refine thn (ha pins s σ H _ I h) fun v s1 ⟨x,H1,I1,r1,q1⟩=>?_
 refine thn (hb pins s1 σ H1 _ I1 q1) fun u s2 ⟨y,H2,I2,r2,q2⟩=>?_
 exact hf v u s2 x y H2 I2 r1 r2 q2
def tVar(i:Nat):TE:=fun σ H Q=>∃ v,σ[i]? = some (some v)∧Q v H
def tC(v:V):TE:=fun _ H Q=>Q v H
theorem pe_var{i:Nat}{x:Str}{pos:Pos}(hN:X.N[i]? = some x)(hv:Vis X.env.scope x)(hd:(x == ("__debug__":Str))=false:=by decide)(hcd:(x == ("__classdict__":Str))=false:=by decide):PE X (.Name x pos) (tVar i):=by
 intro pins s σ H Q I h
 obtain ⟨v,e,h⟩:=h
 obtain ⟨m,hn,hl⟩:=I.loc
 obtain ⟨u,r,l⟩:=hl i x v hN e hv
 have fin:EP X pins σ Q u s:=⟨v,H,I,r,h⟩
 rcases l with ⟨hk,hm⟩ | ⟨hk,c,hc,hcell⟩
 ·exact wpAny_Name (wpAny_loadName_local I.ok.kind hk hn hm fin) hd
 ·rcases hk with hk | hk
  ·exact wpAny_Name (wpAny_loadName_cell I.ok.kind hk hc hcell fin) hd
  ·exact wpAny_Name (wpAny_loadName_free I.ok.kind hk hc hcell fin hcd) hd
theorem pe_int{i j pos}:PE X (.Constant (.int i) j pos) (tC (.int i)):=fun _ _ _ H _ I h=>wpAny_Constant_int ⟨.int i,H,I.tok _,⟨_,rfl⟩,h⟩
theorem pe_bl{b j pos}:PE X (.Constant (.bool b) j pos) (tC (.bl b)):=fun _ _ _ H _ I h=>Constant_bool ⟨.bl b,H,I,rfl,h⟩
theorem pe_non{j pos}:PE X (.Constant .none j pos) (tC .non):=fun _ _ _ H _ I h=>Constant_none ⟨.non,H,I,rfl,h⟩
theorem pe_str{x j pos}:PE X (.Constant (.str x) j pos) (tC (.str x)):=fun _ _ _ H _ I h=>Calls.Constant_str ⟨.str x,H,I.tok _,⟨_,rfl⟩,h⟩
def Gl(X:Cx)(x:Str):Prop:=X.env.kindOf x=some .globalImplicit
theorem ld_glob{E:Value→Shared→Prop}{pins:List (Addr×Obj)}{s:Shared}{σ:St}{H:Hp}{x:Str}{u:Value}{pos:Pos}{Q:Value→Shared→Prop}(I:Inv X pins σ H s)(hg:Gl X x)(hm:X.mg x=some u)(h:Q u s)
  (hd:(x == ("__debug__":Str))=false:=by decide):wpAny (model X.prog X.w) X.A (eval (.Name x pos) X.env) Q E s :=
 Calls.Name_function_global I.ok.kind hg (Calls.loadGlobal_global (by rw [I.ok.glob];exact I.mod.glob.keeps I.bk) hm h) hd
theorem ld_blt{E:Value→Shared→Prop}{pins:List (Addr×Obj)}{s:Shared}{σ:St}{H:Hp}{x:Str}{u:Value}{pos:Pos}{Q:Value→Shared→Prop}(I:Inv X pins σ H s)(hg:Gl X x)(hm:X.mg x=none)(hv:bootBuiltins x=some u)(h:Q u s)
  (hn:x≠"__name__":=by decide) (hd:(x == ("__debug__":Str))=false:=by decide):wpAny (model X.prog X.w) X.A (eval (.Name x pos) X.env) Q E s:=by
 obtain ⟨mb,h1,h2⟩:=I.mod.blt
 exact Calls.Name_function_global I.ok.kind hg (Calls.loadGlobal_builtin (by rw [I.ok.glob];exact I.mod.glob.keeps I.bk) hm (by rw [I.ok.blt];exact h1.keeps I.bk) ((h2 x hn).trans hv) h) hd
theorem pe_glob{x:Str}{v:V}{u:Value}{pos:Pos}(hg:Gl X x)(hm:X.mg x=some u)(r:RelV v u)(hd:(x == ("__debug__":Str))=false:=by decide):PE X (.Name x pos) (tC v) :=
 fun _ _ _ H _ I h=>ld_glob I hg hm ⟨v,H,I,r,h⟩ hd
variable{a b:Expr}{ta tb:TE}{pos:Pos}
def PC(X:Cx)(op:CmpOp)(a b:Expr)(t:TE):Prop :=
 ∀ (pins:List (Addr×Obj)) (s:Shared) (σ:St) (H:Hp) (Q:VK),Inv X pins σ H s→t σ H Q→
  wpAny (model X.prog X.w) X.A (eval a X.env) (fun v s₁=>wpAny (model X.prog X.w) X.A (eval b X.env) (fun u s₂=>wpAny (model X.prog X.w) X.A (compareOp op v u) (EP X pins σ Q) X.xe s₂) X.xe s₁) X.xe s
def tB(t:TE):TT:=fun σ H Q=>t σ H fun x H1=>∃ c,x = .bl c∧Q c H1
theorem pt_cmp{op:CmpOp}{t:TE}(h:PC X op a b t)(h1:behindInMarks op b=false:=by first | exact nobehind _ (by decide) (by decide) | rfl):PT X (.Compare a [op] [b] pos) (tB t):=by
 intro pins s σ H Q I hw
 refine wpAny_isTrue_Compare1 (thn (h pins s σ H _ I hw) fun v s1 h1=>thn h1 fun u s2 h2=>thn h2 fun c s3 ⟨x,H1,I1,r1,q1⟩=>?_) h1
 obtain ⟨d,rfl,q⟩:=q1
 cases r1
 exact wpAny_truthy_bool ⟨H1,I1,q⟩
theorem pt_val{e:Expr}{t:TE}(h:PE X e t)(he:∀ whole,isTrue e X.env whole=(do let v ← whole;standAt e.pos;holding [v] (truthy v)):=by intro _;rfl):PT X e (tB t):=by
 intro pins s σ H Q I hw
 refine isTrue_plain (thn (h pins s σ H _ I hw) fun v s1 ⟨x,H1,I1,r1,q1⟩=>?_) (he _)
 obtain ⟨d,rfl,q⟩:=q1
 cases r1
 exact wpAny_truthy_bool ⟨H1,I1,q⟩
variable{tA tB':TT}{rest:List Expr}
def tAnd(t u:TT):TT:=fun σ H Q=>t σ H fun c H1=>if c=true then u σ H1 Q else Q false H1
def tOr(t u:TT):TT:=fun σ H Q=>t σ H fun c H1=>if c=true then Q true H1 else u σ H1 Q
def tNot(t:TT):TT:=fun σ H Q=>t σ H fun c H1=>Q (!c) H1
theorem pw_and1(ha:PT X a tA):PW X (.BoolOp .And [a] pos) tA:=by
 intro wh pins s σ H Q I h
 refine isTrue_and (thn (ha pins s σ H Q I h) fun c s1 e=>?_)
 cases c with
 | true=>exact isTrue_and_nil e
 | false=>exact e
theorem pw_or1(ha:PT X a tA):PW X (.BoolOp .Or [a] pos) tA:=by
 intro wh pins s σ H Q I h
 refine isTrue_or (thn (ha pins s σ H Q I h) fun c s1 e=>?_)
 cases c with
 | false=>exact isTrue_or_nil e
 | true=>exact e
theorem pw_and(ha:PT X a tA)(hb:PW X (.BoolOp .And (b::rest) pos) tB'):PW X (.BoolOp .And (a::b::rest) pos) (tAnd tA tB'):=by
 intro wh pins s σ H Q I h
 refine isTrue_and (thn (ha pins s σ H _ I h) fun c s1 ⟨H1,I1,q1⟩=>?_)
 cases c with
 | true=>exact hb wh pins s1 σ H1 Q I1 q1
 | false=>exact ⟨H1,I1,q1⟩
theorem pw_or(ha:PT X a tA)(hb:PW X (.BoolOp .Or (b::rest) pos) tB'):PW X (.BoolOp .Or (a::b::rest) pos) (tOr tA tB'):=by
 intro wh pins s σ H Q I h
 refine isTrue_or (thn (ha pins s σ H _ I h) fun c s1 ⟨H1,I1,q1⟩=>?_)
 cases c with
 | true=>exact ⟨H1,I1,q1⟩
 | false=>exact hb wh pins s1 σ H1 Q I1 q1
theorem pt_not(ha:PT X a tA):PT X (.UnaryOp .Not a pos) (tNot tA):=by
 intro pins s σ H Q I h
 exact isTrue_not (ha pins s σ H (fun c H1=>Q (!c) H1) I h)
def tOrV(ta tb:TE):TE:=fun σ H Q=>ta σ H fun x H1=>∃ c,x = .bl c∧if c=true then Q (.bl true) H1 else tb σ H1 Q
theorem pe_one{op}{t:TE}(h:PE X a t):PE X (.BoolOp op [a] pos) t:=fun pins s σ H Q I hw=>BoolOp_one (h pins s σ H Q I hw)
theorem pe_or(ha:PE X a ta)(hb:PE X (.BoolOp .Or (b::rest) pos) tb):PE X (.BoolOp .Or (a::b::rest) pos) (tOrV ta tb):=by
 intro pins s σ H Q I h
 refine BoolOp_or (thn (ha pins s σ H _ I h) fun v s1 ⟨x,H1,I1,r1,q1⟩=>?_)
 obtain ⟨c,rfl,q1⟩:=q1
 cases r1
 refine wpAny_truthy_bool ?_
 cases c with
 | false=>exact hb pins s1 σ H1 Q I1 q1
 | true=>exact ⟨.bl true,H1,I1,rfl,q1⟩
end
end L2
namespace L2
open PySem PySem.Spec PyProof.Rows
def SqL(K:PySem.W.Frag)(H:Hp)(a:Addr)(xs:List V):Prop :=
 Rd H a (.lst xs)∨
  ∃ (o:Obj) (its:Array Value) (n:Nat),K.lookup a=some o∧o.cls = .type "list"∧o.dict=none∧o.data = .seq its n∧its.size≤sizeLine∧Vals xs its.toList
def SqT(K:PySem.W.Frag)(H:Hp)(a:Addr)(xs:List V):Prop :=
 Rd H a (.tup xs)∨
  ∃ (o:Obj) (its:Array Value) (n:Nat),K.lookup a=some o∧o.cls = .type "tuple"∧o.data = .seq its n∧its.size≤sizeLine∧Vals xs its.toList
def absV:Value→Option V
 | .none=>some .non
 | .bool b=>some (.bl b)
 | .int i _=>some (.int i)
 | .str x _=>some (.str x)
 | .bytes b _=>some (.byt b)
 | .float b _=>some (.flt b)
 | .ref a=>some (.ref a)
 | .type n=>some (.ty n)
 | _=>none
theorem RelV.abs{x:V}{u:Value}(r:RelV x u):absV u=some x:=by
 cases x with
 | non=>cases r;rfl
 | bl _=>cases r;rfl
 | int _=>obtain ⟨t,rfl⟩:=r;rfl
 | str _=>obtain ⟨t,rfl⟩:=r;rfl
 | byt _=>obtain ⟨t,rfl⟩:=r;rfl
 | flt _=>obtain ⟨t,rfl⟩:=r;rfl
 | ref _=>cases r;rfl
 | ty _=>cases r;rfl
theorem RelV.inj{x y:V}{u:Value}(r:RelV x u)(q:RelV y u):x=y:=Option.some.inj (r.abs.symm.trans q.abs)
theorem Vals.inj:∀ {xs ys:List V} {us:List Value},Vals xs us→Vals ys us→xs=ys
 | _,_,_,.nil,.nil=>rfl
 | _,_,_,.cons r t,.cons r' t'=>by rw [r.inj r',Vals.inj t t']
section
variable{X:Cx}{pins:List (Addr×Obj)}{σ:St}{H:Hp}{s:Shared}{a:Addr}{xs ys:List V}
theorem SqL.of{K:PySem.W.Frag}(h:H a=some (.lst xs)):SqL K H a xs:=.inl (.inl h)
theorem SqT.of{K:PySem.W.Frag}(h:H a=some (.tup xs)):SqT K H a xs:=.inl (.inl h)
theorem Inv.list(I:Inv X pins σ H s)(h:SqL X.K H a xs):∃ its:List Value,Vals xs its∧PlainL s.heap a its.toArray∧xs.length≤sizeLine:=by
 rcases h with h | ⟨o,its,n,hk,hc,hd,hs,hz,r⟩
 ·obtain ⟨z,its,n,r,e⟩:=h.ok I.hok
  exact ⟨its,r,⟨_,n,e,rfl,rfl,rfl⟩,z⟩
 ·refine ⟨its.toList,r,⟨o,n,I.kIn a o hk,hc,hd,by simpa using hs⟩,?_⟩
  have e:=r.length
  simp only [Array.length_toList] at e
  omega
theorem Inv.tuple(I:Inv X pins σ H s)(h:SqT X.K H a xs):∃ its:List Value,Vals xs its∧IsTup s.heap a its.toArray∧xs.length≤sizeLine:=by
 rcases h with h | ⟨o,its,n,hk,hc,hs,hz,r⟩
 ·obtain ⟨z,its,r,p⟩:=h.ok I.hok
  exact ⟨its,r,p,z⟩
 ·refine ⟨its.toList,r,⟨o,I.kIn a o hk,hc,n,by simpa using hs⟩,?_⟩
  have e:=r.length
  simp only [Array.length_toList] at e
  omega
theorem Inv.list_inj(I:Inv X pins σ H s)(h:SqL X.K H a xs)(h':SqL X.K H a ys):xs=ys:=by
 obtain ⟨its,r,⟨o,n,e,_,_,d⟩,_⟩:=I.list h
 obtain ⟨its',r',⟨o',n',e',_,_,d'⟩,_⟩:=I.list h'
 rw [e] at e';cases e'
 rw [d] at d'
 injection d' with d1 _
 have:its=its':=by simpa using congrArg Array.toList d1
 subst this
 exact r.inj r'
end
section
variable{X:Cx}{st:Stmt}{rest:List Stmt}{t u:TS}{e:Expr}{te:TE}{pos:Pos}
def tNext:TS:=fun D σ H=>D.nx σ H
def tSeq(t u:TS):TS:=fun D σ H=>t { D with nx:=u D } σ H
theorem pss_nil:PSs X [] tNext:=fun _ _ σ H _ I h=>wpAny_execs_nil ⟨σ,H,I,h⟩
theorem pss_cons(h1:PS X st t)(h2:PSs X rest u):PSs X (st::rest) (tSeq t u):=by
 intro pins s σ H D I h
 refine wpAny_execs_cons (thn (h1 pins s σ H { D with nx:=u D } I h) fun f s1 q=>?_)
 cases f with
 | next =>
  obtain ⟨σ',H',I',q⟩:=q
  exact h2 pins s1 σ' H' D I' q
 | ret v=>exact q
 | brk=>exact q
 | cont=>exact q
theorem pss_one(h1:PS X st t):PSs X [st] t:=by
 intro pins s σ H D I h
 refine wpAny_execs_cons (thn (h1 pins s σ H D I h) fun f s1 q=>?_)
 cases f with
 | next=>exact wpAny_execs_nil q
 | ret v=>exact q
 | brk=>exact q
 | cont=>exact q
theorem Inv.quiet{pins:List (Addr×Obj)}{σ:St}{H:Hp}{s:Shared}(I:Inv X pins σ H s):interactive X.env=false:=by simp [interactive,I.ok.kind]
def tDrop(te:TE):TS:=fun D σ H=>te σ H fun _ H1=>D.nx σ H1
theorem ps_expr(he:PE X e te)(hs:swapsWith e none pos.line X.env=pure false:=by rfl):PS X (.Expr e pos) (tDrop te):=by
 intro pins s σ H D I h
 exact wpAny_Expr_any (thn (he pins s σ H _ I h) fun v s1 ⟨x,H1,I1,r1,q1⟩=>⟨σ,H1,I1,q1⟩) I.quiet hs
def tRet(te:TE):TS:=fun D σ H=>te σ H D.rt
theorem ps_ret(he:PE X e te):PS X (.Return (some e) pos) (tRet te):=by
 intro pins s σ H D I h
 exact wpAny_Return_some (thn (he pins s σ H _ I h) fun v s1 ⟨x,H1,I1,r1,q1⟩=>⟨x,σ,H1,I1,r1,q1⟩)
def tIfS(c:TT)(t u:TS):TS:=fun D σ H=>c σ H fun b H1=>if b=true then t D σ H1 else u D σ H1
theorem ps_if{c:Expr}{a b:List Stmt}{tc:TT}(hc:PT X c tc)(ha:PSs X a t)(hb:PSs X b u):PS X (.If c a b pos) (tIfS tc t u):=by
 intro pins s σ H D I h
 refine wpAny_If (thn (hc pins s σ H _ I h) fun d s1 ⟨H1,I1,q1⟩=>?_)
 cases d with
 | true=>exact ha pins s1 σ H1 D I1 q1
 | false=>exact hb pins s1 σ H1 D I1 q1
end
abbrev TG:=V→St→Hp→(St→Hp→Prop)→Prop
abbrev TGs:=List V→St→Hp→(St→Hp→Prop)→Prop
def PG(X:Cx)(target:Expr)(t:TG):Prop :=
 ∀ (pins:List (Addr×Obj)) (s:Shared) (σ:St) (H:Hp) (v:V) (u:Value) (Q:St→Hp→Prop),Inv X pins σ H s→RelV v u→t v σ H Q→
  wpAny (model X.prog X.w) X.A (assign target X.env u) (fun _ s'=>∃ σ' H',Inv X pins σ' H' s'∧Q σ' H') X.xe s
def PGs(X:Cx)(ts:List Expr)(t:TGs):Prop :=
 ∀ (pins:List (Addr×Obj)) (s:Shared) (σ:St) (H:Hp) (vs:List V) (us:List Value) (Q:St→Hp→Prop),Inv X pins σ H s→Vals vs us→t vs σ H Q→
  wpAny (model X.prog X.w) X.A (assignInOrder ((assignEach ts X.env).map (·.2)) us) (fun _ s'=>∃ σ' H',Inv X pins σ' H' s'∧Q σ' H') X.xe s
abbrev TIp:=V→V→Hp→VK→Prop
def PIp(X:Cx)(op:Operator)(t:TIp):Prop :=
 ∀ (pins:List (Addr×Obj)) (s:Shared) (σ:St) (H:Hp) (x y:V) (v u:Value) (Q:VK),Inv X pins σ H s→RelV x v→RelV y u→t x y H Q→
  wpAny (model X.prog X.w) X.A (inplaceOp op v u) (EP X pins σ Q) X.xe s
section
variable{X:Cx}{pos:Pos}
def gName(i:Nat):TG:=fun v σ H Q=>Q (σ.set i (some v)) H
theorem pg_name{i:Nat}{x:Str}(hN:X.N.Nodup)(hi:X.N[i]? = some x)(hx:Loc X.env.scope x)(hf:X.fn x=true∨X.env.scope.names.lookup x=some .local:=by first | exact .inl rfl | exact .inr rfl | assumption):PG X (.Name x pos) (gName i):=by
 intro pins s σ H v u Q I r h
 exact wpAny_assign_Name (store_ok I hN hi hx r (fun s' I'=>⟨_,H,I',h⟩) hf)
def gNil:TGs:=fun vs σ H Q=>vs=[]∧Q σ H
def gCons(t:TG)(u:TGs):TGs:=fun vs σ H Q=>∃ v r,vs=v::r∧t v σ H fun σ' H'=>u r σ' H' Q
theorem pgs_nil:PGs X [] gNil:=by
 intro pins s σ H vs us Q I r h
 obtain ⟨e,h⟩:=h
 subst e
 cases r
 exact assignInOrder_nil ⟨σ,H,I,h⟩
theorem pgs_cons{e:Expr}{es:List Expr}{t:TG}{u:TGs}(h1:PG X e t)(h2:PGs X es u)
  (hs:(assignEach (e::es) X.env).map (·.2)=assign e X.env::(assignEach es X.env).map (·.2):=by rfl):PGs X (e::es) (gCons t u):=by
 intro pins s σ H vs us Q I r h
 obtain ⟨v,vr,e1,h⟩:=h
 subst e1
 cases r with
 | cons r rr =>
  rw [hs]
  refine assignInOrder_cons (thn (h1 pins s σ H _ _ _ I r h) fun _ s1 ⟨σ1,H1,I1,q1⟩=>?_)
  exact h2 pins s1 σ1 H1 _ _ Q I1 rr q1
def gTup(K:PySem.W.Frag)(n:Nat)(t:TGs):TG:=fun v σ H Q=>∃ a xs,v = .ref a∧SqT K H a xs∧xs.length=n∧t xs σ H Q
theorem pg_tup{es:List Expr}{k:Nat}{t:TGs}{n:Nat}(hc:X.calm=true)(h:PGs X es t)
  (hn:(assignEach es X.env).length=n:=by rfl) (hst:(assignEach es X.env).findIdx? (·.1)=none:=by rfl):PG X (.Tuple es k pos) (gTup X.K n t):=by
 intro pins s σ H v u Q I r hw
 obtain ⟨a,xs,e1,hq,hl,hw⟩:=hw
 subst e1
 cases r
 obtain ⟨its,rv,ht,hz⟩:=I.tuple hq
 refine assign_Tuple_tuple (I.ok.hd hc) ht (by simp [hn,← hl,rv.length]) hst fun h' hx=>?_
 have I1:Inv X pins σ H { s with heap:=h' }:=I.kept (t':=s.toks) fun b o e=>hx b o (Nat.ne_of_lt (Heap.lt_size e)) e
 exact h pins _ σ H xs _ Q I1 (by simpa using rv) hw
def tAsg(te:TE)(g:TG):TS:=fun D σ H=>te σ H fun x H1=>g x σ H1 D.nx
theorem ps_set{i:Nat}{x:Str}{e:Expr}{te:TE}{pos':Pos}(hN:X.N.Nodup)(hi:X.N[i]? = some x)(hx:Loc X.env.scope x)(he:PE X e te)(hs:swapsWith e (some (.Name x pos')) pos.line X.env=pure false:=by rfl)(hf:X.fn x=true∨X.env.scope.names.lookup x=some .local:=by first | exact .inl rfl | exact .inr rfl | assumption) :
  PS X (.Assign [.Name x pos'] e pos) (tAsg te (gName i)):=by
 intro pins s σ H D I h
 refine wpAny_Assign_Name (thn (he pins s σ H _ I h) fun v s1 ⟨y,H1,I1,r1,q1⟩=>?_) hs
 exact store_ok I1 hN hi hx r1 (fun s2 I2=>⟨_,H1,I2,q1⟩) hf
def tAug(i:Nat)(te:TE)(ti:TIp):TS:=fun D σ H=>∃ x,σ[i]? = some (some x)∧te σ H fun y H1=>ti x y H1 fun z H2=>D.nx (σ.set i (some z)) H2
theorem ps_aug{i:Nat}{x:Str}{e:Expr}{te:TE}{op:Operator}{ti:TIp}{pos':Pos}(hN:X.N.Nodup)(hi:X.N[i]? = some x)(hx:Loc X.env.scope x)(he:PE X e te)(ho:PIp X op ti)(hf:X.fn x=true∨X.env.scope.names.lookup x=some .local:=by first | exact .inl rfl | exact .inr rfl | assumption) :
  PS X (.AugAssign (.Name x pos') op e pos) (tAug i te ti):=by
 intro pins s σ H D I h
 obtain ⟨v,e1,h⟩:=h
 obtain ⟨m,hn,hl⟩:=I.loc
 have vis:Vis X.env.scope x:=by rcases hx with k | k;exact .inl k;exact .inr (.inl k)
 obtain ⟨u,r,l⟩:=hl i x v hi e1 vis
 refine wpAny_AugAssign_Name ?_
 have go:wpAny (model X.prog X.w) X.A (eval e X.env) (fun w s₂=>wpAny (model X.prog X.w) X.A (inplaceOp op u w) (fun r s₃=>wpAny (model X.prog X.w) X.A (storeName X.env x r) (fun _=>SP X pins D .next) X.xe s₃) X.xe s₂) X.xe s:=by
  refine thn (he pins s σ H _ I h) fun w s1 ⟨y,H1,I1,r1,q1⟩=>?_
  refine thn (ho pins s1 σ H1 v y u w _ I1 r r1 q1) fun z s2 ⟨zv,H2,I2,r2,q2⟩=>?_
  exact store_ok I2 hN hi hx r2 (fun s3 I3=>⟨_,H2,I3,q2⟩) hf
 rcases l with ⟨hk,hm⟩ | ⟨hk,c,hc,hcell⟩
 ·exact wpAny_loadName_local I.ok.kind hk hn hm go
 ·rcases hk with hk | hk
  ·exact wpAny_loadName_cell I.ok.kind hk hc hcell go
  ·rcases hx with k | k
   ·have:X.env.scope.names.lookup x=some .free:=hk
    rw [k] at this;cases this
   ·have:X.env.scope.names.lookup x=some .free:=hk
    rw [k] at this;cases this
def ipI(f:Int→Int→Int):TIp:=fun x y H Q=>∃ i j,x = .int i∧y = .int j∧Q (.int (f i j)) H
theorem ip_add:PIp X .Add (ipI fun i j=>i + j):=by
 intro pins s σ H x y v u Q I r1 r2 h
 obtain ⟨i,j,e1,e2,q⟩:=h
 subst e1;subst e2
 obtain ⟨t,rfl⟩:=r1
 obtain ⟨t',rfl⟩:=r2
 exact iadd_int ⟨.int _,H,I.tok _,⟨_,rfl⟩,q⟩
end
section
variable{X:Cx}{pos:Pos}
def tWhile(c:TT)(tb:TS):TS:=fun D σ H=>∃ W:Nat→St→Hp→Prop,(∃ m,W m σ H)∧∀ m σ H,W m σ H→
 c σ H fun b H1=>if b=true then ∃ N:St→Hp→Prop,(∀ σ' H',N σ' H'→∃ m',m' < m∧W m' σ' H')∧tb { D with nx:=N,ct:=N,bk:=D.nx } σ H1 else D.nx σ H1
theorem ps_while{c:Expr}{body:List Stmt}{tc:TT}{tb:TS}(hp:PassesOwn (model X.prog X.w) X.A X.env X.xe)(hc:PT X c tc)(hb:PSs X body tb):PS X (.While c body [] pos) (tWhile tc tb):=by
 intro pins s σ H D I h
 obtain ⟨W,⟨m0,w0⟩,turn⟩:=h
 refine wpAny_While (codeAny_whileLoop (fun n s'=>∃ σ' H',Inv X pins σ' H' s'∧W n σ' H') ?_ m0 ⟨σ,H,I,w0⟩)
 rintro n s1 ⟨σ1,H1,I1,w1⟩
 refine wpAny_passesOwn hp (thn (hc pins s1 σ1 H1 _ I1 (turn n σ1 H1 w1)) fun b s2 ⟨H2,I2,q2⟩=>?_)
 cases b with
 | true =>
  obtain ⟨N,hN,q2⟩:=q2
  rw [if_pos rfl]
  refine wpAny_passesOwn hp (thn (hb pins s2 σ1 H2 _ I2 q2) fun f s3 q3=>?_)
  cases f with
  | next =>
   obtain ⟨σ3,H3,I3,n3⟩:=q3
   obtain ⟨m',hm,w3⟩:=hN σ3 H3 n3
   exact ⟨m',hm,σ3,H3,I3,w3⟩
  | cont =>
   obtain ⟨σ3,H3,I3,n3⟩:=q3
   obtain ⟨m',hm,w3⟩:=hN σ3 H3 n3
   exact ⟨m',hm,σ3,H3,I3,w3⟩
  | brk=>exact q3
  | ret v=>exact q3
 | false =>
  rw [if_neg Bool.false_ne_true]
  exact wpAny_execs_nil ⟨σ1,H2,I2,q2⟩
end
structure It where
 go:Nat→Hp→Prop
 yld:Nat→Hp→V→Hp→Prop
 stop:Nat→Hp→Prop
def FpOk(X:Cx)(pins:List (Addr×Obj))(H:Hp)(b:Addr):Prop :=
 H b=none∧b≠X.env.locals∧b∉X.fs∧(b∈X.ex∨X.s_0.heap.objs.size≤b)∧(∀ x c,X.env.cells.lookup x=some c→c≠b)∧∀ p∈X.pn ++ pins,p.1≠b
theorem Inv.fpOk{X:Cx}{pins:List (Addr×Obj)}{σ:St}{H H':Hp}{s:Shared}{b:Addr}(I:Inv X pins σ H s)(hb:s.heap.objs.size≤b)(hn:H' b=none):FpOk X pins H' b:=by
 refine ⟨hn,Nat.ne_of_gt (Nat.lt_of_lt_of_le I.lt hb),I.nofs hb,.inr (Nat.le_trans I.sz hb),fun x c e z=>?_,fun p hp z=>?_⟩
 ·obtain ⟨v,q⟩:=I.cell x c e
  exact absurd (Nat.lt_of_lt_of_le q.lt (by rw [z];exact hb)) (Nat.lt_irrefl _)
 ·exact absurd (Nat.lt_of_lt_of_le (Heap.lt_size (I.pin p hp).1) (by rw [z];exact hb)) (Nat.lt_irrefl _)
structure Turn(P:Program)(w:World)(K:PySem.W.Frag)(tg:Expr)(J:It)(fp:List Addr)(it:Addr)(tn:Nat→Heap→Prop):Prop where
 mem:it∈fp
 obj:∀ i h,tn i h→∀ b∈fp,∃ o,h.get? b=some o∧∀ v,o.data≠.cell v
 keep:∀ i h h',tn i h→(∀ b∈fp,∀ o,h.get? b=some o→h'.get? b=some o)→tn i h'
 item:∀ (X:Cx),X.prog=P→X.w=w→X.K=K→X.calm=true→∀ (i:Nat) (pins:List (Addr×Obj)) (s:Shared) (σ:St) (H:Hp) (E:Value→Shared→Prop),Inv X pins σ H s→(∀ b∈fp,FpOk X pins H b)→tn i s.heap→J.go i H→
  wpAny (model P w) X.A (pyNext (.ref it)) (fun r s1=>∃ u,r=some u∧
   wpAny (model P w) X.A (letOwnedTupleGo tg (.ref it) u) (fun _ s2=>∃ x H',Inv X pins σ H' s2∧RelV x u∧J.yld i H x H'∧tn (i + 1) s2.heap∧∀ b∈fp,H' b=none) E s1) E s
 done:∀ (X:Cx),X.prog=P→X.w=w→X.K=K→X.calm=true→∀ (i:Nat) (pins:List (Addr×Obj)) (s:Shared) (σ:St) (H:Hp) (E:Value→Shared→Prop),Inv X pins σ H s→(∀ b∈fp,FpOk X pins H b)→tn i s.heap→J.stop i H→
  wpAny (model P w) X.A (pyNext (.ref it)) (fun r s1=>r=none∧Inv X pins σ H s1) E s
 self:∀ (A:Around) (i:Nat) (s:Shared) (Q:Value→Shared→Prop) (E:Value→Shared→Prop),tn i s.heap→Q (.ref it) s→wpAny (model P w) A (pyIter (.ref it)) Q E s
abbrev TI:=St→Hp→(It→Hp→Prop)→Prop
def PIE(X:Cx)(pins:List (Addr×Obj))(σ:St)(tg:Expr)(R:It→Hp→Prop)(itv:Value)(s2:Shared):Prop :=
 ∃ (it:Addr) (fp:List Addr) (tn:Nat→Heap→Prop) (J:It) (H':Hp),itv = .ref it∧Inv X pins σ H' s2∧Turn X.prog X.w X.K tg J fp it tn∧tn 0 s2.heap∧(∀ b∈fp,FpOk X pins H' b)∧R J H'
def PI(X:Cx)(tg iter:Expr)(wi:TI):Prop :=
 ∀ (pins:List (Addr×Obj)) (s:Shared) (σ:St) (H:Hp) (R:It→Hp→Prop),Inv X pins σ H s→wi σ H R→
  wpAny (model X.prog X.w) X.A (eval iter X.env) (fun v s1=>wpAny (model X.prog X.w) X.A (pyIter v) (PIE X pins σ tg R) X.xe s1) X.xe s
theorem go_of{M:Model}{A:Around}{E:Value→Shared→Prop}{s:Shared}{tg:Expr}{it:Addr}{u:Value}{o:Obj}{n:String}{vs:Array Value}{Q:Unit→Shared→Prop}(ho:s.heap.get? it=some o)(hc:o.cls = .type n)(hd:o.data = .fields vs)
  (hn:["enumerate", "zip", "dict_itemiterator", "dict_reverseitemiterator", "odict_iterator", "itertools.zip_longest", "itertools.pairwise"].contains n=false) (hQ:Q () s):wpAny M A (letOwnedTupleGo tg (.ref it) u) Q E s:=by
 unfold letOwnedTupleGo
 cases tg <;> first
  | exact wpAny_pure hQ
  | (cases u <;> first
    | exact wpAny_pure hQ
    | (refine wpAny_bind (wpAny_load ho ?_)
       rw [hc,hd]
       show wpAny M A (if (["enumerate", "zip", "dict_itemiterator", "dict_reverseitemiterator", "odict_iterator", "itertools.zip_longest", "itertools.pairwise"].contains n && vs[0]? == some (rawInt _))=true then _ else _) Q E s
       rw [if_neg (by intro h;rw [hn,Bool.false_and] at h;cases h)]
       exact wpAny_pure hQ))
def Itl(K:PySem.W.Frag)(a:Addr):It :=
 ⟨fun i H=>∃ xs x,SqL K H a xs∧xs[i]? = some x,fun i H x H'=>H'=H∧∀ xs,SqL K H a xs→xs[i]? = some x,fun i H=>∃ xs,SqL K H a xs∧xs.length≤i⟩
theorem turn_list{P:Program}{w:World}{K:PySem.W.Frag}{tg:Expr}(a it:Addr):Turn P w K tg (Itl K a) [it] it (fun i h=>h.IsListIter it a i) where
 mem:=by simp
 obj:=fun i h st b hb=>by
  have e:b=it:=by simpa using hb
  subst e
  obtain ⟨o,e,c,d⟩:=st
  exact ⟨o,e,fun v z=>by rw [d] at z;cases z⟩
 keep:=fun i h h' st k=>st.at fun o e=>k it (by simp) o e
 item:=by
  intro X hP hw hK hc i pins s σ H E I hf st hg
  subst hP hw hK
  obtain ⟨xs,x,hq,hx⟩:=hg
  obtain ⟨its,rv,p,hz⟩:=I.list hq
  obtain ⟨u,hu,ru⟩:=rv.get hx
  obtain ⟨f0,f1,f2,f3,f4,f5⟩:=hf it (by simp)
  refine wpAny_pyNext_list_item st p.isList (x:=u) (by simpa using hu) fun h' st' sb=>?_
  have I1:Inv X pins σ H { s with heap:=h' }:=I.turned (t':=s.toks) (fun b o hb e=>(sb.2 b hb).trans e) f0 f1 f3 f4 f5
  obtain ⟨o,e,c,d⟩:=id st'
  exact ⟨u,rfl,go_of (s:={ s with heap:=h' }) e c d (by decide) ⟨x,H,I1,ru,⟨rfl,fun ys hy=>by rw [I.list_inj hy hq];exact hx⟩,st',fun b hb=>(hf b hb).1⟩⟩
 done:=by
  intro X hP hw hK hc i pins s σ H E I hf st hg
  subst hP hw hK
  obtain ⟨xs,hq,hx⟩:=hg
  obtain ⟨its,rv,p,hz⟩:=I.list hq
  obtain ⟨f0,f1,f2,f3,f4,f5⟩:=hf it (by simp)
  have hl:=rv.length
  exact wpAny_pyNext_list_end (I.ok.hd hc) st p.isList (by simp;omega) fun h' eb=>⟨rfl,I.turned (t':=s.toks) (fun b o hb e=>eb b o hb e) f0 f1 f3 f4 f5⟩
 self:=fun _ _ _ _ _ st h=>wpAny_pyIter_listiter st h
end L2
namespace L2
open PySem PySem.Spec PyProof.Rows
section
variable{X:Cx}{tg:Expr}
def iList(K:PySem.W.Frag)(tl:TE):TI:=fun σ H R=>tl σ H fun x H1=>∃ a,x = .ref a∧(∃ xs,SqL K H1 a xs)∧R (Itl K a) H1
theorem pi_list{l:Expr}{tl:TE}(hl:PE X l tl):PI X tg l (iList X.K tl):=by
 intro pins s σ H R I h
 refine thn (hl pins s σ H _ I h) fun v s1 ⟨x,H1,I1,r1,q1⟩=>?_
 obtain ⟨a,e,⟨xs,hq⟩,q⟩:=q1
 subst e
 cases r1
 obtain ⟨its,rv,p,hz⟩:=I1.list hq
 refine wpAny_pyIter_list p.isList ?_
 refine ⟨s1.heap.objs.size,[s1.heap.objs.size],_,_,H1,rfl,I1.kept (t':=s1.toks) fun b o e=>Heap.get?_push_of_some _ e,turn_list a _,⟨_,Heap.get?_push_size _ rfl,rfl,rfl⟩,fun b hb=>?_,q⟩
 have e:b=s1.heap.objs.size:=by simpa using hb
 subst e
 exact I1.fpOk (Nat.le_refl _) (I1.hok.fresh (Nat.le_refl _))
def tFor(wi:TI)(g:TG)(tb:TS):TS:=fun D σ H=>wi σ H fun J H1=>∃ W:Nat→Nat→St→Hp→Prop,(∃ m,W 0 m σ H1)∧∀ i m σ H,W i m σ H→
 (J.stop i H∧D.nx σ H)∨(J.go i H∧∃ N:St→Hp→Prop,(∀ σ' H',N σ' H'→∃ m',m' < m∧W (i + 1) m' σ' H')∧∀ x H',J.yld i H x H'→g x σ H' fun σ2 H2=>tb { D with nx:=N,ct:=N,bk:=D.nx } σ2 H2)
def pinsAt(fp:List Addr)(h:Heap):List (Addr×Obj):=fp.filterMap fun b=>(h.get? b).map fun o=>(b,o)
theorem mem_pinsAt{fp:List Addr}{h:Heap}{b:Addr}{o:Obj}(hb:b∈fp)(e:h.get? b=some o):(b,o)∈pinsAt fp h:=List.mem_filterMap.mpr ⟨b,hb,by rw [e];rfl⟩
theorem of_pinsAt{fp:List Addr}{h:Heap}{p:Addr×Obj}(hp:p∈pinsAt fp h):p.1∈fp∧h.get? p.1=some p.2:=by
 obtain ⟨b,hb,e⟩:=List.mem_filterMap.mp hp
 cases q:h.get? b with
 | none=>rw [q] at e;cases e
 | some o =>
  rw [q] at e
  have e':(b,o)=p:=Option.some.inj e
  subst e'
  exact ⟨hb,q⟩
theorem Inv.pinned{pins:List (Addr×Obj)}{σ:St}{H:Hp}{s:Shared}{fp:List Addr}(I:Inv X pins σ H s)(hf:∀ b∈fp,FpOk X pins H b)(ho:∀ b∈fp,∃ o,s.heap.get? b=some o∧∀ v,o.data≠.cell v):Inv X (pins ++ pinsAt fp s.heap) σ H s :=
 I.pins_of fun p hp=>(List.mem_append.mp hp).elim (fun z=>I.pin p (List.mem_append_right _ z)) fun z=>by
  obtain ⟨hb,e⟩:=of_pinsAt z
  obtain ⟨f0,f1,f2,_⟩:=hf p.1 hb
  obtain ⟨o,e',d⟩:=ho p.1 hb
  rw [e] at e';cases e'
  exact ⟨e,f0,f1,f2,d⟩
theorem Inv.unpinned{pins pl:List (Addr×Obj)}{σ:St}{H:Hp}{s:Shared}(I:Inv X (pins ++ pl) σ H s):Inv X pins σ H s:=I.pins_of fun p hp=>I.pin p (List.mem_append_right _ (List.mem_append_left _ hp))
theorem ps_for{iter:Expr}{body:List Stmt}{wi:TI}{g:TG}{tb:TS}{pos:Pos}(hp:PassesOwn (model X.prog X.w) X.A X.env X.xe)(hc:X.calm=true)(hi:PI X tg iter wi)(hg:PG X tg g)(hb:PSs X body tb)
  (hs:∀ x,foldedSetIterable iter X.env x=pure x:=by intro _;rfl):PS X (.For tg iter body [] pos) (tFor wi g tb):=by
 intro pins s σ H D I h
 refine wpAny_For (thn (hi pins s σ H _ I h) fun v s1 h1=>thn h1 fun itv s2 h2=>?_) hs
 obtain ⟨it,fp,tn,J,H2,e,I2,T,st2,f2,W,⟨m0,w0⟩,turn⟩:=h2
 subst e
 have stat:∀ {H':Hp},(∀ b∈fp,H' b=none)→∀ b∈fp,FpOk X pins H' b:=fun hn b hb=>⟨hn b hb,(f2 b hb).2⟩
 refine codeAny_forLoop_any (fun n s'=>∃ i σ' H',Inv X pins σ' H' s'∧tn i s'.heap∧(∀ b∈fp,H' b=none)∧W i n σ' H') ?_ m0 ⟨0,σ,H2,I2,st2,fun b hb=>(f2 b hb).1,w0⟩
 rintro n s3 ⟨i,σ3,H3,I3,st3,fr3,w3⟩
 rcases turn i n σ3 H3 w3 with ⟨stop,qn⟩ | ⟨go,N,hN,step⟩
 ·refine wpAny_passesOwn hp (thn (T.done X rfl rfl rfl hc i pins s3 σ3 H3 X.xe I3 (stat fr3) st3 stop) fun r s4 ⟨hr,I4⟩=>?_)
  subst hr
  exact wpAny_execs_nil ⟨σ3,H3,I4,qn⟩
 ·refine wpAny_passesOwn hp (thn (T.item X rfl rfl rfl hc i pins s3 σ3 H3 X.xe I3 (stat fr3) st3 go) fun r s4 ⟨u,hr,h4⟩=>?_)
  subst hr
  refine wpAny_passesOwn hp (thn h4 fun _ s5 ⟨x,H5,I5,r5,y5,st5,fr5⟩=>?_)
  have I5':=I5.pinned (stat fr5) (T.obj _ _ st5)
  refine wpAny_passesOwn hp (thn (hg _ s5 σ3 H5 x u _ I5' r5 (step x H5 y5)) fun _ s6 ⟨σ6,H6,I6,q6⟩=>?_)
  refine wpAny_passesOwn hp (thn (hb _ s6 σ6 H6 _ I6 q6) fun f s7 q7=>?_)
  have again:∀ {σ7:St} {H7:Hp},Inv X (pins ++ pinsAt fp s5.heap) σ7 H7 s7→N σ7 H7→∃ m,m < n∧∃ i σ' H',Inv X pins σ' H' s7∧tn i s7.heap∧(∀ b∈fp,H' b=none)∧W i m σ' H':=fun {σ7 H7} I7 n7=>by
   obtain ⟨m',hm,w7⟩:=hN σ7 H7 n7
   refine ⟨m',hm,i + 1,σ7,H7,I7.unpinned,T.keep _ _ _ st5 fun b hb o e=>(I7.pin (b,o) (List.mem_append_right _ (List.mem_append_right _ (mem_pinsAt hb e)))).1,fun b hb=>?_,w7⟩
   obtain ⟨o,e,d⟩:=T.obj _ _ st5 b hb
   exact (I7.pin (b,o) (List.mem_append_right _ (List.mem_append_right _ (mem_pinsAt hb e)))).2.1
  cases f with
  | next=>obtain ⟨σ7,H7,I7,n7⟩:=q7;exact again I7 n7
  | cont=>obtain ⟨σ7,H7,I7,n7⟩:=q7;exact again I7 n7
  | brk=>obtain ⟨σ7,H7,I7,q7⟩:=q7;exact ⟨σ7,H7,I7.unpinned,q7⟩
  | ret v=>obtain ⟨x7,σ7,H7,I7,r7,q7⟩:=q7;exact ⟨x7,σ7,H7,I7.unpinned,r7,q7⟩
end
end L2
namespace L2
open PySem PySem.Spec PyProof.Rows
abbrev R2:=V→V→Hp→VK→Prop
def OpR(X:Cx)(f:Value→Value→Sem Value)(r:R2):Prop :=
 ∀ (pins:List (Addr×Obj)) (s:Shared) (σ:St) (H:Hp) (x y:V) (v u:Value) (Q:VK),Inv X pins σ H s→RelV x v→RelV y u→r x y H Q→
  wpAny (model X.prog X.w) X.A (f v u) (EP X pins σ Q) X.xe s
def CallR(X:Cx)(f:Value)(r:List V→Hp→VK→Prop):Prop :=
 ∀ (pins:List (Addr×Obj)) (s:Shared) (σ:St) (H:Hp) (xs:List V) (us:List Value) (Q:VK),Inv X pins σ H s→Vals xs us→r xs H Q→
  wpAny (model X.prog X.w) X.A (call f us) (EP X pins σ Q) X.xe s
def tOp(r:R2)(ta tb:TE):TE:=fun σ H Q=>ta σ H fun x H1=>tb σ H1 fun y H2=>r x y H2 Q
def rI(C:Int→Int→Prop)(g:Int→Int→V):R2:=fun x y H Q=>∃ i j,x = .int i∧y = .int j∧C i j∧Q (g i j) H
def rI0(g:Int→Int→V):R2:=fun x y H Q=>∃ i j,x = .int i∧y = .int j∧Q (g i j) H
section
variable{X:Cx}{a b c:Expr}{ta tb tc:TE}{pos:Pos}
theorem binT(ha:PE X a ta)(hb:PE X b tb){pins:List (Addr×Obj)}{s:Shared}{σ:St}{H:Hp}{R:V→V→Hp→Prop}(I:Inv X pins σ H s)
  (h:ta σ H fun x H1=>tb σ H1 fun y H2=>R x y H2) {Q:Value→Shared→Prop} {f:Value→Value→Sem Value}
  (hf:∀ v u s2 x y H2,Inv X pins σ H2 s2→RelV x v→RelV y u→R x y H2→wpAny (model X.prog X.w) X.A (f v u) Q X.xe s2) :
  wpAny (model X.prog X.w) X.A (eval a X.env) (fun v s₁=>wpAny (model X.prog X.w) X.A (eval b X.env) (fun u s₂=>wpAny (model X.prog X.w) X.A (f v u) Q X.xe s₂) X.xe s₁) X.xe s:=by
 refine thn (ha pins s σ H _ I h) fun v s1 ⟨x,H1,I1,r1,q1⟩=>?_
 refine thn (hb pins s1 σ H1 _ I1 q1) fun u s2 ⟨y,H2,I2,r2,q2⟩=>?_
 exact hf v u s2 x y H2 I2 r1 r2 q2
theorem pe_op{op:Operator}{r:R2}(ho:OpR X (binaryOp op) r)(ha:PE X a ta)(hb:PE X b tb):PE X (.BinOp a op b pos) (tOp r ta tb):=by
 intro pins s σ H Q I h
 exact wpAny_BinOp (binT ha hb I h fun v u s2 x y H2 I2 rx ry q=>ho pins s2 σ H2 x y v u Q I2 rx ry q)
theorem opI{f:Value→Value→Sem Value}{C:Int→Int→Prop}{g:Int→Int→Int}
  (rule:∀ (i j:Int) (t u:Tok) (s:Shared) (Q:Value→Shared→Prop) (E:Value→Shared→Prop),C i j→Q (.int (g i j) s.toks) { s with toks:=s.toks + 1 }→wpAny (model X.prog X.w) X.A (f (.int i t) (.int j u)) Q E s) :
  OpR X f (rI C fun i j=>.int (g i j)):=by
 intro pins s σ H x y v u Q I rx ry h
 obtain ⟨i,j,rfl,rfl,hc,q⟩:=h
 obtain ⟨t,rfl⟩:=rx
 obtain ⟨t',rfl⟩:=ry
 exact rule i j t t' s _ _ hc ⟨.int (g i j),H,I.tok _,⟨_,rfl⟩,q⟩
theorem opI0{f:Value→Value→Sem Value}{g:Int→Int→Int}
  (rule:∀ (i j:Int) (t u:Tok) (s:Shared) (Q:Value→Shared→Prop) (E:Value→Shared→Prop),Q (.int (g i j) s.toks) { s with toks:=s.toks + 1 }→wpAny (model X.prog X.w) X.A (f (.int i t) (.int j u)) Q E s) :
  OpR X f (rI0 fun i j=>.int (g i j)):=by
 intro pins s σ H x y v u Q I rx ry h
 obtain ⟨i,j,rfl,rfl,q⟩:=h
 obtain ⟨t,rfl⟩:=rx
 obtain ⟨t',rfl⟩:=ry
 exact rule i j t t' s _ _ ⟨.int (g i j),H,I.tok _,⟨_,rfl⟩,q⟩
theorem opB0{f:Value→Value→Sem Value}{g:Int→Int→Bool}
  (rule:∀ (i j:Int) (t u:Tok) (s:Shared) (Q:Value→Shared→Prop) (E:Value→Shared→Prop),Q (.bool (g i j)) s→wpAny (model X.prog X.w) X.A (f (.int i t) (.int j u)) Q E s) :
  OpR X f (rI0 fun i j=>.bl (g i j)):=by
 intro pins s σ H x y v u Q I rx ry h
 obtain ⟨i,j,rfl,rfl,q⟩:=h
 obtain ⟨t,rfl⟩:=rx
 obtain ⟨t',rfl⟩:=ry
 exact rule i j t t' s _ _ ⟨.bl (g i j),H,I,rfl,q⟩
def CMul(i j:Int):Prop:=(-(2 ^ 64) < i∧i < 2 ^ 64)∨(-(2 ^ 64) < j∧j < 2 ^ 64)
theorem CMul.ok{i j:Int}(h:CMul i j):IntMulOk i j:=by
 rcases h with ⟨h1,h2⟩ | ⟨h1,h2⟩
 ·exact .of_left (intBits_le_64 h1 h2)
 ·exact .of_right (intBits_le_64 h1 h2)
theorem op_add:OpR X (binaryOp .Add) (rI0 fun i j=>.int (i + j)):=opI0 fun _ _ _ _ _ _ _ q=>add_int q
theorem op_sub:OpR X (binaryOp .Sub) (rI0 fun i j=>.int (i - j)):=opI0 fun _ _ _ _ _ _ _ q=>sub_int q
theorem op_mul:OpR X (binaryOp .Mult) (rI CMul fun i j=>.int (i * j)):=opI fun _ _ _ _ _ _ _ hc q=>mul_int q hc.ok
end
def scal:V→V→Bool
 | .non,.non=>true | .non,.int _=>true | .int _,.non=>true | .non,.bl _=>true | .bl _,.non=>true | .non,.str _=>true | .str _,.non=>true
 | .int _,.int _=>true | .bl _,.bl _=>true | .str _,.str _=>true | .byt _,.byt _=>true
 | .int _,.str _=>true | .str _,.int _=>true | .bl _,.str _=>true | .str _,.bl _=>true
 | _,_=>false
def rEq:R2:=fun x y H Q=>scal x y=true∧Q (.bl (decide (x=y))) H
def rNe:R2:=fun x y H Q=>scal x y=true∧Q (.bl (!decide (x=y))) H
theorem dec_int{i j:Int}:decide (V.int i=V.int j)=(i == j):=by
 rw [Bool.eq_iff_iff]
 simp
theorem dec_bl{i j:Bool}:decide (V.bl i=V.bl j)=(i == j):=by
 rw [Bool.eq_iff_iff]
 simp
theorem dec_str{i j:Str}:decide (V.str i=V.str j)=(i == j):=by
 rw [Bool.eq_iff_iff]
 simp
theorem dec_byt{i j:Array UInt8}:decide (V.byt i=V.byt j)=(i.toList == j.toList):=by
 rw [Bool.eq_iff_iff]
 cases i
 cases j
 simp
section
variable{X:Cx}{a b c:Expr}{ta tb tc:TE}{pos:Pos}
theorem fin_bl{pins:List (Addr×Obj)}{σ:St}{H:Hp}{s:Shared}{Q:VK}{k k':Bool}(I:Inv X pins σ H s)(q:Q (.bl k) H)(e:k=k'):EP X pins σ Q (.bool k') s:=by
 subst e
 exact ⟨.bl k,H,I,rfl,q⟩
theorem op_eq:OpR X (compareOp .Eq) rEq:=by
 intro pins s σ H x y v u Q I rx ry h
 obtain ⟨hs,q⟩:=h
 cases x with
 | non =>
  cases rx
  cases y with
  | non=>cases ry;exact PySem.EqNone.eq_none_none (fin_bl I q (by simp))
  | bl j=>cases ry;exact PySem.EqNone.eq_none_bool (fin_bl I q (by simp))
  | int j=>obtain ⟨t',rfl⟩:=ry;exact PySem.EqNone.eq_none_int (fin_bl I q (by simp))
  | str j=>obtain ⟨t',rfl⟩:=ry;exact PySem.EqNone.eq_none_str (fin_bl I q (by simp))
  | _=>exact absurd (show false=true from hs) Bool.false_ne_true
 | bl i =>
  cases rx
  cases y with
  | non=>cases ry;exact PySem.EqNone.eq_bool_none (fin_bl I q (by simp))
  | bl j=>cases ry;exact eq_bool (fin_bl I q dec_bl)
  | str j=>obtain ⟨t',rfl⟩:=ry;exact PySem.EqMixed.eq_bool_str (fin_bl I q (by simp))
  | _=>exact absurd (show false=true from hs) Bool.false_ne_true
 | int i =>
  obtain ⟨t,rfl⟩:=rx
  cases y with
  | non=>cases ry;exact PySem.EqNone.eq_int_none (fin_bl I q (by simp))
  | int j=>obtain ⟨t',rfl⟩:=ry;exact eq_int (fin_bl I q dec_int)
  | str j=>obtain ⟨t',rfl⟩:=ry;exact PySem.EqMixed.eq_int_str (fin_bl I q (by simp))
  | _=>exact absurd (show false=true from hs) Bool.false_ne_true
 | str i =>
  obtain ⟨t,rfl⟩:=rx
  cases y with
  | non=>cases ry;exact PySem.EqNone.eq_str_none (fin_bl I q (by simp))
  | bl j=>cases ry;exact PySem.EqMixed.eq_str_bool (fin_bl I q (by simp))
  | int j=>obtain ⟨t',rfl⟩:=ry;exact PySem.EqMixed.eq_str_int (fin_bl I q (by simp))
  | str j=>obtain ⟨t',rfl⟩:=ry;exact eq_str (fin_bl I q dec_str)
  | _=>exact absurd (show false=true from hs) Bool.false_ne_true
 | byt i =>
  obtain ⟨t,rfl⟩:=rx
  cases y with
  | byt j=>obtain ⟨t',rfl⟩:=ry;exact PySem.W.eq_bytes (fin_bl I q dec_byt)
  | _=>exact absurd (show false=true from hs) Bool.false_ne_true
 | _=>cases y <;> exact absurd (show false=true from hs) Bool.false_ne_true
theorem op_ne:OpR X (compareOp .NotEq) rNe:=by
 intro pins s σ H x y v u Q I rx ry h
 obtain ⟨hs,q⟩:=h
 cases x with
 | non =>
  cases rx
  cases y with
  | non=>cases ry;exact PySem.EqNone.ne_none_none (fin_bl I q (by simp))
  | bl j=>cases ry;exact PySem.EqNone.ne_none_bool (fin_bl I q (by simp))
  | int j=>obtain ⟨t',rfl⟩:=ry;exact PySem.EqNone.ne_none_int (fin_bl I q (by simp))
  | str j=>obtain ⟨t',rfl⟩:=ry;exact PySem.EqNone.ne_none_str (fin_bl I q (by simp))
  | _=>exact absurd (show false=true from hs) Bool.false_ne_true
 | bl i =>
  cases rx
  cases y with
  | non=>cases ry;exact PySem.EqNone.ne_bool_none (fin_bl I q (by simp))
  | bl j=>cases ry;exact ne_bool (fin_bl I q (congrArg not dec_bl))
  | str j=>obtain ⟨t',rfl⟩:=ry;exact PySem.EqMixed.ne_bool_str (fin_bl I q (by simp))
  | _=>exact absurd (show false=true from hs) Bool.false_ne_true
 | int i =>
  obtain ⟨t,rfl⟩:=rx
  cases y with
  | non=>cases ry;exact PySem.EqNone.ne_int_none (fin_bl I q (by simp))
  | int j=>obtain ⟨t',rfl⟩:=ry;exact ne_int (fin_bl I q (congrArg not dec_int))
  | str j=>obtain ⟨t',rfl⟩:=ry;exact PySem.EqMixed.ne_int_str (fin_bl I q (by simp))
  | _=>exact absurd (show false=true from hs) Bool.false_ne_true
 | str i =>
  obtain ⟨t,rfl⟩:=rx
  cases y with
  | non=>cases ry;exact PySem.EqNone.ne_str_none (fin_bl I q (by simp))
  | bl j=>cases ry;exact PySem.EqMixed.ne_str_bool (fin_bl I q (by simp))
  | int j=>obtain ⟨t',rfl⟩:=ry;exact PySem.EqMixed.ne_str_int (fin_bl I q (by simp))
  | str j=>obtain ⟨t',rfl⟩:=ry;exact ne_str (fin_bl I q (congrArg not dec_str))
  | _=>exact absurd (show false=true from hs) Bool.false_ne_true
 | byt i =>
  obtain ⟨t,rfl⟩:=rx
  cases y with
  | byt j=>obtain ⟨t',rfl⟩:=ry;exact PySem.W.ne_bytes (fin_bl I q (congrArg not dec_byt))
  | _=>exact absurd (show false=true from hs) Bool.false_ne_true
 | _=>cases y <;> exact absurd (show false=true from hs) Bool.false_ne_true
theorem op_lt:OpR X (compareOp .Lt) (rI0 fun i j=>.bl (decide (i < j))):=opB0 fun _ _ _ _ _ _ _ q=>lt_int q
theorem op_le:OpR X (compareOp .LtE) (rI0 fun i j=>.bl (decide (i≤j))):=opB0 fun _ _ _ _ _ _ _ q=>le_int q
theorem op_gt:OpR X (compareOp .Gt) (rI0 fun i j=>.bl (decide (j < i))):=opB0 fun _ _ _ _ _ _ _ q=>gt_int q
theorem nomark(b:Expr){op:CmpOp}(h:op≠.In:=by decide)(h2:op≠.NotIn:=by decide):behindInMarks op b=false:=by
 have e1:(op == CmpOp.In)=false:=by cases op <;> first | rfl | exact absurd rfl h
 have e2:(op == CmpOp.NotIn)=false:=by cases op <;> first | rfl | exact absurd rfl h2
 cases b <;> simp [behindInMarks,e1,e2]
theorem pe_cmpR{op:CmpOp}{r:R2}(ho:OpR X (compareOp op) r)(ha:PE X a ta)(hb:PE X b tb)(hm:behindInMarks op b=false):PE X (.Compare a [op] [b] pos) (tOp r ta tb):=by
 intro pins s σ H Q I h
 exact wpAny_Compare1 (binT ha hb I h fun v u s2 x y H2 I2 rx ry q=>ho pins s2 σ H2 x y v u Q I2 rx ry q) hm
def tTest(t:TE):TT:=fun σ H Q=>t σ H fun x H'=>∃ k,x = .bl k∧Q k H'
theorem pt_cmpR{op:CmpOp}{r:R2}(ho:OpR X (compareOp op) r)(ha:PE X a ta)(hb:PE X b tb)(hm:behindInMarks op b=false):PT X (.Compare a [op] [b] pos) (tTest (tOp r ta tb)):=by
 intro pins s σ H Q I h
 refine wpAny_isTrue_Compare1 (thn (ha pins s σ H _ I h) fun v s1 ⟨x,H1,I1,r1,q1⟩=>thn (hb pins s1 σ H1 _ I1 q1) fun u s2 ⟨y,H2,I2,r2,q2⟩ =>
  thn (ho pins s2 σ H2 x y v u _ I2 r1 r2 q2) fun c s3 ⟨z,H3,I3,r3,k,e,q3⟩=>?_) hm
 subst e
 cases r3
 exact wpAny_truthy_bool ⟨H3,I3,q3⟩
def tChain(r r':R2)(ta tb tc:TE):TE:=fun σ H Q=>ta σ H fun x H1=>tb σ H1 fun y H2=>r x y H2 fun z H3=>∃ k,z = .bl k∧
 (if k=true then tc σ H3 fun w' H4=>r' y w' H4 Q else Q (.bl false) H3)
theorem pe_chain{op op':CmpOp}{r r':R2}(ho:OpR X (compareOp op) r)(ho':OpR X (compareOp op') r')(ha:PE X a ta)(hb:PE X b tb)(hc:PE X c tc)
  (hm:lastMarks [op,op'] [b,c]=false:=by with_unfolding_all rfl):PE X (.Compare a [op,op'] [b,c] pos) (tChain r r' ta tb tc):=by
 intro pins s σ H Q I h
 refine Compare_chain (thn (ha pins s σ H _ I h) fun v s1 ⟨x,H1,I1,r1,q1⟩=>chain_link (thn (hb pins s1 σ H1 _ I1 q1) fun u s2 ⟨y,H2,I2,r2,q2⟩ =>
  thn (ho pins s2 σ H2 x y v u _ I2 r1 r2 q2) fun d s3 ⟨z,H3,I3,r3,k,e,q3⟩=>?_)) hm
 subst e
 cases r3
 refine wpAny_truthy_bool ?_
 cases k with
 | false=>exact ite_ff ⟨.bl false,H3,I3,rfl,q3⟩
 | true=>exact ite_tt (chain_last (thn (hc pins s3 σ H3 _ I3 q3) fun w' s4 ⟨z',H4,I4,r4,q4⟩=>ho' pins s4 σ H4 y z' u w' Q I4 r2 r4 q4))
theorem pt_chain{op op':CmpOp}{r r':R2}(ho:OpR X (compareOp op) r)(ho':OpR X (compareOp op') r')(ha:PE X a ta)(hb:PE X b tb)(hc:PE X c tc)
  (hm:lastMarks [op,op'] [b,c]=false:=by with_unfolding_all rfl):PT X (.Compare a [op,op'] [b,c] pos) (tTest (tChain r r' ta tb tc)):=by
 intro pins s σ H Q I h
 refine isTrue_chain (thn (ha pins s σ H _ I h) fun v s1 ⟨x,H1,I1,r1,q1⟩=>test_link (thn (hb pins s1 σ H1 _ I1 q1) fun u s2 ⟨y,H2,I2,r2,q2⟩ =>
  thn (ho pins s2 σ H2 x y v u _ I2 r1 r2 q2) fun d s3 ⟨z,H3,I3,r3,k,e,q3⟩=>?_)) hm
 subst e
 cases r3
 refine wpAny_truthy_bool ?_
 cases k with
 | false =>
  obtain ⟨k',e',q'⟩:=q3
  cases e'
  exact ite_ff ⟨H3,I3,q'⟩
 | true =>
  refine ite_tt (test_last (thn (hc pins s3 σ H3 _ I3 q3) fun w' s4 ⟨z',H4,I4,r4,q4⟩=>thn (ho' pins s4 σ H4 y z' u w' _ I4 r2 r4 q4) fun d' s5 ⟨z2,H5,I5,r5,k2,e2,q5⟩=>?_))
  subst e2
  cases r5
  exact wpAny_truthy_bool ⟨H5,I5,q5⟩
theorem line63:(sizeLine:Nat) < 2 ^ 63:=by rw [sizeLine_eq];decide
theorem iop_add_str:OpR X (inplaceOp .Add) (fun x y H Q=>∃ i j,x = .str i∧y = .str j∧i.length + j.length≤sizeLine∧Q (.str (i ++ j)) H):=by
 intro pins s σ H x y v u Q I rx ry h
 obtain ⟨i,j,rfl,rfl,hz,q⟩:=h
 obtain ⟨t,rfl⟩:=rx
 obtain ⟨t',rfl⟩:=ry
 exact iadd_str (fun t' tk=>⟨.str (i ++ j),H,I.tok _,⟨_,rfl⟩,q⟩) hz
theorem vals1{x:V}{us:List Value}(r:Vals [x] us):∃ u,us=[u]∧RelV x u:=by
 cases r with
 | cons r1 r2=>cases r2;exact ⟨_,rfl,r1⟩
end
end L2
namespace L2
open PySem PySem.Spec PyProof.Rows
structure ObjM(h:Heap)(x dx C:Addr)(mA:Str→Option Value):Prop where
 obj:h.get? x=some (PySem.W.instObj C dx)
 ns:h.Ns1 dx mA
 ne:dx≠x
theorem lookIn_ns{h:Heap}{dx:Addr}{mA:Str→Option Value}(n:h.Ns1 dx mA):∃ od,h.get? dx=some od∧∀ name,PySem.W.lookIn name od=some (mA name):=by
 obtain ⟨o,es,ep,ho,hd,hk,_,hm⟩:=n
 refine ⟨o,ho,fun name=>?_⟩
 have e:=hm name
 unfold nsFind findBy at e
 rw [← Array.find?_toList] at e
 unfold PySem.W.lookIn
 rw [hd]
 dsimp only
 split
 ·rename_i y q
  rw [q] at e
  exact congrArg some e
 ·rename_i q
  rw [q] at e
  have a:es.toList.any (·.refKey)=false:=by
   rw [List.any_eq_false]
   intro y hy
   obtain ⟨z,t,hkey⟩:=hk y (Array.mem_toList_iff.mp hy)
   simp [DictEntry.refKey,hkey]
  have a':¬ es.toList.any (·.refKey)=true:=by rw [a];exact Bool.false_ne_true
  rw [if_neg a']
  exact congrArg some e
theorem ObjM.look{h:Heap}{x dx C:Addr}{mA:Str→Option Value}(I:ObjM h x dx C mA):∃ od,PySem.W.InstAt h x (PySem.W.instObj C dx) C (some od)∧∀ name,PySem.W.lookIn name od=some (mA name) :=
 let ⟨od,ho,hl⟩:=lookIn_ns I.ns
 ⟨od,⟨I.obj,rfl,rfl,ho⟩,hl⟩
section
variable{prog:Program}{w:World}{A:Around}{E:Value→Shared→Prop}{s:Shared}{K:PySem.W.Frag}{x dx C f:Addr}{mA:Str→Option Value}{name:Str}{v:Value}
theorem get_map{expr:Bool}{Q:Value→Shared→Prop}(X:K.In s.heap)(I:ObjM s.heap x dx C mA)(hg:PySem.W.plainGet K C name=true)(hh:PySem.W.hasDictIn K C=true)
  (ha:PySem.W.findIn K (.ref C) name=some none) (hv:mA name=some v) (hv':PySem.W.handedIn v=true) (h:Q v { s with toks:=s.toks + 1 }) :
  wpAny (model prog w) A (getAttr (.ref x) name expr) Q E s:=by
 obtain ⟨od,J,hl⟩:=I.look
 exact PySem.W.get_value X J (PySem.W.plainGet_of hg).1 (PySem.W.findObj_own hh ha rfl (by rw [hl,hv])) hv' h
theorem get_meth{pl:Sem Bool}{Q:Value×List Value→Shared→Prop}(X:K.In s.heap)(I:ObjM s.heap x dx C mA)(hg:PySem.W.plainGet K C name=true)
  (hf:PySem.W.findIn K (.ref C) name=some (some (.ref f))) (ht:PySem.W.isFn K (.ref f)=true) (hv:mA name=none) (h:Q (.ref f,[.ref x]) s) :
  wpAny (model prog w) A (getMethod (.ref x) name pl) Q E s:=by
 obtain ⟨od,J,hl⟩:=I.look
 exact PySem.W.method_fn X J (PySem.W.plainGet_of hg).1 (PySem.W.plainGet_of hg).2 hf (beq_iff_eq.mp ht) (by show (PySem.W.lookIn name od).map (·.isSome)=some false;rw [hl,hv];rfl) h
theorem set_map{ns:List Str}{Q:Unit→Shared→Prop}(X:K.In s.heap)(I:ObjM s.heap x dx C mA)
  (hs:PySem.W.findIn K (.ref C) "__setattr__"=some (some (.builtin "object.__setattr__"))) (hp:PySem.W.plainOver K C=true) (ht:PySem.W.takerIn K C name=some none) (hh:PySem.W.hasDictIn K C=true)
  (hw:PySem.Within mA ns) (hsz:ns.length≤sizeLine)
  (h:∀ h',ObjM h' x dx C (fun y=>if y=name then some v else mA y)→Heap.SameBut dx s.heap h'→Q () { s with heap:=h',toks:=s.toks + 2 }) :
  wpAny (model prog w) A (setAttr (.ref x) name v) Q E s:=by
 obtain ⟨od,J,hl⟩:=I.look
 refine PySem.W.set_plain X J hs (PySem.W.osa_open (s:={ s with toks:=s.toks + 1 }) (r:=none) X J hp ht fun b=>?_)
 obtain ⟨cd,hc,hd'⟩:=PySem.W.any_some hh
 have hx:s.heap.get? x=some ⟨.ref C,some dx,.plain,#[]⟩:=I.obj
 refine wpAny_bind (wpAny_pure (wpAny_bind (wpAny_bind (wpAny_loadPart hx (wpAny_bind (PySem.W.Looks.here (s:={ s with toks:=s.toks + 1 }) (PySem.W.looks_clsIn X hc) ?_))))))
 rw [hd']
 refine wpAny_pure (a:=some dx) (wpAny_bind (wpAny_pure (wpAny_bind ?_)))
 refine wpAny_nsSet1 (s:={ s with toks:=s.toks + 1 }) I.ns fun h' hn2 hs2=>?_
 obtain ⟨oD,esD,epD,hoD,hdD,hcD⟩:=hn2.count (PySem.Within.cons name v hw)
 refine wpAny_bind (wpAny_lookBehind hoD (by rw [hdD];exact pastItsLine_dict (Nat.le_trans hcD (by rw [List.length_cons];omega))) ?_)
 exact wpAny_pure (h _ ⟨(hs2.2 _ (Ne.symm I.ne)).trans I.obj,hn2,I.ne⟩ hs2)
theorem make_map{R:Result→Shared→Prop}{vs:List Value}{kw:List (Str×Value)}(X:K.In s.heap)(hm:PySem.W.makesIn K C=true)
  (hi:PySem.W.findIn K (.ref C) "__init__"=some (some (.ref f))) (hf:PySem.W.typeIn K (.ref f)=some (.type "function"))
  (h:codeAny (model prog w) (A.under (.builtin "type.__call__" ⟨.ref C::vs,kw⟩)) (.call (.ref f) ⟨.ref (s.heap.objs.size + 1)::vs,kw⟩) (PySem.W.InitBack (s.heap.objs.size + 1) R)
   { s with heap:=(s.heap.push PySem.W.emptyDict).push (PySem.W.instObj C s.heap.objs.size) }) :
  codeAny (model prog w) A (.call (.ref C) ⟨vs,kw⟩) R s:=by
 obtain ⟨hh,g,d,t,os⟩:=s
 exact PySem.W.make_core (PySem.W.makes_of X hm) (PySem.W.looks_findIn X hi) (fun self=>PySem.W.bind_fn X self hf) (.inl rfl) h
end
def putF(f:Str)(v:V):List (Str×V)→List (Str×V)
 | []=>[(f,v)]
 | (g,x)::r=>if g=f then (g,v)::r else (g,x)::putF f v r
theorem lookup_putF(f g:Str)(v:V):∀ fs:List (Str×V),(putF f v fs).lookup g=if g=f then some v else fs.lookup g
 | []=>by
  show List.lookup g [(f,v)]=_
  by_cases h:g=f
  ·have hb:(g == f)=true:=beq_iff_eq.mpr h
   simp only [List.lookup,hb,if_pos h]
  ·have hb:(g == f)=false:=beq_eq_false_iff_ne.mpr h
   simp only [List.lookup,hb,if_neg h]
 | (k,x)::r=>by
  have ih:=lookup_putF f g v r
  rw [show putF f v ((k,x)::r)=(if k=f then (k,v)::r else (k,x)::putF f v r) from rfl]
  by_cases hk:k=f
  ·rw [if_pos hk]
   by_cases h:g=k
   ·have hb:(g == k)=true:=beq_iff_eq.mpr h
    simp only [List.lookup,hb,if_pos (h.trans hk)]
   ·have hb:(g == k)=false:=beq_eq_false_iff_ne.mpr h
    simp only [List.lookup,hb,if_neg (fun e:g=f=>h (e.trans hk.symm))]
  ·rw [if_neg hk]
   by_cases h:g=k
   ·have hb:(g == k)=true:=beq_iff_eq.mpr h
    simp only [List.lookup,hb,if_neg (fun e:g=f=>hk (h.symm.trans e))]
   ·have hb:(g == k)=false:=beq_eq_false_iff_ne.mpr h
    simp only [List.lookup,hb]
    exact ih
theorem keys_putF(f:Str)(v:V):∀ fs:List (Str×V),f∈(putF f v fs).map (·.1)∧∀ g,g∈fs.map (·.1)→g∈(putF f v fs).map (·.1)
 | []=>⟨by simp [putF],fun g h=>by simp at h⟩
 | (k,x)::r=>by
  obtain ⟨i1,i2⟩:=keys_putF f v r
  rw [show putF f v ((k,x)::r)=(if k=f then (k,v)::r else (k,x)::putF f v r) from rfl]
  by_cases hk:k=f
  ·rw [if_pos hk]
   subst hk
   exact ⟨by simp,fun g h=>by simpa using h⟩
  ·rw [if_neg hk]
   refine ⟨?_,fun g h=>?_⟩
   ·rw [List.map_cons]
    exact List.mem_cons_of_mem _ i1
   ·rw [List.map_cons] at h ⊢
    rcases List.mem_cons.mp h with e | e
    ·exact List.mem_cons.mpr (.inl e)
    ·exact List.mem_cons_of_mem _ (i2 g e)
theorem length_putF(f:Str)(v:V):∀ fs:List (Str×V),(putF f v fs).length≤fs.length + 1
 | []=>by simp [putF]
 | (k,x)::r=>by
  have ih:=length_putF f v r
  rw [show putF f v ((k,x)::r)=(if k=f then (k,v)::r else (k,x)::putF f v r) from rfl]
  by_cases hk:k=f
  ·rw [if_pos hk,List.length_cons,List.length_cons];omega
  ·rw [if_neg hk,List.length_cons,List.length_cons];omega
theorem RelO.some_of{v:V}{o:Option Value}(r:RelO (some v) o):∃ u,o=some u∧RelV v u:=by
 cases o with
 | none=>exact (show False from r).elim
 | some u=>exact ⟨u,rfl,r⟩
theorem RelO.none_of{o:Option Value}(r:RelO none o):o=none:=by
 cases o with
 | none=>rfl
 | some u=>exact (show False from r).elim
theorem handed_of{v:V}{u:Value}(r:RelV v u):PySem.W.handedIn u=true:=by
 cases v with
 | non=>cases (show u=Value.none from r);rfl
 | bl b=>cases (show u=Value.bool b from r);rfl
 | int i=>obtain ⟨t,e⟩:=(show ∃ t,u=Value.int i t from r);cases e;rfl
 | str x=>obtain ⟨t,e⟩:=(show ∃ t,u=Value.str x t from r);cases e;rfl
 | byt b=>obtain ⟨t,e⟩:=(show ∃ t,u=Value.bytes b t from r);cases e;rfl
 | flt b=>obtain ⟨t,e⟩:=(show ∃ t,u=Value.float b t from r);cases e;rfl
 | ref a=>cases (show u=Value.ref a from r);rfl
 | ty n=>cases (show u=Value.type n from r);rfl
section
variable{P:Program}{w:World}{H H':Hp}{h h':Heap}{a C dx:Addr}{fs fs':List (Str×V)}
theorem ins_get(hok:HOk P w H h)(e:H a=some (.ins C dx fs)):∃ mA,ObjM h a dx C mA∧(∀ f,RelO (fs.lookup f) (mA f))∧PySem.Within mA (fs.map (·.1))∧fs.length≤1000∧H dx=some (.own a):=by
 obtain ⟨d,z,ne,ob,mA,n,r,q⟩:=(show ObjOk P w H h a (.ins C dx fs) from hok a _ e)
 exact ⟨mA,⟨ob,n,ne⟩,r,q,z,d⟩
end
structure Cls(K:PySem.W.Frag)(C:Addr):Prop where
 pg:PySem.W.plainGet K C Str.empty=true
 hd:PySem.W.hasDictIn K C=true
 po:PySem.W.plainOver K C=true
 sa:PySem.W.findIn K (.ref C) "__setattr__"=some (some (.builtin "object.__setattr__"))
theorem Cls.get{K:PySem.W.Frag}{C:Addr}(c:Cls K C)(f:Str):PySem.W.plainGet K C f=true:=c.pg
def NoAttr(K:PySem.W.Frag)(C:Addr)(f:Str):Prop:=PySem.W.findIn K (.ref C) f=some none
theorem NoAttr.taker{K:PySem.W.Frag}{C:Addr}{f:Str}(n:NoAttr K C f):PySem.W.takerIn K C f=some none:=by
 unfold PySem.W.takerIn
 rw [show PySem.W.findIn K (.ref C) f=some none from n]
 rfl
structure Meth(K:PySem.W.Frag)(C:Addr)(m:Str)(f:Addr):Prop where
 at_:PySem.W.findIn K (.ref C) m=some (some (.ref f))
 fn:PySem.W.isFn K (.ref f)=true
 kp:PySem.W.keepIn K (.ref f)=true
section
variable{X:Cx}{pins:List (Addr×Obj)}{σ:St}{H:Hp}{s:Shared}{a C dx:Addr}{fs:List (Str×V)}{f:Str}{v:V}{A:Around}{E:Value→Shared→Prop}
theorem getattr_ok{b:Bool}{Q:Value→Shared→Prop}(I:Inv X pins σ H s)(e:H a=some (.ins C dx fs))(c:Cls X.K C)(n:NoAttr X.K C f)(l:fs.lookup f=some v)
  (h:∀ u s',Inv X pins σ H s'→RelV v u→Q u s'):wpAny (model X.prog X.w) A (getAttr (.ref a) f b) Q E s:=by
 obtain ⟨mA,O,r,_,_,_⟩:=ins_get I.hok e
 obtain ⟨u,hu,ru⟩:=RelO.some_of (v:=v) (o:=mA f) (by rw [← l];exact r f)
 exact get_map I.kIn O (c.get f) c.hd n hu (handed_of ru) (h u _ (I.tok _) ru)
theorem getmeth_ok{m:Str}{g:Addr}{pl:Sem Bool}{Q:Value×List Value→Shared→Prop}(I:Inv X pins σ H s)(e:H a=some (.ins C dx fs))(c:Cls X.K C)(k:Meth X.K C m g)(l:fs.lookup m=none)
  (h:Q (.ref g,[.ref a]) s):wpAny (model X.prog X.w) A (getMethod (.ref a) m pl) Q E s:=by
 obtain ⟨mA,O,r,_,_,_⟩:=ins_get I.hok e
 have hn:mA m=none:=RelO.none_of (by rw [← l];exact r m)
 exact get_meth I.kIn O (c.get m) k.at_ k.fn hn h
theorem setattr_ok{y:V}{u:Value}{Q:Unit→Shared→Prop}(I:Inv X pins σ H s)(e:H a=some (.ins C dx fs))(c:Cls X.K C)(n:NoAttr X.K C f)(hl:fs.length < 1000)(ry:RelV y u)
  (h:∀ s',Inv X pins σ (upd H a (.ins C dx (putF f y fs))) s'→Q () s'):wpAny (model X.prog X.w) A (setAttr (.ref a) f u) Q E s:=by
 obtain ⟨mA,O,r,wi,_,ho⟩:=ins_get I.hok e
 have hz:(fs.map (·.1)).length≤sizeLine:=by rw [List.length_map,sizeLine_eq];omega
 refine set_map I.kIn O c.sa c.po n.taker c.hd wi hz fun h' O' sb=>h _ ?_
 have hd:∃ o,h'.get? dx=some o:=let ⟨o,_,_,e',_⟩:=O'.ns;⟨o,e'⟩
 refine I.write (x:=a) (e:=dx) (by rw [e];exact True.intro) (.inr ho) (fun b q hb z=>(sb.2 b hb).trans z) hd ?_
 refine ⟨by rw [upd_ne O.ne];exact ho,?_,O.ne,O'.obj,_,O'.ns,fun g=>?_,fun g hg=>?_⟩
 ·have:=length_putF f y fs;omega
 ·show RelO ((putF f y fs).lookup g) (if g=f then some u else mA g)
  rw [lookup_putF]
  by_cases q:g=f
  ·rw [if_pos q,if_pos q];exact ry
  ·rw [if_neg q,if_neg q];exact r g
 ·by_cases q:g=f
  ·rw [q];exact (keys_putF f y fs).1
  ·refine (keys_putF f y fs).2 g (wi g fun z=>hg ?_)
   show (if g=f then some u else mA g)=none
   rw [if_neg q];exact z
theorem Inv.made(I:Inv X pins σ H s):Inv X pins σ (upd (upd H s.heap.objs.size (.own (s.heap.objs.size + 1))) (s.heap.objs.size + 1) (.ins C s.heap.objs.size []))
  { s with heap:=(s.heap.push PySem.W.emptyDict).push (PySem.W.instObj C s.heap.objs.size) }:=by
 have e1:(s.heap.push PySem.W.emptyDict).get? s.heap.objs.size=some PySem.W.emptyDict:=Heap.get?_push_size s.heap rfl
 have e2:((s.heap.push PySem.W.emptyDict).push (PySem.W.instObj C s.heap.objs.size)).get? (s.heap.objs.size + 1)=some (PySem.W.instObj C s.heap.objs.size):=by
  have:=Heap.get?_push_size (s.heap.push PySem.W.emptyDict) (o:=PySem.W.instObj C s.heap.objs.size) rfl
  rwa [Heap.size_push] at this
 have e3:(s.heap.push PySem.W.emptyDict).Ns s.heap.objs.size (fun _=>none):=⟨PySem.W.emptyDict,#[],_,e1,rfl,(fun e he=>absurd he (by simp)),fun _=>rfl⟩
 have I1:=I.laid (a:=s.heap.objs.size) (o:=.own (s.heap.objs.size + 1)) (h':=s.heap.push PySem.W.emptyDict) (t':=s.toks) (fun b u q=>Heap.get?_push_of_some _ q) (Nat.le_refl _) ⟨_,e1⟩
 refine I1.laid (a:=s.heap.objs.size + 1) (o:=.ins C s.heap.objs.size []) (t':=s.toks) (fun b u q=>Heap.get?_push_of_some _ q) (Nat.le_of_eq (Heap.size_push _ _)) ?_
 have ne:s.heap.objs.size≠s.heap.objs.size + 1:=Nat.ne_of_lt (Nat.lt_succ_self _)
 refine ⟨by rw [upd_ne ne,upd_same],Nat.zero_le _,ne,e2,fun _=>none,(Heap.Ns1.of_empty e3).at fun o q=>Heap.get?_push_of_some _ q,fun _=>True.intro,fun y hy=>absurd rfl hy⟩
theorem attr_of{prog:Program}{w:World}{env:Env}{e:Expr}{f:Str}{pos:Pos}{s:Shared}{Q:Value→Shared→Prop}(hb:attributeBase e f env (eval e env)=eval e env)
  (h:wpAny (model prog w) A (eval e env) (fun o s₁=>wpAny (model prog w) A (getAttr o f true) Q E s₁) E s):wpAny (model prog w) A (eval (.Attribute e f pos) env) Q E s :=
 Attribute_any_ h (by rw [arm_eval_Attribute,hb])
end
def tFld(K:PySem.W.Frag)(ta:TE)(f:Str):TE:=fun σ H Q=>ta σ H fun x H1=>∃ a C dx fs v,x = .ref a∧H1 a=some (.ins C dx fs)∧Cls K C∧NoAttr K C f∧fs.lookup f=some v∧Q v H1
def sFld(K:PySem.W.Frag)(ta tv:TE)(f:Str):TS:=fun D σ H=>tv σ H fun y H1=>ta σ H1 fun x H2=>∃ a C dx fs,x = .ref a∧H2 a=some (.ins C dx fs)∧Cls K C∧NoAttr K C f∧fs.length < 1000∧
 D.nx σ (upd H2 a (.ins C dx (putF f y fs)))
section
variable{X:Cx}{o e value:Expr}{f:Str}{pos pos' tpos:Pos}{ta tv:TE}
theorem pe_fld(he:PE X e ta)(hb:attributeBase e f X.env (eval e X.env)=eval e X.env):PE X (.Attribute e f pos) (tFld X.K ta f):=by
 intro pins s σ H Q I h
 refine attr_of hb (thn (he pins s σ H _ I h) fun u s1 ⟨x,H1,I1,rx,a,C,dx,fs,v,ex,ea,c,n,l,q⟩=>?_)
 subst ex
 obtain rfl:u=Value.ref a:=rx
 exact getattr_ok I1 ea c n l fun u' s2 I2 ru=>⟨v,H1,I2,ru,q⟩
theorem ps_fld(ha:PE X o ta)(hv:PE X value tv)(hs:swapsWith value (some (.Attribute o f pos')) pos.line X.env=pure false):PS X (.Assign [.Attribute o f pos'] value pos) (sFld X.K ta tv f):=by
 intro pins s σ H D I h
 refine plainObj_wpAny_Assign_Attribute (thn (hv pins s σ H _ I h) fun u s1 ⟨y,H1,I1,ry,q⟩=>thn (ha pins s1 σ H1 _ I1 q) fun ov s2 ⟨x,H2,I2,rx,a,C,dx,fs,ex,ea,c,n,l,q2⟩=>?_) hs
 subst ex
 obtain rfl:ov=Value.ref a:=rx
 exact setattr_ok I2 ea c n l ry fun s3 I3=>⟨σ,_,I3,q2⟩
theorem methcall_of{pl:Sem Bool}{m:Str}{apos:Pos}{args:List Expr}{pins:List (Addr×Obj)}{s:Shared}{σ:St}{H:Hp}{Q:Value→Shared→Prop}{te:TE}(he:PE X e te)(I:Inv X pins σ H s)
  (h:te σ H fun x H1=>∃ a C dx fs g,x = .ref a∧H1 a=some (.ins C dx fs)∧Cls X.K C∧Meth X.K C m g∧fs.lookup m=none∧
   ∀ s1,Inv X pins σ H1 s1→wpAny (model X.prog X.w) X.A (callWith pos (.ref g) [.ref a] (backTo pos (starEach args X.env)) (backToKw pos (keywordEach [] X.env))) Q X.xe s1)
  (ht:eval (.Call (.Attribute e m apos) args [] pos) X.env=(do
   let ov ← eval e X.env
   standAt apos.atName
   let (f,first) ← holding [ov] (getMethod ov m pl)
   callWith pos f first (backTo pos (starEach args X.env)) (backToKw pos (keywordEach [] X.env)))) :
  wpAny (model X.prog X.w) X.A (eval (.Call (.Attribute e m apos) args [] pos) X.env) Q X.xe s:=by
 refine PySem.W.methodCall_KW (pl:=pl) (thn (he pins s σ H _ I h) fun u s1 ⟨x,H1,I1,rx,a,C,dx,fs,g,ex,ea,c,k,l,q⟩=>?_) ht
 subst ex
 obtain rfl:u=Value.ref a:=rx
 exact getmeth_ok I1 ea c k l (q s1 I1)
end
end L2
namespace L2
open PySem PySem.Spec PyProof.Rows
structure Room(k:Nat)(A:Around):Prop where
 hd:A.handled=none
 dp:A.depth + k + 5 < recursionLimit
 un:A.units + 16 * k + 200 < cLine
theorem Room.mono{j k:Nat}{A:Around}(r:Room k A)(h:j≤k):Room j A:=⟨r.hd,by have:=r.dp;omega,by have:=r.un;omega⟩
theorem Room.deeper{k:Nat}{A:Around}(r:Room (k + 1) A)(env:Env):Room k (A.deeper env) :=
 ⟨r.hd,by have:=r.dp;show A.depth + 1 + k + 5 < _;omega,by have:=r.un;show A.units + 3 + 16 * k + 200 < _;omega⟩
theorem make_depth{A:Around}{C:Addr}{us:List Value}{kw:List (Str×Value)}:(A.under (.builtin "type.__call__" ⟨.ref C::us,kw⟩)).depth=A.depth + 1:=by
 first | rfl | simp [Around.under,Code.weight,Code.isCreation,Code.isGuard,Code.isCaller,Code.frames,Code.isFrame,guardIds]
theorem make_units{A:Around}{C:Addr}{us:List Value}{kw:List (Str×Value)}:(A.under (.builtin "type.__call__" ⟨.ref C::us,kw⟩)).units=A.units + 1:=by
 first | rfl | simp [Around.under,Code.cUnits,Code.frames,Code.isFrame]
theorem Room.make{k:Nat}{A:Around}(r:Room (k + 1) A)(C:Addr)(us:List Value)(kw:List (Str×Value)):Room k (A.under (.builtin "type.__call__" ⟨.ref C::us,kw⟩)) :=
 ⟨r.hd,by have:=r.dp;rw [make_depth];omega,by have:=r.un;rw [make_units];omega⟩
theorem Room.depth{k:Nat}{A:Around}(r:Room k A):A.depth < recursionLimit:=by have:=r.dp;omega
theorem Room.units{k:Nat}{A:Around}(r:Room k A):A.units + 64 < cLine:=by have:=r.un;omega
def tNil:TA:=fun _ H Q=>Q [] H
def tCons(ta:TE)(tr:TA):TA:=fun σ H Q=>ta σ H fun x H1=>tr σ H1 fun xs H2=>Q (x::xs) H2
section
variable{X:Cx}{e:Expr}{es:List Expr}{te:TE}{t:TA}{pos:Pos}
theorem pa_nil:PA X [] tNil:=fun _ _ _ _ H Q I h=>Calls.spliced_nil ⟨[],H,I,.nil,h⟩
theorem pa_cons(ha:PE X e te)(hr:PA X es t)(hs:starEach (e::es) X.env=(false,eval e X.env)::starEach es X.env:=by rfl):PA X (e::es) (tCons te t):=by
 intro pos pins s σ H Q I h
 rw [hs]
 show wpAny _ _ (spliced ((false,eval e X.env)::backTo pos (starEach es X.env))) _ _ s
 refine Calls.spliced_cons (thn (ha pins s σ H _ I h) fun u s1 ⟨x,H1,I1,r1,q1⟩=>?_)
 exact thn (hr pos pins s1 σ H1 _ I1 q1) fun us s2 ⟨xs,H2,I2,r2,q2⟩=>⟨x::xs,H2,I2,.cons r1 r2,q2⟩
def tLst(t:TA):TE:=fun σ H Q=>t σ H fun xs H1=>xs.length≤sizeLine∧∀ p,H1 p=none→Q (.ref p) (upd H1 p (.lst xs))
theorem pe_lst(h:PA X es t):PE X (.List es pos) (tLst t):=by
 intro pins s σ H Q I hq
 refine wpAny_List_spliced (thn (h pos pins s σ H _ I hq) fun us s1 ⟨xs,H1,I1,r,z,q⟩=>⟨by rw [← r.length];exact z,?_⟩)
 have hf:H1 s1.heap.objs.size=none:=I1.hok.fresh (Nat.le_refl _)
 refine ⟨.ref s1.heap.objs.size,upd H1 s1.heap.objs.size (.lst xs),I1.laid (t':=s1.toks) (fun b u e=>Heap.get?_push_of_some _ e) (Nat.le_refl _) ?_,rfl,q _ hf⟩
 exact ⟨z,us,0,r,Heap.get?_push_size _ rfl⟩
end
abbrev Sp:=List V→Hp→VK→XK→Prop
abbrev CXT:=List Env→Hp→Shared→XK→Value→Shared→Prop
structure Env0(P:Program)(w:World)(K:PySem.W.Frag)(mg:Str→Option Value)(base:Heap)(A:Around)(outer:List Env)(s:Shared)(H:Hp):Prop where
 frames:A.frames=some outer
 mod:Mod K mg base
 bs:∀ b o,base.get? b=some o→s.heap.get? b=some o∧H b=none
 bsz:base.objs.size≤s.heap.objs.size
 funs:s.heap.FunFrames base outer
 frf:∀ b∈frs outer,H b=none
 hok:HOk P w H s.heap
 bare:AllBare s.gens
def CE(outer:List Env)(P:Program)(w:World)(H:Hp)(s:Shared)(Q:VK)(u:Value)(s':Shared):Prop :=
 ∃ v H',s'.os=s.os∧AllBare s'.gens∧Un (frs outer) [] H H' s.heap s'.heap∧HOk P w H' s'.heap∧RelV v u∧Q v H'
def CR(CX:CXT)(outer:List Env)(P:Program)(w:World)(H:Hp)(s:Shared)(Q:VK)(E:XK)(r:Result)(s':Shared):Prop :=
 match r with
 | .ok (.ret u)=>CE outer P w H s Q u s'
 | .ok _=>False
 | .error e=>CX outer H s E e s'
structure FnOk(P:Program)(w:World)(K:PySem.W.Frag)(mg:Str→Option Value)(base:Heap)(CX:CXT)(k:Nat)(f:Addr)(fd:FuncData)(ps:List Str)(sp:Sp):Prop where
 len:∀ vs H Q E,sp vs H Q E→vs.length=ps.length
 run:∀ (A:Around) (outer:List Env) (s:Shared) (H:Hp) (args:Args) (us:List Value) (vs:List V) (Q:VK) (E:XK),Room k A→Env0 P w K mg base A outer s H→BindsTo s fd args (ps.zip us)→Vals vs us→sp vs H Q E→
  codeAny (model P w) A (.call (.ref f) args) (CR CX outer P w H s Q E) s
theorem Env0.make{P:Program}{w:World}{K:PySem.W.Frag}{mg:Str→Option Value}{base:Heap}{A:Around}{outer:List Env}{s:Shared}{H:Hp}(e:Env0 P w K mg base A outer s H)(C:Addr)(us:List Value)(kw:List (Str×Value)) :
  Env0 P w K mg base (A.under (.builtin "type.__call__" ⟨.ref C::us,kw⟩)) outer s H:=⟨by first | exact e.frames | (simpa [Around.under,Code.envs,Code.isFrame,pushEnvs] using e.frames),e.mod,e.bs,e.bsz,e.funs,e.frf,e.hok,e.bare⟩
section
variable{X:Cx}{pins:List (Addr×Obj)}{σ:St}{H:Hp}{s s':Shared}
theorem Inv.env0(I:Inv X pins σ H s):Env0 X.prog X.w X.K X.mg X.base X.A X.stack s H :=
 ⟨I.ok.frames,I.ok.mod,I.bs,Nat.le_trans I.ok.bsz I.sz,I.stack,I.stkFree,I.hok,I.bare⟩
theorem Inv.after{Q:VK}{u:Value}(I:Inv X pins σ H s)(h:CE X.stack X.prog X.w H s Q u s'):EP X pins σ Q u s':=by
 obtain ⟨v,H',os,bare,un,hok,r,q⟩:=h
 obtain ⟨hh,g,d,t,os'⟩:=s'
 obtain rfl:os'=s.os:=os
 exact ⟨v,H',I.call (h':=hh) (g':=g) (d':=d) (t':=t) (ch:=[]) un hok bare (fun b z=>absurd z (by simp)),r,q⟩
end
def tCall(sp:Sp)(dvs:List V)(E:XK)(t:TA):TE:=fun σ H Q=>t σ H fun vs H1=>sp (vs ++ dvs) H1 Q E
def tMake(C:Addr)(sp:Sp)(dvs:List V)(E:XK)(t:TA):TE:=fun σ H Q=>t σ H fun vs H1=>∀ x dx,H1 x=none→H1 dx=none→dx≠x→
 sp (.ref x::(vs ++ dvs)) (upd (upd H1 dx (.own x)) x (.ins C dx [])) (fun v H2=>v = .non∧Q (.ref x) H2) E
def Binds(K:PySem.W.Frag)(fd:FuncData)(ps:List Str)(ds:List Value):Prop :=
 ∀ (s:Shared) (us:List Value),K.In s.heap→(us ++ ds).length=ps.length→BindsTo s fd ⟨us,[]⟩ (ps.zip (us ++ ds))
theorem Binds.all{K:PySem.W.Frag}{fd:FuncData}{ps:List Str}(h:∀ us:List Value,us.length=ps.length→bindArgs fd ⟨us,[]⟩=pure (ps.zip us)):Binds K fd ps []:=fun s us _ hl=>by
 rw [List.append_nil] at hl ⊢
 exact .of_eq (h us hl)
def Passes(CX:CXT)(X:Cx)(E:XK):Prop:=∀ (pins:List (Addr×Obj)) (σ:St) (H:Hp) (s:Shared) (e:Value) (s':Shared),Inv X pins σ H s→CX X.stack H s E e s'→X.xe e s'
section
variable{X:Cx}{CX:CXT}{k:Nat}{f C:Addr}{fd:FuncData}{ps:List Str}{sp:Sp}{dvs:List V}{ds:List Value}{E:XK}{x m:Str}{p pos apos:Pos}{e o:Expr}{es:List Expr}{ta:TE}{t:TA}
theorem run_fn{pins:List (Addr×Obj)}{σ:St}{H:Hp}{s:Shared}{Q:VK}{us:List Value}{vs:List V}(F:FnOk X.prog X.w X.K X.mg X.base CX k f fd ps sp)(hr:Room k X.A)(hb:Binds X.K fd ps ds)(hd:Vals dvs ds)(hx:Passes CX X E)
  (I:Inv X pins σ H s) (r:Vals vs us) (h:sp (vs ++ dvs) H Q E):wpAny (model X.prog X.w) X.A (call (.ref f) us) (EP X pins σ Q) X.xe s:=by
 have r2:Vals (vs ++ dvs) (us ++ ds):=r.append hd
 have hl:(us ++ ds).length=ps.length:=by rw [← r2.length];exact F.len _ _ _ _ h
 refine wpAny_call (codeAny_mono (F.run X.A X.stack s H ⟨us,[]⟩ (us ++ ds) (vs ++ dvs) Q E hr I.env0 (hb s us I.kIn hl) r2 h) fun r s' hq=>?_)
 cases r with
 | error e=>exact hx pins σ H s e s' I hq
 | ok fl =>
  cases fl with
  | ret u=>exact I.after hq
  | next=>exact False.elim hq
  | brk=>exact False.elim hq
  | cont=>exact False.elim hq
theorem pe_call(F:FnOk X.prog X.w X.K X.mg X.base CX k f fd ps sp)(hr:Room k X.A)(hg:Gl X x)(hm:X.mg x=some (.ref f))(hk:PySem.W.keepIn X.K (.ref f)=true)(hb:Binds X.K fd ps ds)(hd:Vals dvs ds)(hx:Passes CX X E)
  (ha:PA X (e::es) t) (hdb:(x == ("__debug__":Str))=false:=by decide) (he:starEach (e::es) X.env=(false,eval e X.env)::starEach es X.env:=by rfl) (hpl:(backTo pos (starEach es X.env)).any (·.1)=false:=by rfl) :
  PE X (.Call (.Name x p) (e::es) [] pos) (tCall sp dvs E t):=by
 intro pins s σ H Q I h
 refine wpAny_Call_Name_kw (ld_glob I hg hm ?_ hdb)
 refine PySem.W.callWith_K (h₀:=X.base) I.ok.mod.kin hk (thn (ha pos pins s σ H _ I h) fun us s1 ⟨vs,H1,I1,r,q⟩=>⟨I1.kIn,?_⟩) he hpl
 exact run_fn F hr hb hd hx I1 r q
structure Mk(K:PySem.W.Frag)(C f:Addr):Prop where
 makes:PySem.W.makesIn K C=true
 init:PySem.W.findIn K (.ref C) "__init__"=some (some (.ref f))
 fn:PySem.W.isFn K (.ref f)=true
 kp:PySem.W.keepIn K (.ref C)=true
theorem run_make{pins:List (Addr×Obj)}{σ:St}{H:Hp}{s:Shared}{Q:VK}{us:List Value}{vs:List V}(M:Mk X.K C f)(F:FnOk X.prog X.w X.K X.mg X.base CX k f fd ps sp)(hr:Room (k + 1) X.A)(hb:Binds X.K fd ps ds)(hd:Vals dvs ds)
  (hx:Passes CX X E) (I:Inv X pins σ H s) (r:Vals vs us)
  (h:∀ x dx,H x=none→H dx=none→dx≠x→sp (.ref x::(vs ++ dvs)) (upd (upd H dx (.own x)) x (.ins C dx [])) (fun v H2=>v = .non∧Q (.ref x) H2) E) :
  wpAny (model X.prog X.w) X.A (call (.ref C) us) (EP X pins σ Q) X.xe s:=by
 have hq:=h (s.heap.objs.size + 1) s.heap.objs.size (I.hok.fresh (Nat.le_succ _)) (I.hok.fresh (Nat.le_refl _)) (Nat.ne_of_lt (Nat.lt_succ_self _))
 have I2:=Inv.made (C:=C) I
 have r2:Vals (V.ref (s.heap.objs.size + 1)::(vs ++ dvs)) (Value.ref (s.heap.objs.size + 1)::(us ++ ds)):=.cons rfl (r.append hd)
 have hl:(Value.ref (s.heap.objs.size + 1)::us ++ ds).length=ps.length:=by
  have e:=r2.length
  rw [F.len _ _ _ _ hq] at e
  exact e.symm
 refine wpAny_call (make_map (f:=f) I.kIn M.makes M.init (beq_iff_eq.mp M.fn) (codeAny_mono (F.run _ X.stack _ _ ⟨Value.ref (s.heap.objs.size + 1)::us,[]⟩ (Value.ref (s.heap.objs.size + 1)::(us ++ ds)) _ _ E (hr.make C us [])
  (I2.env0.make C us []) (hb _ (Value.ref (s.heap.objs.size + 1)::us) I2.kIn hl) r2 hq) fun r s' hq'=>?_))
 cases r with
 | error e=>exact hx pins σ _ _ e s' I2 hq'
 | ok fl =>
  cases fl with
  | ret u =>
   obtain ⟨v,H',I3,rv,ev,q3⟩:=I2.after hq'
   subst ev
   exact ⟨rv,⟨V.ref (s.heap.objs.size + 1),H',I3,rfl,q3⟩⟩
  | next=>exact False.elim hq'
  | brk=>exact False.elim hq'
  | cont=>exact False.elim hq'
theorem pe_make(M:Mk X.K C f)(F:FnOk X.prog X.w X.K X.mg X.base CX k f fd ps sp)(hr:Room (k + 1) X.A)(hg:Gl X x)(hm:X.mg x=some (.ref C))(hb:Binds X.K fd ps ds)(hd:Vals dvs ds)(hx:Passes CX X E)
  (ha:PA X (e::es) t) (hdb:(x == ("__debug__":Str))=false:=by decide) (he:starEach (e::es) X.env=(false,eval e X.env)::starEach es X.env:=by rfl) (hpl:(backTo pos (starEach es X.env)).any (·.1)=false:=by rfl) :
  PE X (.Call (.Name x p) (e::es) [] pos) (tMake C sp dvs E t):=by
 intro pins s σ H Q I h
 refine wpAny_Call_Name_kw (ld_glob I hg hm ?_ hdb)
 refine PySem.W.callWith_K (h₀:=X.base) I.ok.mod.kin M.kp (thn (ha pos pins s σ H _ I h) fun us s1 ⟨vs,H1,I1,r,q⟩=>⟨I1.kIn,?_⟩) he hpl
 exact run_make M F hr hb hd hx I1 r q
end
structure FnScope(N P:List Str)(sc:Scope):Prop where
 kind:sc.kind = .function
 co:sc.isCoroutine=false
 gen:sc.isGenerator=false
 nd:N.Nodup
 pre:N.take P.length=P
 par:∀ x∈P,sc.names.lookup x=some .local∨sc.names.lookup x=some .cell
 nofree:∀ y∈sc.names,y.2≠.free
theorem bindL_out{kindOf:Str→Option NameKind}{x:Str}:∀ {binds:List (Str×Value)} {m:Str→Option Value},(∀ v,(x,v)∉binds)→bindL kindOf binds m x=m x
 | [],_,_=>rfl
 | (n,v)::r,m,h=>by
  unfold bindL
  rw [bindL_out fun w hw=>h w (List.mem_cons_of_mem _ hw)]
  split
  ·have:x≠n:=by rintro rfl;exact h v List.mem_cons_self
   simp [this]
  ·rfl
theorem bindC_out{kindOf:Str→Option NameKind}{x:Str}:∀ {binds:List (Str×Value)} {m:Str→Option Value},(∀ v,(x,v)∉binds)→bindC kindOf binds m x=m x
 | [],_,_=>rfl
 | (n,v)::r,m,h=>by
  unfold bindC
  rw [bindC_out fun w hw=>h w (List.mem_cons_of_mem _ hw)]
  split
  ·rfl
  ·have:x≠n:=by rintro rfl;exact h v List.mem_cons_self
   simp [this]
theorem bindL_get{kindOf:Str→Option NameKind}{x:Str}{v:Value}:∀ {P:List Str} {vs:List Value} {i:Nat} {m:Str→Option Value},P.Nodup→P[i]? = some x→vs[i]? = some v→kindOf x=some .local→
  bindL kindOf (P.zip vs) m x=some v
 | [],_,_,_,_,h,_,_=>by simp at h
 | _::_,[],_,_,_,_,h,_=>by simp at h
 | p::P,w::vs,0,m,nd,h1,h2,hk=>by
  simp at h1 h2;subst h1;subst h2
  show bindL kindOf ((p,w)::P.zip vs) m p=_
  unfold bindL
  rw [bindL_out fun v hv=>(List.nodup_cons.mp nd).1 (List.of_mem_zip hv).1,if_pos hk]
  simp
 | p::P,w::vs,i + 1,m,nd,h1,h2,hk=>by
  show bindL kindOf ((p,w)::P.zip vs) m x=_
  unfold bindL
  exact bindL_get (i:=i) (List.nodup_cons.mp nd).2 (by simpa using h1) (by simpa using h2) hk
theorem bindC_get{kindOf:Str→Option NameKind}{x:Str}{v:Value}:∀ {P:List Str} {vs:List Value} {i:Nat} {m:Str→Option Value},P.Nodup→P[i]? = some x→vs[i]? = some v→kindOf x≠some .local→
  bindC kindOf (P.zip vs) m x=some v
 | [],_,_,_,_,h,_,_=>by simp at h
 | _::_,[],_,_,_,_,h,_=>by simp at h
 | p::P,w::vs,0,m,nd,h1,h2,hk=>by
  simp at h1 h2;subst h1;subst h2
  show bindC kindOf ((p,w)::P.zip vs) m p=_
  unfold bindC
  rw [bindC_out fun v hv=>(List.nodup_cons.mp nd).1 (List.of_mem_zip hv).1,if_neg hk]
  simp
 | p::P,w::vs,i + 1,m,nd,h1,h2,hk=>by
  show bindC kindOf ((p,w)::P.zip vs) m x=_
  unfold bindC
  exact bindC_get (i:=i) (List.nodup_cons.mp nd).2 (by simpa using h1) (by simpa using h2) hk
def start(N:List Str)(vs:List V):St:=vs.map some ++ List.replicate (N.length - vs.length) none
def cxOf(CX:CXT)(P:Program)(w:World)(K:PySem.W.Frag)(mg:Str→Option Value)(base:Heap)(N:List Str)(qual:Str)(scope:Scope)(f:Addr)(cd:Value)(A:Around)(outer:List Env)(s:Shared)(H:Hp)(E:XK):Cx where
 prog:=P
 w:=w
 K:=K
 mg:=mg
 base:=base
 A:=A.deeper (envOfC qual scope s.heap.objs.size f cd)
 N:=N
 s_0:=s
 H_0:=H
 env:=envOfC qual scope s.heap.objs.size f cd
 outer:=outer
 stack:=envOfC qual scope s.heap.objs.size f cd::outer
 ex:=[]
 calm:=true
 fn:=fun _=>true
 pn:=[]
 xe:=fun e s'=>wpAny (model P w) (A.deeper (envOfC qual scope s.heap.objs.size f cd)) (leaving (envOfC qual scope s.heap.objs.size f cd) e) (fun _ s''=>CX outer H s E e s'') (fun e' s''=>CX outer H s E e' s'') s'
theorem cell_has{sc:Scope}{n:Nat}{x:Str}(h:sc.names.lookup x=some .cell):∃ c,(cellsFrom n sc.names []).lookup x=some c:=by
 have q:=PySem.W.cellsFrom_some sc.names n [] (.inl h)
 exact Option.isSome_iff_exists.mp q
theorem inv_start{CX:CXT}{P:Program}{w:World}{K:PySem.W.Frag}{mg:Str→Option Value}{base:Heap}{N ps:List Str}{qual:Str}{scope:Scope}{f:Addr}{cd:Value}{A:Around}{outer:List Env}{s s1:Shared}{H:Hp}{E:XK}{us:List Value}{vs:List V}
  (S:FnScope N ps scope) (hd:A.handled=none) (e0:Env0 P w K mg base A outer s H) (hl:vs.length=ps.length) (r:Vals vs us)
  (x:InCallC s s.heap.objs.size (bindL (envOfC qual scope s.heap.objs.size f cd).kindOf (ps.zip us) fun _=>none) (cellsFrom (s.heap.objs.size + 1) scope.names []) (bindC (envOfC qual scope s.heap.objs.size f cd).kindOf (ps.zip us) fun _=>none) s1) :
  Inv (cxOf CX P w K mg base N qual scope f cd A outer s H E) [] (start N vs) H s1:=by
 have hpl:ps.length≤N.length:=by have:=congrArg List.length S.pre;rw [List.length_take] at this;omega
 obtain ⟨h1,tk,rfl,hk⟩:=x.done
 have noA:∀ b:Addr,b∉(cxOf CX P w K mg base N qual scope f cd A outer s H E).ex:=fun b z=>absurd (show b∈([]:List Addr) from z) (by simp)
 refine ⟨⟨e0.mod,S.kind,rfl,rfl,Nat.le_refl _,fun y z c h1 h2=>?_,fun y hy=>?_,fun y c _ h=>?_,fun _=>hd,Around.frames_deeper e0.frames,.inr ⟨rfl,rfl⟩,fun b z=>absurd z (noA b),e0.bs,e0.bsz,fun b _ _=>noA b,fun b z=>absurd z (noA b),e0.funs,e0.frf⟩,
  rfl,e0.bare,Un.kept hk,⟨_,x.toInCall.ns,fun i y v h1 h2 h3=>?_⟩,fun y c h=>⟨_,x.cell y c h⟩,e0.hok.fresh (Nat.le_refl _),fun y c h=>?_,fun p hp=>absurd (show p∈([]:List (Addr×Obj)) from hp) (by simp),e0.hok.kept hk,?_⟩
 ·exact name_of_addr x.apart (PySem.mem_of_lookup h1) (PySem.mem_of_lookup h2)
 ·have hy:scope.names.lookup y=some .cell∨scope.names.lookup y=some .free:=hy
  rcases hy with hy | hy
  ·exact cell_has hy
  ·exact absurd rfl (S.nofree _ (PySem.mem_of_lookup hy))
 ·exact Nat.le_of_lt (x.above y c (PySem.mem_of_lookup h))
 ·have hi:i < vs.length:=by
   unfold start at h2
   by_cases hi:i < vs.length
   ·exact hi
   ·rw [List.getElem?_append_right (by simpa using hi)] at h2
    rw [List.getElem?_replicate] at h2
    split at h2 <;> cases h2
  have ha:vs[i]? = some v:=by
   unfold start at h2
   rw [List.getElem?_append_left (by simpa using hi),List.getElem?_map] at h2
   cases e:vs[i]? with
   | none=>rw [e] at h2;cases h2
   | some a=>rw [e] at h2;cases h2;rfl
  obtain ⟨u,hu,rv⟩:=r.get ha
  have hp:ps[i]? = some y:=by
   rw [← S.pre,List.getElem?_take_of_lt (by omega)];exact h1
  have ndP:ps.Nodup:=by rw [← S.pre];exact S.nd.sublist (List.take_sublist _ _)
  refine ⟨u,rv,?_⟩
  rcases S.par y (List.mem_of_getElem? hp) with k | k
  ·exact .inl ⟨k,bindL_get ndP hp hu k⟩
  ·obtain ⟨c,e⟩:=cell_has (n:=s.heap.objs.size + 1) k
   refine .inr ⟨.inl k,c,e,?_⟩
   have q:=x.cell y c e
   rw [bindC_get ndP hp hu (by show scope.names.lookup y≠_;rw [k];decide)] at q
   exact q
 ·exact e0.hok.fresh (Nat.le_of_lt (x.above y c (PySem.mem_of_lookup h)))
 ·unfold start
  show _=N.length
  rw [List.length_append,List.length_map,List.length_replicate]
  omega
theorem fn_of{CX:CXT}{P:Program}{w:World}{K:PySem.W.Frag}{mg:Str→Option Value}{base:Heap}{k:Nat}{f:Addr}{name qual:Str}{params:Arguments}{body:List Stmt}{scope:Scope}{dV kV doc pm cdv ct oc:Value}{an od:Option Addr}
  {osl:Array (Option Value)} {N ps:List Str} {sp:Sp} (lk:K.lookup f=some ⟨oc,od,.func (PySem.W.fnOf name qual params body scope dV kV doc pm an cdv ct),osl⟩) (hcd:PySem.W.codeIn K cdv qual=true) (S:FnScope N ps scope)
  (len:∀ vs H Q E,sp vs H Q E→vs.length=ps.length)
  (hbody:∀ (A:Around) (outer:List Env) (s:Shared) (H:Hp) (vs:List V) (Q:VK) (E:XK),Room k (A.deeper (envOfC qual scope s.heap.objs.size f cdv))→sp vs H Q E→
   ∃ t,PSs (cxOf CX P w K mg base N qual scope f cdv A outer s H E) body t∧t { nx:=fun _ H'=>Q .non H',rt:=Q } (start N vs) H) :
  FnOk P w K mg base CX (k + 1) f (PySem.W.fnOf name qual params body scope dV kV doc pm an cdv ct) ps sp:=by
 refine ⟨len,fun A outer s H args us vs Q E hr e0 hb r hsp=>?_⟩
 have hl:=len _ _ _ _ hsp
 have KX:K.In s.heap:=e0.mod.kin.keeps fun b o e=>(e0.bs b o e).1
 have lim:s.heap.NoLimit:=e0.mod.nolimit.keeps fun b o e=>(e0.bs b o e).1
 have hkind:∀ y∈ps.zip us,scope.names.lookup y.1=some .local∨(scope.names.lookup y.1=some .cell∧((cellsFrom (s.heap.objs.size + 1) scope.names []).lookup y.1).isSome=true):=fun ⟨n,v⟩ hy=>by
  rcases S.par n (List.of_mem_zip hy).1 with q | q
  ·exact .inl q
  ·exact .inr ⟨q,PySem.W.cellsFrom_some _ _ _ (.inl q)⟩
 refine codeAny_call_function hr.depth (KX _ _ lk) rfl S.co S.gen rfl (PySem.W.codeRec_of KX hcd) (hb _ _ _ _ ?_)
 refine wpAny_newFunctionEnv_cells S.kind hkind fun env he s1 x=>?_
 subst he
 refine ⟨lim.keeps x.toInCall.keep,codeAny_func ?_⟩
 obtain ⟨t,ht,hq⟩:=hbody A outer s H vs Q E (hr.deeper _) hsp
 have I:Inv (cxOf CX P w K mg base N qual scope f cdv A outer s H E) [] (start N vs) H s1:=inv_start S hr.hd e0 hl r x
 refine wpAny_mono (ht [] s1 (start N vs) H _ I hq) (fun fl s' hs=>?_) fun e s' hs=>hs
 have fin:∀ {σ':St} {H':Hp} {v:V} {u:Value},Inv (cxOf CX P w K mg base N qual scope f cdv A outer s H E) [] σ' H' s'→RelV v u→Q v H'→CE outer P w H s Q u s' :=
  fun {σ' H' v u} J rv q=>⟨v,H',J.os,J.bare,J.base,J.hok,rv,q⟩
 cases fl with
 | ret u =>
  obtain ⟨v,σ',H',J,rv,q⟩:=hs
  exact fin J rv q
 | next =>
  obtain ⟨σ',H',J,q⟩:=hs
  exact fin (v:=V.non) (u:=Value.none) J rfl q
 | brk =>
  obtain ⟨_,_,_,q⟩:=hs
  exact False.elim q
 | cont =>
  obtain ⟨_,_,_,q⟩:=hs
  exact False.elim q
end L2
namespace L2
open PySem PySem.Spec PyProof.Rows
section
variable{X:Cx}{x:Str}{p pos:Pos}{e:Expr}{es:List Expr}{t:TA}{id T:String}{r:List V→Hp→VK→Prop}
def tCB(r:List V→Hp→VK→Prop)(t:TA):TE:=fun σ H Q=>t σ H fun vs H1=>r vs H1 Q
theorem pe_callB(hc:CallR X (.builtin id) r)(hg:Gl X x)(hm:X.mg x=none)(hv:bootBuiltins x=some (.builtin id))(ha:PA X (e::es) t)(hn:x≠"__name__":=by decide)(hdb:(x == ("__debug__":Str))=false:=by decide)
  (he:starEach (e::es) X.env=(false,eval e X.env)::starEach es X.env:=by rfl) (hpl:(backTo pos (starEach es X.env)).any (·.1)=false:=by rfl):PE X (.Call (.Name x p) (e::es) [] pos) (tCB r t):=by
 intro pins s σ H Q I h
 refine wpAny_Call_Name_kw (ld_blt I hg hm hv ?_ hn hdb)
 exact PyProof.Rows.callWith_builtin1 (thn (ha pos pins s σ H _ I h) fun us s1 ⟨vs,H1,I1,r1,q1⟩=>hc pins s1 σ H1 vs us Q I1 r1 q1) he hpl
theorem pe_callTy(hc:CallR X (.type T) r)(hg:Gl X x)(hm:X.mg x=none)(hv:bootBuiltins x=some (.type T))(ha:PA X (e::es) t)(hn:x≠"__name__":=by decide)(hdb:(x == ("__debug__":Str))=false:=by decide)
  (he:starEach (e::es) X.env=(false,eval e X.env)::starEach es X.env:=by rfl) (hpl:(backTo pos (starEach es X.env)).any (·.1)=false:=by rfl):PE X (.Call (.Name x p) (e::es) [] pos) (tCB r t):=by
 intro pins s σ H Q I h
 refine wpAny_Call_Name_kw (ld_blt I hg hm hv ?_ hn hdb)
 exact PyProof.Rows.callWith_type1 (thn (ha pos pins s σ H _ I h) fun us s1 ⟨vs,H1,I1,r1,q1⟩=>hc pins s1 σ H1 vs us Q I1 r1 q1) he hpl
end
end L2
namespace HT
open PySem PyProof.Rows
section
variable{prog:Program}{w:World}{A:Around}{E:Value→Shared→Prop}{s:Shared}
def sIx(n d:Nat):Option Int→Nat
 | none=>d
 | some v=>if v < 0 then (v + (n:Int)).toNat else min v.toNat n
theorem sIx_nat(n d k:Nat):sIx n d (some (k:Int))=min k n:=by
 show (if (k:Int) < 0 then ((k:Int) + (n:Int)).toNat else min (k:Int).toNat n)=min k n
 rw [if_neg (by omega),Int.toNat_natCast]
end
end HT
namespace L2
open PySem PySem.Spec PyProof.Rows
abbrev TO:=St→Hp→(Option Int→Hp→Prop)→Prop
def PO(X:Cx)(e:Option Expr)(t:TO):Prop :=
 ∀ (pins:List (Addr×Obj)) (s:Shared) (σ:St) (H:Hp) (Q:Option Int→Hp→Prop),Inv X pins σ H s→t σ H Q→
  wpAny (model X.prog X.w) X.A (evalPart e X.env) (fun u s'=>∃ o H',Inv X pins σ H' s'∧IsPart u o∧Q o H') X.xe s
def tPart(t:TE):TO:=fun σ H Q=>t σ H fun x H1=>∃ i,x = .int i∧Q (some i) H1
section
variable{X:Cx}{e:Expr}{te:TE}{lo hi:Option Expr}{tl th:TO}{pos p2:Pos}
theorem po_some(h:PE X e te):PO X (some e) (tPart te):=by
 intro pins s σ H Q I hw
 rw [evalPart_some]
 refine thn (h pins s σ H _ I hw) fun u s1 ⟨x,H1,I1,r1,q1⟩=>?_
 obtain ⟨i,rfl,q⟩:=q1
 obtain ⟨t,rfl⟩:=r1
 exact ⟨some i,H1,I1,.int i t,q⟩
def SlR(X:Cx)(r:V→Option Int→Option Int→Hp→VK→Prop):Prop :=
 ∀ (pins:List (Addr×Obj)) (s:Shared) (σ:St) (H:Hp) (x:V) (v vl vu:Value) (lo hi:Option Int) (sl:Addr) (Q:VK),Inv X pins σ H s→RelV x v→s.heap.IsSliceOf sl vl vu .none→IsPart vl lo→IsPart vu hi→r x lo hi H Q→
  ∃ T id,typeLookup (.type T) "__getitem__"=pure (some (.builtin id))∧s.TypeIs v T∧wpAny (model X.prog X.w) X.A (getItem v (.ref sl)) (EP X pins σ Q) X.xe s
def tSl(r:V→Option Int→Option Int→Hp→VK→Prop)(te:TE)(tl th:TO):TE:=fun σ H Q=>te σ H fun x H1=>tl σ H1 fun l H2=>th σ H2 fun u H3=>r x l u H3 Q
theorem pe_slice{r:V→Option Int→Option Int→Hp→VK→Prop}(hr:SlR X r)(he:PE X e te)(hl:PO X lo tl)(hu:PO X hi th):PE X (.Subscript e (.Slice lo hi none p2) pos) (tSl r te tl th):=by
 intro pins s σ H Q I h
 refine Subscript_ (thn (he pins s σ H _ I h) fun v s1 ⟨x,H1,I1,r1,q1⟩=>?_)
 refine wpAny_Slice (thn (hl pins s1 σ H1 _ I1 q1) fun vl s2 ⟨l,H2,I2,pl,q2⟩=>thn (hu pins s2 σ H2 _ I2 q2) fun vu s3 ⟨u,H3,I3,pu,q3⟩=>?_)
 rw [evalPart_none]
 refine wpAny_pure ?_
 have I4:Inv X pins σ H3 { s3 with heap:=s3.heap.push { cls:=.type "slice",data:=.fields #[vl,vu,.none] } }:=I3.kept (t':=s3.toks) fun b ob q=>Heap.get?_push_of_some _ q
 obtain ⟨T,id,hT,ht,hg⟩:=hr pins { s3 with heap:=s3.heap.push { cls:=.type "slice",data:=.fields #[vl,vu,.none] } } σ H3 x v vl vu l u s3.heap.objs.size Q I4 r1 (Heap.IsSliceOf.new ..) pl pu q3
 show wpAny (model X.prog X.w) X.A (subscriptTail e (.Slice lo hi none p2) v (.ref s3.heap.objs.size)) (EP X pins σ Q) X.xe { s3 with heap:=s3.heap.push { cls:=.type "slice",data:=.fields #[vl,vu,.none] } }
 exact tail_any (ops:=[.ref s3.heap.objs.size,v]) ht hT hg (by with_unfolding_all rfl)
def cutV(xs:List V)(lo hi:Option Int):List V:=(xs.drop (HT.sIx xs.length 0 lo)).take (HT.sIx xs.length xs.length hi - HT.sIx xs.length 0 lo)
theorem cutV_length(xs:List V)(lo hi:Option Int):(cutV xs lo hi).length≤xs.length:=by
 unfold cutV
 rw [List.length_take,List.length_drop]
 omega
end
end L2
namespace L2
open PySem PySem.Spec PyProof.Rows
def ixN(n:Nat)(i:Int):Option Nat:=if 0≤i then (if i < n then some i.toNat else none) else if -(n:Int)≤i then some (i + n).toNat else none
def atI{α:Type}(xs:List α)(i:Int):Option α:=(ixN xs.length i).bind fun j=>xs[j]?
theorem ixN_seq{n:Nat}{i:Int}{j:Nat}(h:ixN n i=some j):seqIndex? i n=some j∧j < n∧-(n:Int)≤i∧i < n:=by
 unfold ixN at h
 by_cases h0:0≤i
 ·rw [if_pos h0] at h
  by_cases h1:i < n
  ·rw [if_pos h1] at h
   have e:i.toNat=j:=Option.some.inj h
   exact ⟨by rw [seqIndex_of h0 h1,e],by omega,by omega,h1⟩
  ·rw [if_neg h1] at h;cases h
 ·rw [if_neg h0] at h
  by_cases h1 : -(n:Int)≤i
  ·rw [if_pos h1] at h
   have e:(i + n).toNat=j:=Option.some.inj h
   exact ⟨by rw [seqIndex_neg (by omega) h1,e],by omega,h1,by omega⟩
  ·rw [if_neg h1] at h;cases h
theorem atI_get{α:Type}{xs:List α}{i:Int}{v:α}(h:atI xs i=some v):∃ j,seqIndex? i xs.length=some j∧xs[j]? = some v∧j < xs.length∧-(xs.length:Int)≤i∧i < xs.length:=by
 unfold atI at h
 cases e:ixN xs.length i with
 | none=>rw [e] at h;cases h
 | some j =>
  rw [e] at h
  obtain ⟨h1,h2,h3,h4⟩:=ixN_seq e
  exact ⟨j,h1,h,h2,h3,h4⟩
theorem atI_nat{α:Type}{xs:List α}{j:Nat}{v:α}(h:xs[j]? = some v):atI xs (j:Int)=some v:=by
 have hj:j < xs.length:=(List.getElem?_eq_some_iff.mp h).1
 have e:ixN xs.length (j:Int)=some j:=by
  unfold ixN
  rw [if_pos (by omega),if_pos (by omega)];simp
 unfold atI;rw [e];exact h
def PlainIx(b:Expr):Prop:=∀ o i,subscripted b false o i=operate [o,i] (getItem o i)
def IxR(X:Cx)(r:R2):Prop :=
 ∀ (value slice:Expr) (pins:List (Addr×Obj)) (s:Shared) (σ:St) (H:Hp) (x y:V) (v u:Value) (Q:VK),Inv X pins σ H s→RelV x v→RelV y u→r x y H Q→
  subscripted slice false v u=operate [v,u] (getItem v u)→wpAny (model X.prog X.w) X.A (subscriptTail value slice v u) (EP X pins σ Q) X.xe s
def MtR(X:Cx)(id:String)(r:V→List V→Hp→VK→Prop):Prop :=
 ∀ (pins:List (Addr×Obj)) (s:Shared) (σ:St) (H:Hp) (x:V) (xs:List V) (v:Value) (us:List Value) (Q:VK),Inv X pins σ H s→RelV x v→Vals xs us→r x xs H Q→
  wpAny (model X.prog X.w) X.A (call (.builtin id) (v::us)) (EP X pins σ Q) X.xe s
section
variable{X:Cx}{a b:Expr}{ta tb:TE}{pos:Pos}
theorem pe_ix{r:R2}(hr:IxR X r)(ha:PE X a ta)(hb:PE X b tb)(hs:PlainIx b):PE X (.Subscript a b pos) (tOp r ta tb):=by
 intro pins s σ H Q I h
 exact Subscript_ (binT ha hb I h fun v u s2 x y H2 I2 rx ry q=>hr a b pins s2 σ H2 x y v u Q I2 rx ry q (hs _ _))
def rIxL(K:PySem.W.Frag):R2:=fun x y H Q=>∃ p xs i v,x = .ref p∧y = .int i∧SqL K H p xs∧atI xs i=some v∧Q v H
def rIxS:R2:=fun x y H Q=>∃ z i c,x = .str z∧y = .int i∧z.length≤sizeLine∧atI z.cps.toList i=some c∧Q (.str ⟨#[c]⟩) H
theorem ix_list:IxR X (rIxL X.K):=by
 intro value slice pins s σ H x y v u Q I rx ry h hs
 obtain ⟨p,xs,i,z,rfl,rfl,hq,he,q⟩:=h
 cases rx
 obtain ⟨t,rfl⟩:=ry
 obtain ⟨its,r,pl,hz⟩:=I.list hq
 obtain ⟨j,h1,h2,h3,h4,h5⟩:=atI_get he
 obtain ⟨w,ew,rw'⟩:=r.get h2
 have hl:=r.length
 have hn:=line63
 have fin:EP X pins σ Q w s:=⟨z,H,I,rw',q⟩
 by_cases h0:0≤i
 ·have hj:i.toNat=j:=by
   rw [seqIndex_of h0 h5] at h1
   exact Option.some.inj h1
  exact item_listR pl.isList h0 (by omega) (by rw [hj];simpa using ew) fin hs
 ·have hj:(i + (its.toArray.size:Int)).toNat=j:=by
   rw [seqIndex_neg (by omega) h4] at h1
   rw [List.size_toArray,← hl]
   exact Option.some.inj h1
  exact subscriptTail_builtinR (x:=w) pl.isList.typeIs slot_list_getitem.lookup
   (wpAny_getItem_list_neg (Q:=fun r s'=>r=w∧EP X pins σ Q r s') pl.isList (by omega) (by rw [List.size_toArray] <;> omega) (by omega) (by rw [hj];simpa using ew) ⟨rfl,fin⟩) hs
theorem ix_str:IxR X rIxS:=by
 intro value slice pins s σ H x y v u Q I rx ry h hs
 obtain ⟨z,i,c,rfl,rfl,hz,he,q⟩:=h
 obtain ⟨t,rfl⟩:=rx
 obtain ⟨t',rfl⟩:=ry
 obtain ⟨j,h1,h2,h3,h4,h5⟩:=atI_get he
 have hl:z.cps.toList.length=z.length:=by simp [Str.length]
 rw [hl] at h1 h4 h5
 have hn:=line63
 exact tail_any (typeIs_str s z t) slot_str_getitem.lookup (getItem_str (c:=c) (by
  have e1:decide (i < -(2 ^ 63:Int))=false:=decide_eq_false (by omega)
  have e2:decide (i ≥ 2 ^ 63)=false:=decide_eq_false (by omega)
  rw [e1,e2,Bool.or_false]) (by rw [h1];simpa using h2) ⟨.str ⟨#[c]⟩,H,I.tok _,⟨_,rfl⟩,q⟩) hs
theorem slice_bounds(lo hi:Option Int)(n:Nat):(sliceBounds lo hi none n).1=((HT.sIx n 0 lo:Nat):Int)∧(sliceBounds lo hi none n).2.1=((HT.sIx n n hi:Nat):Int)∧(sliceBounds lo hi none n).2.2=1:=by
 refine ⟨?_,?_,rfl⟩
 ·cases lo with
  | none=>simp [sliceBounds,HT.sIx]
  | some i =>
   simp only [sliceBounds,HT.sIx,Option.getD_none,show (1:Int) > 0 by decide,if_true]
   by_cases h:i < 0
   ·simp only [h,if_true] <;> omega
   ·simp only [h,if_false] <;> omega
 ·cases hi with
  | none=>simp [sliceBounds,HT.sIx]
  | some i =>
   simp only [sliceBounds,HT.sIx,Option.getD_none,show (1:Int) > 0 by decide,if_true]
   by_cases h:i < 0
   ·simp only [h,if_true] <;> omega
   ·simp only [h,if_false] <;> omega
theorem slicePick_cut(its:List Value)(lo hi:Option Int):slicePick its.toArray lo hi none=((its.drop (HT.sIx its.length 0 lo)).take (HT.sIx its.length its.length hi - HT.sIx its.length 0 lo)).toArray:=by
 obtain ⟨h1,h2,h3⟩:=slice_bounds lo hi its.toArray.size
 unfold slicePick
 rw [h1,h2,h3]
 simp only [sliceRange_one,pick_run,List.size_toArray] <;> rfl
def rSlL(K:PySem.W.Frag):V→Option Int→Option Int→Hp→VK→Prop:=fun x lo hi H Q=>∃ a xs,x = .ref a∧SqL K H a xs∧∀ p,H p=none→Q (.ref p) (upd H p (.lst (cutV xs lo hi)))
theorem sl_list:SlR X (rSlL X.K):=by
 intro pins s σ H x v vl vu lo hi sl Q I rx hs pl pu h
 obtain ⟨a,xs,rfl,hx,q⟩:=h
 cases rx
 obtain ⟨its,r,ht,hz⟩:=I.list hx
 have hlen:=r.length
 refine ⟨"list",_,slot_list_getitem.lookup,ht.isList.typeIs,?_⟩
 refine wpAny_getItem_list_slice ht.isList hs pl pu .none (by simp) ?_ (by rw [List.size_toArray] <;> omega)
 rw [slicePick_cut,← hlen]
 refine ⟨.ref s.heap.objs.size,_,I.laid (t':=s.toks) (o:=.lst (cutV xs lo hi)) (fun b ob q=>Heap.get?_push_of_some _ q) (Nat.le_refl _) ?_,rfl,q _ (I.hok.fresh (Nat.le_refl _))⟩
 exact ⟨Nat.le_trans (cutV_length xs lo hi) hz,_,0,(r.drop (HT.sIx xs.length 0 lo)).take (HT.sIx xs.length xs.length hi - HT.sIx xs.length 0 lo),Heap.get?_push_size _ rfl⟩
def flatV:V→Bool
 | .non=>true
 | .bl _=>true
 | .int _=>true
 | .str _=>true
 | _=>false
def eqV:V→V→Bool
 | .non,.non=>true
 | .bl a,.bl b=>a == b
 | .bl a,.int b=>(if a then 1 else 0) == b
 | .int a,.bl b=>a == (if b then 1 else 0)
 | .int a,.int b=>a == b
 | .str a,.str b=>a == b
 | _,_=>false
theorem eqAt_V{A:Around}{s:Shared}{y x:V}{u v:Value}(ry:RelV y u)(rx:RelV x v)(fy:flatV y=true)(fx:flatV x=true):SeqAt.EqAt A s u v (eqV y x):=by
 cases y with
 | non =>
  cases ry
  cases x with
  | non=>cases rx;exact SeqAt.EqAt.same _
  | bl b=>cases rx;exact SeqAt.EqAt.none_bool b
  | int b=>obtain ⟨t,rfl⟩:=rx;exact SeqAt.EqAt.none_int b t
  | str b=>obtain ⟨t,rfl⟩:=rx;exact SeqAt.EqAt.none_str b t
  | _=>exact absurd (show false=true from fx) Bool.false_ne_true
 | bl a =>
  cases ry
  cases x with
  | non=>cases rx;exact SeqAt.EqAt.bool_none a
  | bl b=>cases rx;exact SeqAt.EqAt.bool_bool a b
  | int b=>obtain ⟨t,rfl⟩:=rx;exact SeqAt.EqAt.bool_int a b t
  | str b=>obtain ⟨t,rfl⟩:=rx;exact SeqAt.EqAt.bool_str a b t
  | _=>exact absurd (show false=true from fx) Bool.false_ne_true
 | int a =>
  obtain ⟨t',rfl⟩:=ry
  cases x with
  | non=>cases rx;exact SeqAt.EqAt.int_none a t'
  | bl b=>cases rx;exact SeqAt.EqAt.int_bool a t' b
  | int b=>obtain ⟨t,rfl⟩:=rx;exact SeqAt.EqAt.int_int a t' b t
  | str b=>obtain ⟨t,rfl⟩:=rx;exact SeqAt.EqAt.int_str a t' b t
  | _=>exact absurd (show false=true from fx) Bool.false_ne_true
 | str a =>
  obtain ⟨t',rfl⟩:=ry
  cases x with
  | non=>cases rx;exact SeqAt.EqAt.str_none a t'
  | bl b=>cases rx;exact SeqAt.EqAt.str_bool a t' b
  | int b=>obtain ⟨t,rfl⟩:=rx;exact SeqAt.EqAt.str_int a t' b t
  | str b=>obtain ⟨t,rfl⟩:=rx;exact SeqAt.EqAt.str_str a t' b t
  | _=>exact absurd (show false=true from fx) Bool.false_ne_true
 | _=>exact absurd (show false=true from fy) Bool.false_ne_true
def eqU(x:V)(u:Value):Bool:=match u with
 | .none=>eqV .non x
 | .bool b=>eqV (.bl b) x
 | .int i _=>eqV (.int i) x
 | .str z _=>eqV (.str z) x
 | _=>false
theorem eqU_of{x y:V}{u:Value}(r:RelV y u)(f:flatV y=true):eqU x u=eqV y x:=by
 cases y with
 | non=>cases r;rfl
 | bl b=>cases r;rfl
 | int i=>obtain ⟨t,rfl⟩:=r;rfl
 | str z=>obtain ⟨t,rfl⟩:=r;rfl
 | _=>exact absurd (show false=true from f) Bool.false_ne_true
theorem any_eqU{x:V}:∀ {xs:List V} {us:List Value},Vals xs us→xs.all flatV=true→us.any (eqU x)=xs.any fun y=>eqV y x
 | _,_,.nil,_=>rfl
 | y::xs,u::us,.cons r t,f=>by
  rw [List.all_cons,Bool.and_eq_true] at f
  rw [List.any_cons,List.any_cons,eqU_of r f.1,any_eqU t f.2]
theorem mem_eqAt{A:Around}{s:Shared}{x:V}{v:Value}(rx:RelV x v)(fx:flatV x=true):∀ {xs:List V} {us:List Value},Vals xs us→xs.all flatV=true→∀ u∈us,SeqAt.EqAt A s u v (eqU x u)
 | _,_,.nil,_=>fun u hu=>by cases hu
 | y::xs,u::us,.cons r t,f=>fun u' hu=>by
  rw [List.all_cons,Bool.and_eq_true] at f
  rcases List.mem_cons.mp hu with rfl | hu
  ·rw [eqU_of r f.1];exact eqAt_V r rx f.1 fx
  ·exact mem_eqAt rx fx t f.2 u' hu
def inV(x:V)(xs:List V):Bool:=xs.any fun y=>eqV y x
def rIn(K:PySem.W.Frag)(neg:Bool):R2:=fun x y H Q=>∃ p xs,y = .ref p∧(SqL K H p xs∨SqT K H p xs)∧flatV x=true∧xs.all flatV=true∧Q (.bl (if neg then !inV x xs else inV x xs)) H
theorem op_in_seq:OpR X (compareOp .In) (rIn X.K false):=by
 intro pins s σ H x y v u Q I rx ry h
 obtain ⟨p,xs,rfl,hq,fx,fs,q⟩:=h
 cases ry
 rcases hq with hq | hq
 ·obtain ⟨its,r,pl,hz⟩:=I.list hq
  refine SeqAt.in_listAt (eqU x) pl.isList (fun w hw=>mem_eqAt rx fx r fs w (by simpa using hw)) ⟨.bl _,H,I,rfl,?_⟩
  rw [show its.toArray.any (eqU x)=its.any (eqU x) by simp,any_eqU r fs]
  exact q
 ·obtain ⟨its,r,pl,hz⟩:=I.tuple hq
  refine SeqAt.in_tupleAt (eqU x) pl (fun w hw=>mem_eqAt rx fx r fs w (by simpa using hw)) ⟨.bl _,H,I,rfl,?_⟩
  rw [show its.toArray.any (eqU x)=its.any (eqU x) by simp,any_eqU r fs]
  exact q
theorem call_len_seq:CallR X (.builtin "len") (fun xs H Q=>∃ p ys,xs=[.ref p]∧(SqL X.K H p ys∨SqT X.K H p ys)∧Q (.int ys.length) H):=by
 intro pins s σ H xs us Q I r h
 obtain ⟨p,ys,rfl,hq,q⟩:=h
 obtain ⟨u,rfl,rx⟩:=vals1 r
 cases rx
 have hn:=line63
 rcases hq with hq | hq
 ·obtain ⟨its,r',pl,hz⟩:=I.list hq
  have hlen:=r'.length
  exact Calls.call_len_list pl.isList (by simp only [List.size_toArray] <;> omega) ⟨.int ys.length,H,I.tok _,⟨s.toks + 1,by rw [List.size_toArray,hlen]⟩,q⟩
 ·obtain ⟨its,r',pl,hz⟩:=I.tuple hq
  have hlen:=r'.length
  exact len_tuple pl (by simp only [List.size_toArray] <;> omega) ⟨.int ys.length,H,I.tok _,⟨s.toks + 1,by rw [List.size_toArray,hlen]⟩,q⟩
theorem call_len_str:CallR X (.builtin "len") (fun xs H Q=>∃ z,xs=[.str z]∧z.length≤sizeLine∧Q (.int z.length) H):=by
 intro pins s σ H xs us Q I r h
 obtain ⟨z,rfl,hz,q⟩:=h
 obtain ⟨u,rfl,t,rfl⟩:=vals1 r
 have hn:=line63
 exact len_str (by omega) ⟨.int z.length,H,I.tok _,⟨_,rfl⟩,q⟩
theorem call_tuple_of:CallR X (.type "tuple") (fun xs H Q=>∃ p ys,xs=[.ref p]∧((SqL X.K H p ys∧∀ l,H l=none→Q (.ref l) (upd H l (.tup ys)))∨(SqT X.K H p ys∧Q (.ref p) H))):=by
 intro pins s σ H xs us Q I r h
 obtain ⟨p,ys,rfl,h⟩:=h
 obtain ⟨u,rfl,rx⟩:=vals1 r
 cases rx
 rcases h with ⟨hq,q⟩ | ⟨hq,q⟩
 ·obtain ⟨its,r',pl,hz⟩:=I.list hq
  have hlen:=r'.length
  refine call_tuple_list pl.isList (fun h' kp=>?_) (by simp only [List.size_toArray] <;> omega)
  have I1:Inv X pins σ H { s with heap:=h' }:=I.kept (t':=s.toks) kp
  have I2:Inv X pins σ (upd H h'.objs.size (.tup ys)) { s with heap:=h'.push { cls:=.type "tuple",data:=.seq its.toArray } } :=
   I1.laid (t':=s.toks) (fun b o e=>Heap.get?_push_of_some _ e) (Nat.le_refl _) (show ObjOk X.prog X.w _ _ _ (.tup ys) from ⟨hz,its,r',IsTup.new _ _⟩)
  exact ⟨.ref h'.objs.size,_,I2,rfl,q _ (I1.hok.fresh (Nat.le_refl _))⟩
 ·obtain ⟨its,r',pl,hz⟩:=I.tuple hq
  exact call_tuple_same pl ⟨.ref p,H,I,rfl,q⟩
def tyV(K:PySem.W.Frag)(T:String)(x:V)(H:Hp):Prop:=match x with
 | .str _=>T = "str"
 | .int _=>T = "int"
 | .ref p=>(T = "list"∧∃ xs,SqL K H p xs)∨(T = "tuple"∧∃ o,K.lookup p=some o∧o.cls = .type "tuple"∧o.dict=none)∨
   (T = "dict"∧((∃ kvs,H p=some (.dK kvs))∨∃ kvs,H p=some (.dT kvs)))∨(T = "set"∧∃ S n,H p=some (.set S n))
 | _=>False
theorem tyV_is{pins:List (Addr×Obj)}{σ:St}{H:Hp}{s:Shared}{T:String}{x:V}{v:Value}(I:Inv X pins σ H s)(r:RelV x v)(ty:tyV X.K T x H) :
  s.TypeIs v T∧∀ a,v = .ref a→∃ ob,s.heap.get? a=some ob∧ob.dict=none:=by
 cases x with
 | str z =>
  obtain ⟨t,rfl⟩:=r
  cases (show T = "str" from ty)
  exact ⟨typeIs_str s z t,fun _ e=>nomatch e⟩
 | int i =>
  obtain ⟨t,rfl⟩:=r
  cases (show T = "int" from ty)
  exact ⟨typeIs_int s i t,fun _ e=>nomatch e⟩
 | ref p =>
  cases r
  rcases ty with ⟨rfl,xs,hq⟩ | ⟨rfl,o,hk,hc,hd⟩ | ⟨rfl,hk⟩ | ⟨rfl,S,n,hk⟩
  ·obtain ⟨its,_,pl,_⟩:=I.list hq
   refine ⟨pl.isList.typeIs,fun a e=>?_⟩
   cases e
   obtain ⟨o,n,e,c,hd,_⟩:=pl
   exact ⟨o,e,hd⟩
  ·refine ⟨⟨o,I.kIn p o hk,hc⟩,fun a e=>?_⟩
   cases e
   exact ⟨o,I.kIn _ o hk,hd⟩
  ·have z:∃ o,s.heap.get? p=some o∧o.ExactDict:=by
    rcases hk with ⟨kvs,hk⟩ | ⟨kvs,hk⟩
    ·obtain ⟨_,_,_,_,o,_,_,e,ex,_⟩:=I.hok p _ hk
     exact ⟨o,e,ex⟩
    ·obtain ⟨_,_,_,_,o,_,_,e,ex,_⟩:=I.hok p _ hk
     exact ⟨o,e,ex⟩
   obtain ⟨o,e,ex⟩:=z
   refine ⟨⟨o,e,ex.1⟩,fun a e2=>?_⟩
   cases e2
   exact ⟨o,e,ex.2.1⟩
  ·obtain ⟨o,_,_,_,e,ex,_⟩:=I.hok p _ hk
   refine ⟨⟨o,e,ex.1⟩,fun a e2=>?_⟩
   cases e2
   exact ⟨o,e,ex.2.1⟩
 | _=>exact False.elim ty
def tBM(K:PySem.W.Frag)(T:String)(r:V→List V→Hp→VK→Prop)(to:TE)(t:TA):TE:=fun σ H Q=>to σ H fun x H1=>tyV K T x H1∧t σ H1 fun xs H2=>r x xs H2 Q
variable{o e:Expr}{es:List Expr}{to:TE}{t:TA}{name:Str}{apos cpos:Pos}{T id:String}{r:V→List V→Hp→VK→Prop}
theorem pe_bm(pa:PlainAttrs T)(slot:Slot T name id)(hty:typeOf (.builtin id)=pure (.type "method_descriptor"))(hm:MtR X id r)(ho:PE X o to)(ha:PA X (e::es) t)
  (hbase:attributeBase o name X.env (eval o X.env)=eval o X.env:=by rfl)
  (hfew:((backTo cpos (starEach (e::es) X.env)).all (fun x => !x.1) && (backToKw cpos (keywordEach [] X.env)).all (fun x=>x.1.isSome)
   && decide ((e::es).length + ([]:List Keyword).length + (if ([]:List Keyword).isEmpty then 0 else 1) < 30))=true:=by rfl)
  (hline:(apos.endLine == cpos.line)=true:=by rfl) (hs:starEach (e::es) X.env=(false,eval e X.env)::starEach es X.env:=by rfl) (hplain:(backTo cpos (starEach es X.env)).any (·.1)=false:=by rfl) :
  PE X (.Call (.Attribute o name apos) (e::es) [] cpos) (tBM X.K T r to t):=by
 intro pins s σ H Q I h
 refine wpAny_Call_method_late hbase hfew hline rfl (thn (ho pins s σ H _ I h) fun v s1 ⟨x,H1,I1,r1,ty,q1⟩=>?_)
 obtain ⟨h1,h2⟩:=tyV_is I1 r1 ty
 refine ⟨T,id,pa,slot,hty,h1,h2,?_⟩
 have hA:=ha cpos pins s1 σ H1 _ I1 q1
 rw [hs] at hA ⊢
 refine Calls.callWith_builtin (by show (false || (backTo cpos (starEach es X.env)).any (·.1))=false;rw [hplain] <;> rfl) (Calls.evalArgs_plain ?_)
 exact thn hA fun us s2 ⟨vs,H2,I2,r2,q2⟩=>hm pins s2 σ H2 x vs v us Q I2 r1 r2 q2
end
end L2
namespace L2
open PySem PySem.Spec PyProof.Rows
def MtM(X:Cx)(id:String)(r:V→List V→Hp→VK→Prop):Prop :=
 ∀ (pins:List (Addr×Obj)) (s:Shared) (σ:St) (H:Hp) (x:V) (xs:List V) (v:Value) (us:List Value) (Q:VK),Inv X pins σ H s→RelV x v→Vals xs us→r x xs H Q→
  wpAny (model X.prog X.w) X.A (call (.builtin id) (v::us)) (EP X pins σ Q) X.xe s
theorem Vals.one:∀ {x:V} {us:List Value},Vals [x] us→∃ u,us=[u]∧RelV x u
 | _,_,.cons r .nil=>⟨_,rfl,r⟩
section
variable{X:Cx}{pins:List (Addr×Obj)}{σ:St}{H:Hp}{s:Shared}{l b:Addr}{xs ys zs:List V}
theorem Inv.lset{its its':List Value}{n:Nat}{f:Array Value→Array Value}{t':Nat}(I:Inv X pins σ H s)(hH:H l=some (.lst xs))
  (e:s.heap.get? l=some { cls:=.type "list",data:=.seq its.toArray n }) (hf:f its.toArray=its'.toArray) (hv:Vals ys its') (hz:ys.length≤sizeLine) :
  Inv X pins σ (upd H l (.lst ys)) { s with heap:=s.heap.update l (Obj.mapSeq f),toks:=t' }:=by
 have q:=PySem.IsL.update e f
 rw [hf] at q
 refine I.write (x:=l) (e:=l) (by rw [hH];exact trivial) (.inl rfl) (fun b' u hb hu=>(Heap.get?_update_other s.heap (Obj.mapSeq f) (Ne.symm hb)).trans hu) ⟨_,q⟩ ?_
 exact ⟨hz,its',_,hv,q⟩
theorem Inv.lnew{its:List Value}{t':Nat}(I:Inv X pins σ H s)(hv:Vals ys its)(hz:ys.length≤sizeLine) :
  Inv X pins σ (upd H s.heap.objs.size (.lst ys)) { s with heap:=s.heap.push { cls:=.type "list",data:=.seq its.toArray },toks:=t' } :=
 I.laid (fun _ _ q=>Heap.get?_push_of_some _ q) (Nat.le_refl _) ⟨hz,its,0,hv,Heap.get?_push_size _ rfl⟩
theorem Inv.fresh(I:Inv X pins σ H s):H s.heap.objs.size=none:=I.hok.fresh (Nat.le_refl _)
theorem Inv.lstM(I:Inv X pins σ H s)(hH:H l=some (.lst xs)):xs.length≤sizeLine∧∃ (its:List Value) (n:Nat),Vals xs its∧xs.length=its.length∧s.heap.get? l=some { cls:=.type "list",data:=.seq its.toArray n }:=by
 obtain ⟨z,its,n,r,e⟩:=I.hok l _ hH
 exact ⟨z,its,n,r,r.length,e⟩
theorem notLongL{n:Nat}(h:n≤sizeLine):Builtin.List.listTooLong n=false:=by
 unfold Builtin.List.listTooLong
 exact decide_eq_false (by omega)
end
section
variable{X:Cx}
def rAppend:V→List V→Hp→VK→Prop:=fun x vs H Q=>∃ l xs y,x = .ref l∧vs=[y]∧H l=some (.lst xs)∧xs.length < sizeLine∧Q .non (upd H l (.lst (xs ++ [y])))
theorem mt_append:MtM X "list.append" rAppend:=by
 intro pins s σ H x vs v us Q I rx rv h
 obtain ⟨l,xs,y,rfl,rfl,hH,hz,q⟩:=h
 cases rx
 obtain ⟨u,rfl,ru⟩:=rv.one
 obtain ⟨z,its,n,r,hl,e⟩:=I.lstM hH
 refine call_meets F.slot_list_append ⟨_,e,rfl⟩ F.entry_list_append (F.args_list_append_2 _ _) (PySem.list_append l its.toArray n u (by rw [List.size_toArray];omega)) ⟨e,?_⟩
 refine ⟨.non,_,I.lset (its':=its ++ [u]) hH e (by simp) (r.append (.cons ru .nil)) ?_,rfl,q⟩
 rw [List.length_append,List.length_singleton]
 omega
def rExtend:V→List V→Hp→VK→Prop:=fun x vs H Q=>∃ l b xs zs,x = .ref l∧vs=[.ref b]∧H l=some (.lst xs)∧H b=some (.lst zs)∧xs.length + zs.length≤sizeLine∧Q .non (upd H l (.lst (xs ++ zs)))
theorem mt_extend:MtM X "list.extend" rExtend:=by
 intro pins s σ H x vs v us Q I rx rv h
 obtain ⟨l,b,xs,zs,rfl,rfl,hH,hB,hz,q⟩:=h
 cases rx
 obtain ⟨u,rfl,ru⟩:=rv.one
 cases ru
 obtain ⟨z,its,n,r,hl,e⟩:=I.lstM hH
 obtain ⟨z2,its2,n2,r2,hl2,e2⟩:=I.lstM hB
 have hsz:its.toArray.size + its2.toArray.size≤sizeLine:=by rw [List.size_toArray,List.size_toArray];omega
 have hlong:¬ (!its.toArray.isEmpty && Builtin.List.listTooLong (its.toArray.size + its2.toArray.size))=true:=by
  rw [notLongL hsz,Bool.and_false]
  exact Bool.false_ne_true
 refine call_meets F.slot_list_extend ⟨_,e,rfl⟩ F.entry_list_extend (F.args_list_extend_2 _ _)
  (AutoSeq1.list_extend_list_list_0 l its.toArray n b its2.toArray n2 hlong (by rw [List.size_toArray];omega) (by omega)) ⟨e,e2,?_⟩
 refine ⟨.non,_,I.lset (its':=its ++ its2) hH e (by simp) (r.append r2) ?_,rfl,q⟩
 rw [List.length_append]
 omega
def rCat:R2:=fun x y H Q=>∃ l b xs zs,x = .ref l∧y = .ref b∧H l=some (.lst xs)∧H b=some (.lst zs)∧xs.length + zs.length≤sizeLine∧∀ p,H p=none→Q (.ref p) (upd H p (.lst (xs ++ zs)))
theorem op_cat:OpR X (binaryOp .Add) rCat:=by
 intro pins s σ H x y v u Q I rx ry h
 obtain ⟨l,b,xs,zs,rfl,rfl,hH,hB,hz,q⟩:=h
 cases rx
 cases ry
 obtain ⟨z,its,n,r,hl,e⟩:=I.lstM hH
 obtain ⟨z2,its2,n2,r2,hl2,e2⟩:=I.lstM hB
 refine PySem.P.add_list e e2 ?_ (by rw [List.size_toArray,List.size_toArray];omega)
 have ea:its.toArray ++ its2.toArray=(its ++ its2).toArray:=by simp
 rw [ea]
 exact ⟨.ref _,_,I.lnew (t':=s.toks) (r.append r2) (by rw [List.length_append];omega),rfl,q _ I.fresh⟩
end
section
variable{prog:Program}{w:World}{A:Around}{E:Value→Shared→Prop}{s:Shared}
set_option maxRecDepth 100000 in
end
end L2
namespace L2
open PySem PySem.Spec PyProof.Rows
section
variable{X:Cx}
end
end L2
namespace L2
open PySem PySem.Spec PyProof.Rows
end L2
namespace L2
open PySem PySem.Spec PyProof.Rows
end L2
namespace L2
open PySem PySem.Spec PyProof.Rows
section
variable{κ:Type}[DecidableEq κ]
def valV(kvs:List (κ×V))(k:κ):Option V:=(kvs.find? fun kv=>decide (kv.1=k)).map (·.2)
theorem valV_pos{p:κ×V}{r:List (κ×V)}{k:κ}(e:p.1=k):valV (p::r) k=some p.2:=by simp [valV,List.find?_cons,e]
theorem valV_neg{p:κ×V}{r:List (κ×V)}{k:κ}(e:¬ p.1=k):valV (p::r) k=valV r k:=by simp [valV,List.find?_cons,e]
theorem RelO.isSome_eq{o:Option V}{u:Option Value}(r:RelO o u):o.isSome=u.isSome:=by
 cases o with
 | none=>cases u with
  | none=>rfl
  | some _=>exact (show False from r).elim
 | some _=>cases u with
  | none=>exact (show False from r).elim
  | some _=>rfl
theorem RelO.getD{o:Option V}{u:Option Value}{d:V}{d':Value}(r:RelO o u)(rd:RelV d d'):RelV (o.getD d) (u.getD d'):=by
 cases o with
 | none=>cases u with
  | none=>exact rd
  | some _=>exact (show False from r).elim
 | some _=>cases u with
  | none=>exact (show False from r).elim
  | some _=>exact r
end
theorem kV_is{P:Program}{w:World}{k:Key}{u:Value}(r:RelV (kV k) u):(mixKind P w).is k u=true:=by
 cases k with
 | inl i=>obtain ⟨t,e⟩:=(show ∃ t,u=Value.int i t from r);subst e;exact mixKind_int P w i t
 | inr x=>obtain ⟨t,e⟩:=(show ∃ t,u=Value.str x t from r);subst e;exact mixKind_str P w x t
theorem items_are{P:Program}{w:World}:∀ {ks:List Key} {us:List Value},Vals (ks.map kV) us→ItemsAre (mixKind P w) ks us
 | [],_,r=>by rw [List.map_nil] at r;cases r;exact .nil
 | k::ks,_,r=>by
  rw [List.map_cons] at r
  cases r with
  | cons h t=>exact .cons (kV_is h) (items_are t)
section
variable{P:Program}{w:World}{H:Hp}{h:Heap}{a:Addr}
theorem key_of{ks:List Key}(ok:HOk P w H h)(e:H a=some (.tup (ks.map kV))):(tupleKind (mixKind P w)).is h ks a:=by
 obtain ⟨_,its,r,o,h1,h2,n,h3⟩:=(show ObjOk P w H h a (.tup (ks.map kV)) from ok a _ e)
 exact ⟨o,its.toArray,n,h1,h2,h3,by simpa using items_are r⟩
end
def NoSl(i:Expr):Prop:=∀ ov iv,subscripted i false ov iv=operate [ov,iv] (getItem ov iv)
theorem subD_of{prog:Program}{w:World}{A:Around}{E:Value→Shared→Prop}{s:Shared}{env:Env}{value slice:Expr}{pos:Pos}{T id:String}{Q:Value→Shared→Prop}
  (hl:typeLookup (.type T) "__getitem__"=pure (some (.builtin id))) (hs:NoSl slice)
  (h:wpAny (model prog w) A (eval value env) (fun o s₁=>wpAny (model prog w) A (eval slice env) (fun i s₂=>s₂.TypeIs o T∧wpAny (model prog w) A (getItem o i) Q E s₂) E s₁) E s) :
  wpAny (model prog w) A (eval (.Subscript value slice pos) env) Q E s:=by
 refine Subscript_ (wpAny_mono h (fun o s₁ h₁=>wpAny_mono h₁ (fun i s₂ h₂=>?_) fun _ _ x=>x) fun _ _ x=>x)
 obtain ⟨hT,h₂⟩:=h₂
 unfold subscriptTail
 refine wpAny_bind ?_
 rw [getitemInPython_of_ne hT.not_modules]
 refine wpAny_bind (wpAny_specialOf hT hl ?_)
 have fin:wpAny (model prog w) A (subscripted slice false o i) (fun r s₃=>wpAny (model prog w) A (letTemporaryGo value o r >>= fun _=>pure r) Q E s₃) E s₂:=by
  rw [hs o i]
  exact wpAny_operating (wpAny_mono h₂ (fun r s₃ h₃=>wpAny_bind (wpAny_letTemporaryGo (wpAny_pure h₃))) fun _ _ x=>x)
 first
  | exact wpAny_pure (wpAny_bind fin)
  | exact wpAny_bind (wpAny_pure (wpAny_bind fin))
  | exact wpAny_bind fin
structure M2(X:Cx)(o:Expr)(m:Str)(apos:Pos)(e f:Expr)(cpos:Pos):Prop where
 base:attributeBase o m X.env (eval o X.env)=eval o X.env
 few:((backTo cpos (starEach [e,f] X.env)).all (fun x => !x.1) && (backToKw cpos (keywordEach [] X.env)).all (fun x=>x.1.isSome)
  && decide (([e,f]:List Expr).length + ([]:List Keyword).length + (if ([]:List Keyword).isEmpty then 0 else 1) < 30))=true
 line:(apos.endLine == cpos.line)=true
 trees:backTo cpos (starEach [e,f] X.env)=[(false,eval e X.env),(false,eval f X.env)]
end L2
namespace L2
open PySem PySem.Spec PyProof.Rows
end L2
namespace L2
open PySem PySem.Spec PyProof.Rows
section
variable{X:Cx}{pins:List (Addr×Obj)}{σ:St}{H:Hp}{s:Shared}{h':Heap}
theorem Inv.turnedNew{t':Nat}{ch:List Addr}{T:Addr}{ob:HO}(I:Inv X pins σ H s)(k:∀ b o,b∉ch→s.heap.get? b=some o→h'.get? b=some o)(hf:∀ b∈ch,FpOk X pins H b)(hT:s.heap.objs.size≤T)
  (new:ObjOk X.prog X.w (upd H T ob) h' T ob):Inv X pins σ (upd H T ob) { s with heap:=h',toks:=t' }:=by
 have hn:H T=none:=I.hok.fresh hT
 have nit:∀ b u,H b=some u→b∉ch:=fun b u e z=>by
  have q:=(hf b z).1
  rw [q] at e;cases e
 refine I.step (g':=s.gens) (d':=s.drawn) (ch:=ch) (fun b hb=>⟨(hf b hb).2.2.2.1,(hf b hb).2.1,(hf b hb).2.2.2.2.1,(hf b hb).2.2.2.2.2⟩) (fun b o _ _ hc e _=>k b o hc e) (fun b o _ _ hc e _=>⟨o.slots,k b o hc e⟩)
  (fun b o _ e n=>?_) (fun b o hc e=>⟨o,k b o hc e⟩) (fun b xs e=>?_) (fun b o u e=>?_) (fun b ps e=>⟨#[],?_⟩) (fun m hm=>?_) (fun b u e=>?_) I.bare
 ·rw [upd_ne (Nat.ne_of_lt (Nat.lt_of_lt_of_le (Heap.lt_size e) hT))];exact n
 ·rw [upd_ne (ne_of_none e hn)];exact e
 ·rw [upd_ne (ne_of_none e hn)];exact e
 ·rw [upd_ne (ne_of_none e hn),e];simp
 ·obtain ⟨o,es,ep,ho,r⟩:=hm
  exact ⟨o,es,ep,k _ o (fun z=>(hf _ z).2.1 rfl) ho,r⟩
 ·by_cases hb:b=T
  ·subst hb
   rw [upd_same] at e
   cases e
   exact new
  ·rw [upd_ne hb] at e
   refine (I.hok b u e).stay (fun c v hc q=>k c v ?_ q) (fun c q=>by rw [upd_ne (ne_of_none q hn)];exact q) fun c xs q=>by rw [upd_ne (ne_of_none q hn)];exact q
   rcases hc with z | z
   ·rw [z];exact nit b u e
   ·exact nit c _ z
end
section
variable{X:Cx}
end
def Ite(K:PySem.W.Frag)(a:Addr):It :=
 ⟨fun i H=>∃ (xs:List V) (x:V),SqL K H a xs∧xs[i]? = some x,fun i H v H'=>∃ T x,v = .ref T∧H T=none∧H'=upd H T (.tup [.int (i:Nat),x])∧∀ xs,SqL K H a xs→xs[i]? = some x,fun i H=>∃ xs:List V,SqL K H a xs∧xs.length≤i⟩
theorem turn_enum{P:Program}{w:World}{K:PySem.W.Frag}{elts:List Expr}{kk:Nat}{tpos:Pos}(a e it:Addr) :
  Turn P w K (.Tuple elts kk tpos) (Ite K a) [e,it] e (fun i h=>(∃ old,IsEnum h e it ((i:Nat):Int) old)∧h.IsListIter it a i∧e≠it) where
 mem:=by simp
 obj:=fun i h st b hb=>by
  obtain ⟨⟨old,he⟩,⟨o,ho,hc,hd⟩,_⟩:=st
  have e':b=e∨b=it:=by simpa using hb
  rcases e' with z | z
  ·rw [z];exact ⟨_,he,fun v q=>nomatch q⟩
  ·rw [z];exact ⟨o,ho,fun v q=>by rw [hd] at q;cases q⟩
 keep:=fun i h h' st k=>let ⟨⟨old,he⟩,hi,hne⟩:=st;⟨⟨old,k e (by simp) _ he⟩,hi.at fun o q=>k it (by simp) o q,hne⟩
 item:=by
  intro X hP hw hK hc i pins s σ H E I hf st hg
  subst hP hw hK
  obtain ⟨⟨old,he⟩,hit,hne⟩:=st
  obtain ⟨xs,x,hq,hx⟩:=hg
  obtain ⟨its,rv,p,hz⟩:=I.list hq
  obtain ⟨u,hu,ru⟩:=rv.get hx
  have hel:e < s.heap.objs.size:=Heap.lt_size he
  have hil:it < s.heap.objs.size:=by obtain ⟨_,q,_⟩:=hit;exact Heap.lt_size q
  refine wpAny_pyNext_enum_item he hit p.isList (x:=u) (by simpa using hu) hne fun h' ho hit' hT hsz hk=>?_
  refine ⟨_,rfl,wpAny_letOwnedTupleGo_enum (s:={ s with heap:=h',toks:=s.toks + 1 }) ho fun h'' he' sb=>?_⟩
  have hT2:h''.get? s.heap.objs.size=some { cls:=.type "tuple",data:=.seq #[.int i s.toks,u] }:=(sb.2 _ (Nat.ne_of_gt hel)).trans hT
  have new:ObjOk X.prog X.w (upd H s.heap.objs.size (.tup [.int (i:Nat),x])) h'' s.heap.objs.size (.tup [.int (i:Nat),x]) :=
   ⟨by show 2≤sizeLine;decide,[.int i s.toks,u],.cons ⟨_,rfl⟩ (.cons ru .nil),⟨_,hT2,rfl,_,rfl⟩⟩
  have I1:Inv X pins σ (upd H s.heap.objs.size (.tup [.int (i:Nat),x])) { s with heap:=h'',toks:=s.toks + 1 } :=
   I.turnedNew (ch:=[e,it]) (fun b ob hb q=>(sb.2 b (fun z=>hb (by simp [z]))).trans (hk b ob (fun z=>hb (by simp [z])) (fun z=>hb (by simp [z])) q)) hf (Nat.le_refl _) new
  refine ⟨.ref s.heap.objs.size,_,I1,rfl,⟨_,x,rfl,I.hok.fresh (Nat.le_refl _),rfl,fun ys hy=>by rw [I.list_inj hy hq];exact hx⟩,⟨⟨u,?_⟩,hit'.at fun o q=>(sb.2 it (Ne.symm hne)).trans q,hne⟩,fun b hb=>?_⟩
  ·have e1:((i + 1:Nat):Int)=(i:Int) + 1:=by omega
   rw [e1];exact he'
  ·have hb':b < s.heap.objs.size:=by
    have e':b=e∨b=it:=by simpa using hb
    rcases e' with z | z
    ·rw [z];exact hel
    ·rw [z];exact hil
   rw [upd_ne (Nat.ne_of_lt hb')]
   exact (hf b hb).1
 done:=by
  intro X hP hw hK hc i pins s σ H E I hf st hg
  subst hP hw hK
  obtain ⟨⟨old,he⟩,hit,hne⟩:=st
  obtain ⟨xs,hq,hx⟩:=hg
  obtain ⟨its,rv,p,hz⟩:=I.list hq
  obtain ⟨f0,f1,f2,f3,f4,f5⟩:=hf it (by simp)
  have hl:=rv.length
  exact wpAny_pyNext_enum_end (I.ok.hd hc) he hit p.isList (by simp;omega) fun h' eb=>⟨rfl,I.turned (t':=s.toks) (fun b o hb q=>eb b o hb q) f0 f1 f3 f4 f5⟩
 self:=fun A i s Q E st h=>let ⟨⟨_,he⟩,_⟩:=st;wpAny_pyIter_enum he h
def iEnum(K:PySem.W.Frag)(ta:TA):TI:=fun σ H R=>ta σ H fun vs H1=>∃ a xs,vs=[.ref a]∧SqL K H1 a xs∧R (Ite K a) H1
theorem pi_enum{X:Cx}{e:Expr}{ta:TA}{p pos tpos:Pos}{elts:List Expr}{kk:Nat}(hg:Gl X "enumerate")(hm:X.mg "enumerate"=none)(ha:PA X [e] ta)(hs:starEach [e] X.env=[(false,eval e X.env)]:=by rfl) :
  PI X (.Tuple elts kk tpos) (.Call (.Name "enumerate" p) [e] [] pos) (iEnum X.K ta):=by
 intro pins s σ H R I h
 refine Call_ (ld_blt I hg hm boot_enumerate (PyProof.Rows.callWith_type1 (thn (ha pos pins s σ H _ I h) fun us s1 ⟨vs,H1,I1,r1,q1⟩=>?_) hs rfl))
 obtain ⟨a,xs,ex,hq,q⟩:=q1
 subst ex
 cases r1 with
 | cons r rr =>
  cases rr
  cases r
  obtain ⟨its,rv,p',hz⟩:=I1.list hq
  refine call_enumerate_list p'.isList fun h' he hit hsz hk=>wpAny_pyIter_enum he ?_
  have I2:Inv X pins σ H1 { s1 with heap:=h' }:=I1.kept (t':=s1.toks) hk
  refine ⟨s1.heap.objs.size + 1,[s1.heap.objs.size + 1,s1.heap.objs.size],_,_,H1,rfl,I2,turn_enum a (s1.heap.objs.size + 1) s1.heap.objs.size,⟨⟨.none,he⟩,hit,Nat.succ_ne_self _⟩,fun b hb=>?_,q⟩
  have e':b=s1.heap.objs.size + 1∨b=s1.heap.objs.size:=by simpa using hb
  have hle:s1.heap.objs.size≤b:=by
   rcases e' with z | z
   ·rw [z];exact Nat.le_add_right _ _
   ·rw [z];exact Nat.le_refl _
  exact I1.fpOk hle (I1.hok.fresh hle)
end L2
section
namespace Bits
open PySem PyProof.Rows
end Bits
end
section
namespace TL
open PySem PySem.Builtin PySem.Builtin.Str PySem.StrLaws
end TL
end
namespace L2
open PySem PySem.Spec PyProof.Rows
section
variable{X:Cx}
end
end L2
namespace L2
open PySem PySem.Spec PyProof.Rows
end L2
namespace Att
open PySem PySem.W PySem.Calls PyProof.Rows
section
variable{prog:Program}{w:World}{A:Around}{E:Value→Shared→Prop}{s:Shared}{K:Frag}
end
end Att
namespace L2
open PySem PySem.Spec PyProof.Rows
end L2
namespace L2
open PySem PySem.Spec PyProof.Rows
end L2
namespace L2
open PySem PySem.Spec PyProof.Rows
def inClass(s:Stmt)(j:Nat):Stmt:=match s with
 | .ClassDef _ _ _ body _ _ _ _ _ _ _=>body.getD j (.Pass ⟨0,0,0,0⟩)
 | _=>.Pass ⟨0,0,0,0⟩
def defArgs(s:Stmt):Arguments:=match s with
 | .FunctionDef _ a _ _ _ _ _ _ _ _=>a
 | _=>{ posonlyargs:=[],args:=[],vararg:=none,kwonlyargs:=[],kw_defaults:=[],kwarg:=none,defaults:=[] }
def defBody(s:Stmt):List Stmt:=match s with
 | .FunctionDef _ _ b _ _ _ _ _ _ _=>b
 | _=>[]
def defScope(s:Stmt):Scope:=match s with
 | .FunctionDef _ _ _ _ _ _ sc _ _ _=>sc
 | _=>{ kind:=.function,names:=[],isGenerator:=false,isCoroutine:=false }
structure Fun(K:PySem.W.Frag)(x qual:Str)(st:Stmt)(f:Addr)(fd:FuncData):Prop where
 ex:∃ (oc:Value) (od:Option Addr) (kV doc pm:Value) (an:Option Addr) (cdv ct:Value) (osl:Array (Option Value)),
  fd=PySem.W.fnOf x qual (defArgs st) (defBody st) (defScope st) .none kV doc pm an cdv ct∧K.lookup f=some ⟨oc,od,.func fd,osl⟩∧PySem.W.codeIn K cdv qual=true
 kp:PySem.W.keepIn K (.ref f)=true
section
variable{P:Program}{w:World}{K:PySem.W.Frag}{mg:Str→Option Value}{base:Heap}
theorem Fun.binds{x qual:Str}{st:Stmt}{f:Addr}{fd:FuncData}{ps:List Str}(F:Fun K x qual st f fd)
  (h:∀ (kV doc pm:Value) (an:Option Addr) (cdv ct:Value) (us:List Value),us.length=ps.length→bindArgs (PySem.W.fnOf x qual (defArgs st) (defBody st) (defScope st) .none kV doc pm an cdv ct) ⟨us,[]⟩=pure (ps.zip us)):Binds K fd ps []:=by
 obtain ⟨oc,od,kV,doc,pm,an,cdv,ct,osl,rfl,lk,hcd⟩:=F.ex
 exact .all (h kV doc pm an cdv ct)
theorem fun_mk{x qual:Str}{st:Stmt}{f:Addr}{oc:Value}{od an:Option Addr}{osl:Array (Option Value)}{kV doc pm cdv ct:Value}(l:K.lookup f=some ⟨oc,od,.func (PySem.W.fnOf x qual (defArgs st) (defBody st) (defScope st) .none kV doc pm an cdv ct),osl⟩)
  (c:PySem.W.codeIn K cdv qual=true) (k:PySem.W.keepIn K (.ref f)=true):Fun K x qual st f (PySem.W.fnOf x qual (defArgs st) (defBody st) (defScope st) .none kV doc pm an cdv ct):=⟨⟨oc,od,kV,doc,pm,an,cdv,ct,osl,rfl,l,c⟩,k⟩
end
theorem hu_of{A:Around}{k:Nat}(hr:Room k A):A.units + 1 < cLine:=Nat.lt_of_le_of_lt (Nat.add_le_add_left (by decide:1≤64) _) hr.units
section
variable{X:Cx}
theorem pv(i:Nat){x:Str}{pos:Pos}(hN:X.N[i]? = some x:=by rfl)(hv:Vis X.env.scope x:=by first | exact Or.inl rfl | exact Or.inr (Or.inl rfl) | exact Or.inr (Or.inr rfl))(hd:(x == ("__debug__":Str))=false:=by decide)
  (hcd:(x == ("__classdict__":Str))=false:=by decide):PE X (.Name x pos) (tVar i):=pe_var hN hv hd hcd
end
theorem ite2{c A B:Prop}[Decidable c](h1:c→A)(h2:¬ c→B):if c then A else B:=by
 by_cases h:c
 ·rw [if_pos h]
  exact h1 h
 ·rw [if_neg h]
  exact h2 h
def Same(H H':Hp):Prop:=∀ b o,H b=some o→H' b=some o
theorem Same.refl(H:Hp):Same H H:=fun _ _ h=>h
theorem Same.trans{H H1 H2:Hp}(a:Same H H1)(b:Same H1 H2):Same H H2:=fun c o h=>b c o (a c o h)
theorem Same.seq{K:PySem.W.Frag}{H H':Hp}{a:Addr}{xs:List V}(e:Same H H')(h:SqL K H a xs):SqL K H' a xs:=by
 rcases h with (h | ⟨o,h⟩) | h
 ·exact .inl (.inl (e _ _ h))
 ·exact .inl (.inr ⟨o,e _ _ h⟩)
 ·exact .inr h
theorem Same.made{H H1:Hp}{x dx C:Addr}(nx:H x=Option.none)(nd:H dx=Option.none)(k:∀ b o,(upd (upd H dx (.own x)) x (.ins C dx [])) b=some o→b≠x→H1 b=some o):Same H H1:=fun b o e =>
 k b o (by rw [upd_ne (ne_of_none e nx),upd_ne (ne_of_none e nd)];exact e) (ne_of_none e nx)
end L2
end
section
set_option autoImplicit false
namespace CX
open PySem
abbrev frm(l:List Env):List Addr:=l.filterMap (·.frame)
structure Air(h:Heap)(x T:Addr)(C:Value)(dx:Option Addr)(fl:Value):Prop where
 obj:∃ o vs,h.get? x=some o∧o.cls=C∧o.dict=dx∧o.data = .fields vs∧vs[1]? = some (.ref T)
 ne:T≠x
 tb:∃ o ts,h.get? T=some o∧o.data = .fields ts∧ts[3]? = some fl
structure Left(l:List Env)(x:Addr)(head:Value)(h h':Heap):Prop where
 keep:∀ b o,b≠x→head≠.ref b→b∉frm l→h.get? b=some o→h'.get? b=some o
 slot:∀ b o,b∈frm l→h.get? b=some o→∃ sl,h'.get? b=some { o with slots:=sl }
 there:∀ b o,h.get? b=some o→∃ o',h'.get? b=some o'
theorem dict_map(o:Obj)(f:Array Value→Array Value):(o.mapFields f).dict=o.dict:=by
 obtain ⟨c,d,dt,sl⟩:=o
 cases dt <;> rfl
section
variable{M:Model}{A:Around}{E:Value→Shared→Prop}{s:Shared}{base:Heap}{env:Env}{outer:List Env}{L x:Addr}{o:Obj}{vs:Array Value}{head:Value}{Q:Unit→Shared→Prop}
theorem entry_on{had:Bool}(hfr:A.frames=some (env::outer))(hl:s.heap.FunFrames base (env::outer))(hf:env.frame=some L)(hx:s.heap.get? x=some o)(hd:o.data = .fields vs)(hz:1 < vs.size)
  (h:∀ h' T,s.heap.objs.size≤T→Left (env::outer) x .none s.heap h'→Air h' x T o.cls o.dict (rawInt L)→Q () { s with heap:=h' }) :
  wpAny M A (do let a ← frameOf env;let pl ← entryPlaceOf L had;let y ← EntryCells.newEntry head a .none (rawInt L) .none pl;setField (.ref x) 1 y) Q E s:=by
 have xn:x∉frm (env::outer):=fun hm=>by
  obtain ⟨_,u,hu,hv⟩:=hl.mem hm
  rw [hx] at hu
  cases hu
  exact hv vs hd
 refine wpAny_bind (wpAny_frameOf_fun hfr hl hf fun g1 so=>?_)
 refine wpAny_bind (wpAny_entryPlaceOf fun pl hp=>?_)
 unfold EntryCells.newEntry newFields
 refine wpAny_bind (wpAny_newObj_type ?_ (hp.sizeOk5 _ _ _ _ _))
 have hx1:g1.get? x=some o:=(so.2.1 x xn).trans hx
 generalize hob:({ cls:=.type "traceback",dict:=none,data:=.fields ([head,.ref L,.none,rawInt L,.none] ++ (if pl.isEmpty then List.replicate 6 Value.none else pl)).toArray }:Obj)=tb
 have hfree:tb.isFreed=false:=by subst hob;rfl
 have hx2:=Heap.get?_push_of_some (h:=g1) tb hx1
 have hT2:(g1.push tb).get? g1.objs.size=some tb:=Heap.get?_push_size g1 hfree
 have nTx:g1.objs.size≠x:=Nat.ne_of_gt (Heap.lt_size hx1)
 refine wpAny_setField hx2 hd hz ?_
 have hd3:=Obj.data_mapFields hd (·.setIfInBounds 1 (Value.ref g1.objs.size))
 refine h _ g1.objs.size ?_ ⟨fun b u hb _ hbf hbu=>?_,fun b u hbf hbu=>?_,fun b u hbu=>?_⟩ ⟨⟨_,_,Heap.get?_update_self _ hx2 (Obj.isFreed_of_fields hd3),Obj.cls_mapFields _ _,dict_map _ _,hd3,?_⟩,nTx,tb,_,?_,by subst hob;rfl,?_⟩
 ·rw [so.1];exact Nat.le_refl _
 ·rw [Heap.get?_update_other _ _ (Ne.symm hb)]
  exact Heap.get?_push_of_some _ ((so.2.1 b hbf).trans hbu)
 ·obtain ⟨sl,e⟩:=so.2.2 b u hbu
  have hb:b≠x:=fun z=>xn (z▸hbf)
  exact ⟨sl,by rw [Heap.get?_update_other _ _ (Ne.symm hb)];exact Heap.get?_push_of_some _ e⟩
 ·obtain ⟨sl,e⟩:=so.2.2 b u hbu
  by_cases hb:b=x
  ·subst hb
   exact ⟨_,Heap.get?_update_self _ hx2 (Obj.isFreed_of_fields hd3)⟩
  ·exact ⟨_,by rw [Heap.get?_update_other _ _ (Ne.symm hb)];exact Heap.get?_push_of_some _ e⟩
 ·simp [hz]
 ·rw [Heap.get?_update_other _ _ (Ne.symm nTx)];exact hT2
 ·first
   | rfl
   | (rcases hp with rfl | ⟨_,_,_,_,_,_,_,rfl⟩ <;> simp)
theorem note_on(hfr:A.frames=some (env::outer))(hl:s.heap.FunFrames base (env::outer))(hf:env.frame=some L)(hx:s.heap.get? x=some o)(hd:o.data = .fields vs)(h1:vs[1]? = some head)
  (hh:head = .none∨∃ T u ts,head = .ref T∧T≠x∧s.heap.get? T=some u∧u.data = .fields ts∧ts[3]? = some .none)
  (h:∀ h' T,s.heap.objs.size≤T→Left (env::outer) x head s.heap h'→Air h' x T o.cls o.dict (rawInt L)→Q () { s with heap:=h' }):wpAny M A (noteFrame (.ref x) env) Q E s:=by
 have hz:1 < vs.size:=(Array.getElem?_eq_some_iff.mp h1).1
 unfold noteFrame
 simp only [hf]
 refine wpAny_bind (wpAny_field hx hd h1 ?_)
 rcases hh with rfl | ⟨T,u,ts,rfl,nT,hT,hdT,h3⟩
 ·rw [if_neg (by decide)]
  exact entry_on hfr hl hf hx hd hz fun h' T a b c=>h h' T a ⟨fun q r i1 _ i3 i4=>b.keep q r i1 (by simp) i3 i4,b.slot,b.there⟩ c
 ·rw [if_pos (by simp)]
  refine wpAny_bind (wpAny_field hT hdT h3 ?_)
  rw [if_neg (by simp [rawInt])]
  refine wpAny_bind (wpAny_setField hT hdT (Array.getElem?_eq_some_iff.mp h3).1 ?_)
  have ot:∀ b,b≠T→(s.heap.update T (Obj.mapFields (·.setIfInBounds 3 Value.none))).get? b=s.heap.get? b:=fun b hb=>Heap.get?_update_other _ _ (Ne.symm hb)
  have nf:∀ b q,s.heap.get? b=some q→(∀ ws,q.data≠.fields ws)→b≠T:=fun b q hb hq z=>by
   rw [z,hT] at hb
   cases hb
   exact hq ts hdT
  have hl2:=hl.of_keeps (h':=s.heap.update T (Obj.mapFields (·.setIfInBounds 3 Value.none))) fun b q hb hq=>⟨q,(ot b (nf b q hb hq)).trans hb,rfl⟩
  refine entry_on (s:={ s with heap:=s.heap.update T (Obj.mapFields (·.setIfInBounds 3 Value.none)) }) hfr hl2 hf ((ot x (Ne.symm nT)).trans hx) hd hz fun h' T' a b c=>h h' T' ?_ ⟨fun q r i1 i2 i3 i4=>?_,fun q r i1 i2=>?_,fun q r i1=>?_⟩ c
  ·have a':(s.heap.update T (Obj.mapFields (·.setIfInBounds 3 Value.none))).objs.size≤T':=a
   rwa [Heap.size_after_update] at a'
  ·have nq:q≠T:=fun z=>i2 (by rw [z])
   exact b.keep q r i1 (by simp) i3 ((ot q nq).trans i4)
  ·obtain ⟨_,r',hr',hv⟩:=hl.mem i1
   rw [i2] at hr'
   cases hr'
   exact b.slot q r i1 ((ot q (nf q r i2 hv)).trans i2)
  ·by_cases hq:q=T
   ·subst hq
    exact b.there q _ (Heap.get?_update_self (Obj.mapFields (·.setIfInBounds 3 Value.none)) hT (Obj.isFreed_of_fields (Obj.data_mapFields hdT _)))
   ·exact b.there q r ((ot q hq).trans i1)
theorem flight_off{T:Addr}{C:Value}{dx:Option Addr}{fl:Value}(a:Air s.heap x T C dx fl)
  (h:∀ h',(∀ b u,b≠T→s.heap.get? b=some u→h'.get? b=some u)→Air h' x T C dx .none→Q () { s with heap:=h' }):wpAny M A (setFlight (.ref x) none) Q E s:=by
 obtain ⟨⟨o,vs,hx,hc,hdx,hd,h1⟩,nT,u,ts,hT,hdT,h3⟩:=a
 have hz:3 < ts.size:=(Array.getElem?_eq_some_iff.mp h3).1
 unfold setFlight
 refine wpAny_bind (wpAny_field hx hd h1 ?_)
 rw [if_pos (by simp)]
 refine wpAny_setField hT hdT hz (h _ (fun b q hb hq=>?_) ⟨⟨o,vs,?_,hc,hdx,hd,h1⟩,nT,_,_,Heap.get?_update_self _ hT (Obj.isFreed_of_fields (Obj.data_mapFields hdT _)),Obj.data_mapFields hdT _,by simp [hz]⟩)
 ·rw [Heap.get?_update_other _ _ (Ne.symm hb)];exact hq
 ·rw [Heap.get?_update_other _ _ nT];exact hx
theorem leave_on(hfr:A.frames=some (env::outer))(hl:s.heap.FunFrames base (env::outer))(hf:env.frame=some L)(hx:s.heap.get? x=some o)(hd:o.data = .fields vs)(h1:vs[1]? = some head)
  (hh:head = .none∨∃ T u ts,head = .ref T∧T≠x∧s.heap.get? T=some u∧u.data = .fields ts∧ts[3]? = some .none)
  (h:∀ h' T,s.heap.objs.size≤T→Left (env::outer) x head s.heap h'→Air h' x T o.cls o.dict .none→Q () { s with heap:=h' }):wpAny M A (leaving env (.ref x)) Q E s:=by
 unfold leaving
 refine wpAny_bind (note_on hfr hl hf hx hd h1 hh fun h1 T a b c=>?_)
 refine flight_off (s:={ s with heap:=h1 }) c fun h2 k c2=>h h2 T a ⟨fun q r i1 i2 i3 i4=>?_,fun q r i1 i2=>?_,fun q r i1=>?_⟩ c2
 ·exact k q r (fun z=>absurd (Nat.lt_of_lt_of_le (Heap.lt_size i4) (z▸a)) (Nat.lt_irrefl _)) (b.keep q r i1 i2 i3 i4)
 ·obtain ⟨sl,e⟩:=b.slot q r i1 i2
  exact ⟨sl,k q _ (fun z=>absurd (Nat.lt_of_lt_of_le (Heap.lt_size i2) (z▸a)) (Nat.lt_irrefl _)) e⟩
 ·obtain ⟨u,e⟩:=b.there q r i1
  exact ⟨u,k q u (fun z=>absurd (Nat.lt_of_lt_of_le (Heap.lt_size i1) (z▸a)) (Nat.lt_irrefl _)) e⟩
end
end CX
end
section
set_option autoImplicit false
set_option maxRecDepth 100000
namespace CX
open PySem Builtin Builtin.ObjectAttr
section
variable{prog:Program}{w:World}{A:Around}{E:Value→Shared→Prop}{h:Heap}{g:Array GenState}{d:Drawn}{t:Nat}{os:OsState}
variable{nm qn:Str}{C N x:Addr}{bs bm:List Value}{sn:List Str}{sub:List Value}{ab:Bool}{col:Option Bool}{dd:Option Addr}{c0 c1 c2 c3 c5:Option Value}{B newId sa owner:String}
 {mN mA:Str→Option Value} {name:Str} {v:Value} {o:Obj}
structure First(h h':Heap)(x:Addr)(o:Obj)(name:Str)(v:Value):Prop where
 obj:h'.get? x=some { o with dict:=some h.objs.size }
 ns:h'.Ns1 h.objs.size (fun y=>if y=name then some v else none)
 keep:∀ b u,b≠x→h.get? b=some u→h'.get? b=some u
theorem first_entry{tk:Tok}{Q:Fin→Shared→Prop}(SF:StoreFacts B bm sa owner)(cls:h.get? C=some (excClassObj nm qn C N bs bm true sn sub ab col dd c0 c1 c2 c3 c5 newId))(hn:h.Ns N mN)(hna:mN name=none)
  (hB:typeLookup (.type B) name=pure none) (hx:h.get? x=some o) (hc:o.cls = .ref C) (hnc:∀ y,o.data≠.cls y) (hdn:o.dict=none)
  (hq:∀ h' tk',First h h' x o name v→Q (.done (.ret .none)) ⟨h',g,d,tk',os⟩) :
  wpAny (model prog w) A (Builtin.«object.__setattr__» ⟨[.ref x,.str name tk,v],[]⟩) Q E ⟨h,g,d,t,os⟩:=by
 have pas:=SF.passes (.ref x)
 unfold Builtin.«object.__setattr__»
 repeat (first
  | rw [refuse_eq]
  | (rw [refuseLoop_ref,pas])
  | (with_reducible refine wpAny_loadPart_at hx ?_
     rw [hc])
  | with_reducible refine wpAny_mroOf_exc cls ?_
  | (with_reducible refine wpAny_typeLookup_exc cls hn SF.mro hB ?_
     rw [hna])
  | wp_step)
 rw [hdn,if_neg (by simp [typeHasDict])]
 split
 ·rename_i q
  cases q
 split
 ·rename_i y q
  exact absurd q (hnc y)
 have hx1:(h.push { cls:=.type "dict",data:=.dict #[] }).get? x=some o:=Heap.get?_push_of_some _ hx
 have nx:x≠h.objs.size:=Nat.ne_of_lt (Heap.lt_size hx)
 refine wpAny_bind (wpAny_alloc' ?_)
 refine wpAny_bind (wpAny_update' hx1 ?_)
 refine wpAny_pure ?_
 have free:({ o with dict:=some h.objs.size }:Obj).isFreed=false:=by
  have z:=(Heap.get?_some_iff.mp hx).2
  obtain ⟨oc,od,odt,osl⟩:=o
  cases odt <;> first | rfl | exact z
 have gd:=(Heap.get?_update_other (h.push { cls:=.type "dict",data:=.dict #[] }) (fun u=>{ cls:=u.cls,dict:=some h.objs.size,data:=u.data,slots:=u.slots }) nx).trans (Heap.get?_push_at (h:=h) (o:={ cls:=.type "dict",data:=.dict #[] }) rfl rfl)
 have gx:=Heap.get?_update_self (fun u=>{ cls:=u.cls,dict:=some h.objs.size,data:=u.data,slots:=u.slots }) hx1 free
 have nd:((h.push { cls:=.type "dict",data:=.dict #[] }).update x fun u=>{ cls:=u.cls,dict:=some h.objs.size,data:=u.data,slots:=u.slots }).Ns h.objs.size (fun _=>none) :=
  ⟨_,#[],_,gd,rfl,fun e he=>absurd he (by simp),fun _=>rfl⟩
 show wpAny _ _ (storeInDict h.objs.size (.str name tk) name v) _ _ _
 unfold storeInDict newKeyGuard
 refine wpAny_bind (wpAny_pure (wpAny_bind (wpAny_nsSet1 (Heap.Ns1.of_empty nd) fun h2 n2 sb=>?_)))
 obtain ⟨oD,eD,pD,hoD,hdD,hcD⟩:=n2.count (Within.cons name v Within.nil)
 refine wpAny_bind (wpAny_lookBehind hoD (by rw [hdD];exact pastItsLine_dict (Nat.le_trans hcD (by rw [List.length_cons,List.length_nil,sizeLine_eq];omega))) ?_)
 wp_walk
 refine hq h2 _ ⟨(sb.2 x nx).trans gx,n2,fun b u hb e=>?_⟩
 exact (sb.2 b (Nat.ne_of_lt (Heap.lt_size e))).trans ((Heap.get?_update_ne _ _ _ _ hb).trans (Heap.get?_push_of_some _ e))
theorem first_attr{Q:Unit→Shared→Prop}(SF:StoreFacts B bm sa owner)(cls:h.get? C=some (excClassObj nm qn C N bs bm true sn sub ab col dd c0 c1 c2 c3 c5 newId))(hn:h.Ns N mN)(hns:mN "__setattr__"=none)
  (hna:mN name=none) (hB:typeLookup (.type B) name=pure none) (hx:h.get? x=some o) (hc:o.cls = .ref C) (hnc:∀ y,o.data≠.cls y) (hdn:o.dict=none)
  (hq:∀ h' tk',First h h' x o name v→Q () ⟨h',g,d,tk',os⟩):wpAny (model prog w) A (setAttr (.ref x) name v) Q E ⟨h,g,d,t,os⟩:=by
 have bd:=SF.slot.bind (.ref x)
 unfold setAttr callSpecial? specialOf
 repeat (any_goals (first
  | assumption
  | (with_reducible refine wpAny_loadPart_at hx ?_
     rw [hc])
  | (with_reducible refine wpAny_typeLookup_exc cls hn SF.mro SF.slot.lookup ?_
     rw [hns])
  | wp_step))
 refine codeAny_call_builtin SF.slot.plain SF.entry (wpAny_check_sa SF cls hx hc (first_entry SF cls hn hna hB hx hc hnc hdn fun h2 t2 f=>?_))
 repeat (any_goals (first | assumption | wp_step))
 exact hq h2 t2 f
end
end CX
end
section
set_option maxRecDepth 100000
namespace L2
open PySem PySem.Spec PyProof.Rows
def CXF(P:Program)(w:World):CXT:=fun outer H s E e s' =>
 ∃ (x T:Addr) (C:Value) (dx:Addr) (H':Hp),e = .ref x∧s'.os=s.os∧AllBare s'.gens∧Un (frs outer) [] H H' s.heap s'.heap∧HOk P w H' s'.heap∧s.heap.get? x=none∧s.heap.get? T=none∧H' x=none∧H' T=none∧
  CX.Air s'.heap x T C (some dx) .none∧E C (some dx) H'
theorem leave_air{X:Cx}{pins:List (Addr×Obj)}{σ:St}{H:Hp}{s:Shared}{E:XK}{E':Value→Shared→Prop}{x dx:Addr}{o:Obj}{vs:Array Value}{head:Value}
  (I:Inv X pins σ H s) (hst:X.stack=X.env::X.outer) (hf:X.env.frame=some X.env.locals) (hex:X.ex=[]) (hx:s.heap.get? x=some o) (hd:o.data = .fields vs) (h1:vs[1]? = some head) (hdx:o.dict=some dx)
  (hh:head = .none∨∃ T u ts,head = .ref T∧T≠x∧s.heap.get? T=some u∧u.data = .fields ts∧ts[3]? = some .none∧X.s_0.heap.get? T=none∧H T=none)
  (sx:X.s_0.heap.get? x=none) (nx:H x=none) (hE:E o.cls (some dx) H) :
  wpAny (model X.prog X.w) X.A (leaving X.env (.ref x)) (fun _ s''=>CXF X.prog X.w X.outer X.H_0 X.s_0 E (.ref x) s'') E' s:=by
 have fr:X.A.frames=some (X.env::X.outer):=by rw [← hst];exact I.ok.frames
 have fl:s.heap.FunFrames X.base (X.env::X.outer):=by rw [← hst];exact I.stack
 have nex:∀ b,b∉X.ex:=fun b z=>by rw [hex] at z;cases z
 have old:∀ {b:Addr} {u:Obj},X.s_0.heap.get? b=some u→b < X.s_0.heap.objs.size:=fun e=>Heap.lt_size e
 have neT:∀ b,head = .ref b→X.s_0.heap.get? b=none∧H b=none:=fun b e=>by
  rcases hh with z | ⟨T,_,_,z,_,_,_,_,z1,z2⟩
  ·rw [z] at e;cases e
  ·rw [z] at e;cases e;exact ⟨z1,z2⟩
 refine CX.leave_on fr fl hf hx hd h1 (hh.imp id fun ⟨T,u,ts,a1,a2,a3,a4,a5,_⟩=>⟨T,u,ts,a1,a2,a3,a4,a5⟩) fun h' T sT Lf ar=>?_
 have memL:∀ b,b∈CX.frm (X.env::X.outer)→b=X.env.locals∨b∈frs X.outer:=fun b hb=>by
  unfold CX.frm at hb
  rw [List.filterMap_cons,hf] at hb
  exact List.mem_cons.mp hb
 have outL:∀ b,b∈frs X.outer→b∈CX.frm (X.env::X.outer):=fun b hb=>by
  unfold CX.frm
  rw [List.filterMap_cons,hf]
  exact List.mem_cons_of_mem _ hb
 have nfr:∀ b u,X.s_0.heap.get? b=some u→b∉frs X.outer→b∉CX.frm (X.env::X.outer):=fun b u e nb z=>by
  rcases memL b z with z | z
  ·exact absurd (Nat.lt_of_lt_of_le (old e) (z▸I.ok.above)) (Nat.lt_irrefl _)
  ·exact nb z
 have nbx:∀ b u,X.s_0.heap.get? b=some u→b≠x:=fun b u e z=>by rw [z,sx] at e;cases e
 have nbT:∀ b u,X.s_0.heap.get? b=some u→head≠.ref b:=fun b u e z=>by rw [(neT b z).1] at e;cases e
 have un:Un (frs X.outer) [] X.H_0 H X.s_0.heap h':=by
  refine ⟨fun b u e n hb _=>Lf.keep b u (nbx b u e) (nbT b u e) (nfr b u e hb) (I.base.keep b u e n hb (nex b)),fun b u e n hb _=>?_,fun b u e n _=>I.base.free b u e n (nex b),fun b u e _=>?_,I.base.tups,I.base.frzs,I.base.tbls⟩
  ·obtain ⟨sl,e1⟩:=I.base.slot b u e n hb (nex b)
   obtain ⟨sl',e2⟩:=Lf.slot b _ (outL b hb) e1
   exact ⟨sl',e2⟩
  ·obtain ⟨u1,e1⟩:=I.base.there b u e (nex b)
   by_cases hb:b∈frs X.outer
   ·obtain ⟨sl,e2⟩:=Lf.slot b u1 (outL b hb) e1
    exact ⟨_,e2⟩
   ·exact ⟨u1,Lf.keep b u1 (nbx b u e) (nbT b u e) (nfr b u e hb) e1⟩
 have hok:HOk X.prog X.w H h':=fun a u e=>(I.hok a u e).stay (fun b v hb q=>by
  have tr:∃ z,H b=some z:=by
   rcases hb with rfl | hb
   ·exact ⟨_,e⟩
   ·exact ⟨_,hb⟩
  obtain ⟨z,hz⟩:=tr
  refine Lf.keep b v (fun y=>by rw [y,nx] at hz;cases hz) (fun y=>by rw [(neT b y).2] at hz;cases hz) (fun y=>?_) q
  have y':b∈frs X.stack:=by rw [hst];exact y
  rw [I.stkFree b y'] at hz
  cases hz) (fun _ q=>q) fun _ _ q=>q
 rw [hdx] at ar
 exact ⟨x,T,o.cls,dx,H,rfl,I.os,I.bare,un,hok,sx,Heap.get?_none_of_le (Nat.le_trans I.sz sT),nx,I.hok.fresh sT,ar,hE⟩
section
variable{P:Program}{w:World}{K:PySem.W.Frag}{mg:Str→Option Value}{base:Heap}{N:List Str}{qual:Str}{scope:Scope}{f:Addr}{cd:Value}{A:Around}{outer:List Env}{s:Shared}{H:Hp}{E:XK}
theorem passF:Passes (CXF P w) (cxOf (CXF P w) P w K mg base N qual scope f cd A outer s H E) E:=by
 rintro pins σ H1 s1 e s2 I ⟨x,T,C,dx,H2,rfl,os,bare,un,hok,sx,sT,nx,nT,ar,hE⟩
 have back:∀ b,s1.heap.get? b=none→s.heap.get? b=none:=fun b z=>by
  cases q:s.heap.get? b with
  | none=>rfl
  | some u =>
   obtain ⟨u',e'⟩:=I.base.there b u q (fun m=>nomatch (show b∈([]:List Addr) from m))
   rw [z] at e'
   cases e'
 have I2:=I.call' (ch:=[]) os un hok bare (fun b z=>absurd z (by simp))
 obtain ⟨⟨o,vs,hx,hc,hdx,hd,h1⟩,ne,u,ts,hT,hdT,h3⟩:=ar
 subst hc
 exact leave_air I2 rfl rfl rfl hx hd h1 hdx (.inr ⟨T,u,ts,rfl,ne,hT,hdT,h3,back T sT,nT⟩) (back x sx) nx hE
theorem Fun.okF{x qual:Str}{st:Stmt}{f:Addr}{fd:FuncData}{N ps:List Str}{k:Nat}{sp:Sp}(F:Fun K x qual st f fd)(S:FnScope N ps (defScope st))(len:∀ vs H Q E,sp vs H Q E→vs.length=ps.length)
  (hbody:∀ (cdv:Value) (A:Around) (outer:List Env) (s:Shared) (H:Hp) (vs:List V) (Q:VK) (E:XK),Room k (A.deeper (envOfC qual (defScope st) s.heap.objs.size f cdv))→sp vs H Q E→
   ∃ t,PSs (cxOf (CXF P w) P w K mg base N qual (defScope st) f cdv A outer s H E) (defBody st) t∧t { nx:=fun _ H'=>Q .non H',rt:=Q } (start N vs) H):FnOk P w K mg base (CXF P w) (k + 1) f fd ps sp:=by
 obtain ⟨oc,od,kV,doc,pm,an,cdv,ct,osl,rfl,lk,hcd⟩:=F.ex
 exact fn_of lk hcd S len fun A outer s H vs Q E hr hsp=>hbody cdv A outer s H vs Q E hr hsp
theorem ownF:PassesOwn (model P w) (cxOf (CXF P w) P w K mg base N qual scope f cd A outer s H E).A (cxOf (CXF P w) P w K mg base N qual scope f cd A outer s H E).env (cxOf (CXF P w) P w K mg base N qual scope f cd A outer s H E).xe:=PassesOwn.leaving
end
end L2
end
section
set_option maxRecDepth 100000
set_option maxHeartbeats 1000000
namespace L2
open PySem PySem.Spec PyProof.Rows
abbrev excBM:List Value:=[.type "Exception",.type "BaseException",.type "object"]
def keyStr(e:DictEntry):Bool:=match e.key with
 | .str _ _=>true
 | _=>false
def xcls(K:PySem.W.Frag)(C fI:Addr)(fs:List Str):Bool:=match K.lookup C with
 | some ⟨.type "type",_,.cls cd,sl⟩=>(match sl.toList with
  | [_,_,_,_,some (.builtin nw),_]=>cd.mro == .ref C::excBM && cd.hasDict && !cd.hasDel && nw == "Exception.__new__" && (match K.lookup cd.ns with
   | some ⟨_,_,.dict es _,_⟩=>es.toList.all keyStr && nsFind es "__init__" == some (.ref fI) && (nsFind es "__setattr__" == none && (nsFind es "__getattribute__" == none && (nsFind es "__getattr__" == none && fs.all fun f=>nsFind es f == none)))
   | _=>false) && PySem.W.typeIn K (.ref fI) == some (.type "function")
  | _=>false)
 | _=>false
theorem xcls_get{K:PySem.W.Frag}{h:Heap}{C fI:Addr}{fs:List Str}(X:K.In h)(q:xcls K C fI fs=true):∃ nm qn N bs sn sub ab col dd c0 c1 c2 c3 c5 mN,
  h.get? C=some (excClassObj nm qn C N bs excBM true sn sub ab col dd c0 c1 c2 c3 c5 "Exception.__new__")∧h.Ns N mN∧mN "__init__"=some (.ref fI)∧mN "__setattr__"=none∧mN "__getattribute__"=none∧mN "__getattr__"=none∧
   (∀ f∈fs,mN f=none)∧∃ oI,h.get? fI=some oI∧oI.cls = .type "function":=by
 unfold xcls at q
 split at q
 ·rename_i dd cd sl ho
  split at q
  ·rename_i c0 c1 c2 c3 nw c5 hs
   simp only [Bool.and_eq_true,beq_iff_eq,Bool.not_eq_true'] at q
   obtain ⟨⟨⟨⟨⟨q1,q2⟩,q3⟩,q4⟩,q5⟩,q6⟩:=q
   split at q5
   ·rename_i oc od es n osl hN
    simp only [Bool.and_eq_true,beq_iff_eq] at q5
    obtain ⟨⟨r1,r2⟩,r3,r4,r5,r6⟩:=q5
    obtain ⟨oI,hI,hIc⟩:=Option.map_eq_some_iff.mp (show (K.lookup fI).map (·.cls)=some (.type "function") from q6)
    obtain ⟨nm,bs,mro,ns,qn,hd,sn,sub,ab,col,del⟩:=cd
    dsimp only at q1 q2 q3 hN
    subst q1 q2 q3 q4
    have hsl:sl = #[c0,c1,c2,c3,some (.builtin "Exception.__new__"),c5]:=by
     obtain ⟨l⟩:=sl
     simp only at hs
     rw [hs]
    subst hsl
    refine ⟨nm,qn,ns,bs,sn,sub,ab,col,dd,c0,c1,c2,c3,c5,nsFind es,X _ _ ho,⟨_,es,n,X _ _ hN,rfl,fun e he=>?_,fun _=>rfl⟩,r2,r3,r4,r5,fun f hf=>beq_iff_eq.mp (List.all_eq_true.mp r6 f hf),oI,X _ _ hI,hIc⟩
    have z:=List.all_eq_true.mp r1 e (Array.mem_toList_iff.mpr he)
    unfold keyStr at z
    split at z
    ·rename_i a b c;exact ⟨a,b,c⟩
    ·cases z
   ·cases q5
  ·cases q
 ·cases q
abbrev excObj(C:Addr)(dxo:Option Addr)(t:Addr):Obj:={ cls:=.ref C,dict:=dxo,data:=.fields #[.ref t,.none,.none,.none,.bool false,.none] }
def XO(C:Addr)(dxo:Option Addr)(x:Addr):HO:=.ext fun h=>∃ t,h.get? x=some (excObj C dxo t)
def XD(dx:Addr)(fs:List (Str×V)):HO:=.ext fun h=>∃ mA,h.Ns1 dx mA∧(∀ f,RelO (fs.lookup f) (mA f))∧PySem.Within mA (fs.map (·.1))
section
variable{P:Program}{w:World}{H:Hp}{h:Heap}{x dx C t:Addr}{dxo:Option Addr}{fs:List (Str×V)}
theorem XO.ok(e:h.get? x=some (excObj C dxo t)):ObjOk P w H h x (XO C dxo x):=⟨⟨t,e⟩,⟨_,e⟩,fun h1 h2 ⟨t,e⟩ k=>⟨t,k _ e⟩⟩
theorem XD.ok{mA:Str→Option Value}(n:h.Ns1 dx mA)(r:∀ f,RelO (fs.lookup f) (mA f))(wi:PySem.Within mA (fs.map (·.1))):ObjOk P w H h dx (XD dx fs) :=
 ⟨⟨mA,n,r,wi⟩,let ⟨o,_,_,e,_⟩:=n;⟨o,e⟩,fun h1 h2 ⟨mA,n,r⟩ k=>⟨mA,n.at k,r⟩⟩
theorem XO.get(hok:HOk P w H h)(e:H x=some (XO C dxo x)):∃ t,h.get? x=some (excObj C dxo t):=(show ObjOk P w H h x (XO C dxo x) from hok x _ e).1
theorem XD.get(hok:HOk P w H h)(e:H dx=some (XD dx fs)):∃ mA,h.Ns1 dx mA∧(∀ f,RelO (fs.lookup f) (mA f))∧PySem.Within mA (fs.map (·.1)):=(show ObjOk P w H h dx (XD dx fs) from hok dx _ e).1
theorem XO.ne(hok:HOk P w H h)(e:H x=some (XO C dxo x))(e2:H dx=some (XD dx fs)):dx≠x:=fun z=>by
 obtain ⟨t,e3⟩:=XO.get hok e
 obtain ⟨mA,⟨o,es,ep,e4,d,_⟩,_⟩:=XD.get hok e2
 rw [z,e3] at e4
 cases e4
 cases d
end
theorem HOk.none_of{P:Program}{w:World}{H:Hp}{h:Heap}{a:Addr}(hok:HOk P w H h)(e:h.get? a=none):H a=none:=by
 cases q:H a with
 | none=>rfl
 | some o =>
  exfalso
  have z:ObjOk P w H h a o:=hok a o q
  cases o with
  | lst xs=>obtain ⟨_,_,_,_,y⟩:=z;rw [e] at y;cases y
  | tup xs=>obtain ⟨_,_,_,_,y,_⟩:=z;rw [e] at y;cases y
  | dK kvs=>obtain ⟨_,_,_,_,o,_,_,y,_⟩:=z;rw [e] at y;cases y
  | dT kvs=>obtain ⟨_,_,_,_,o,_,_,y,_⟩:=z;rw [e] at y;cases y
  | set S n=>obtain ⟨o,_,_,_,y,_⟩:=z;rw [e] at y;cases y
  | ins C dx fs=>obtain ⟨_,_,_,y,_⟩:=z;rw [e] at y;cases y
  | own y=>obtain ⟨_,y⟩:=z;rw [e] at y;cases y
  | xd fs=>obtain ⟨_,⟨_,_,_,y,_⟩,_⟩:=z;rw [e] at y;cases y
  | rng lo hi=>obtain ⟨_,_,_,y⟩:=z;rw [e] at y;cases y
  | frz ob u=>obtain ⟨y,_⟩:=z;rw [e] at y;cases y
  | tbl ps=>have y:h.get? a=some _:=z;rw [e] at y;cases y
  | met f y=>have y:h.get? a=some _:=z;rw [e] at y;cases y
  | ext φ=>obtain ⟨_,⟨_,y⟩,_⟩:=z;rw [e] at y;cases y
section
variable{X:Cx}{pins:List (Addr×Obj)}{σ:St}{H:Hp}{s:Shared}{h':Heap}{x dx C fI:Addr}{fs:List Str}{f:Str}{y:V}{u:Value}{A:Around}{E:Value→Shared→Prop}
theorem Inv.laidN{a:Addr}{o:HO}{t':Nat}(I:Inv X pins σ H s)(k:∀ b u,s.heap.get? b=some u→h'.get? b=some u)(hn:s.heap.get? a=none)(new:ObjOk X.prog X.w (upd H a o) h' a o) :
  Inv X pins σ (upd H a o) { s with heap:=h',toks:=t' }:=by
 have nH:=I.hok.none_of hn
 have nb:∀ b u,s.heap.get? b=some u→b≠a:=fun b u e z=>by rw [z,hn] at e;cases e
 refine I.un ⟨fun b u q _ _ _=>k b u q,fun b u q _ _ _=>⟨u.slots,k b u q⟩,fun b u q n _=>by rw [upd_ne (nb b u q)];exact n,fun b u q _=>⟨u,k b u q⟩,fun b xs q=>by rw [upd_ne (ne_of_none q nH)];exact q,
  fun b u xs q=>by rw [upd_ne (ne_of_none q nH)];exact q,fun b ps q=>⟨#[],by rw [upd_ne (ne_of_none q nH),q];simp⟩⟩ fun b u e=>?_
 by_cases hb:b=a
 ·subst hb;rw [upd_same] at e;cases e;exact new
 ·rw [upd_ne hb] at e
  exact (I.hok b u e).stay (fun c v _ q=>k c v q) (fun c q=>by rw [upd_ne (ne_of_none q nH)];exact q) fun c xs q=>by rw [upd_ne (ne_of_none q nH)];exact q
theorem setX1{Q:Unit→Shared→Prop}(I:Inv X pins σ H s)(e:H x=some (XO C none x))(q:xcls X.K C fI fs=true)(hf:f∈fs)(hB:typeLookup (.type "Exception") f=pure none)(ry:RelV y u)
  (h:∀ dx s',H dx=none→dx≠x→Inv X pins σ (upd (upd H x (XO C (some dx) x)) dx (XD dx [(f,y)])) s'→Q () s'):wpAny (model X.prog X.w) A (setAttr (.ref x) f u) Q E s:=by
 obtain ⟨t,hx⟩:=XO.get I.hok e
 obtain ⟨nm,qn,N,bs,sn,sub,ab,col,dd,c0,c1,c2,c3,c5,mN,hC,hN,_,n1,n2,n3,n4,_⟩:=xcls_get I.kIn q
 obtain ⟨hp,g,d,tk,os⟩:=s
 refine CX.first_attr PySem.F.store_Exception hC hN n1 (n4 f hf) hB hx rfl (fun y z=>by cases z) rfl fun h' tk' fr=>?_
 have nd:H hp.objs.size=none:=I.hok.fresh (Nat.le_refl _)
 have ne:hp.objs.size≠x:=Nat.ne_of_gt (Heap.lt_size hx)
 have nt:∀ b o,H b=some o→(∀ φ,o≠.ext φ)→b≠x:=fun b o q1 q2 z=>by rw [z,e] at q1;exact q2 _ (Option.some.inj q1).symm
 refine h hp.objs.size _ nd ne ?_
 have sk:∀ {b:Addr} {o:HO},b≠x→H b=some o→(upd (upd H x (XO C (some hp.objs.size) x)) hp.objs.size (XD hp.objs.size [(f,y)])) b=some o:=fun hb q1=>by
  rw [upd_ne (ne_of_none q1 nd),upd_ne hb];exact q1
 have I':=I.un (t':=tk') (h':=h') (H':=upd (upd H x (XO C (some hp.objs.size) x)) hp.objs.size (XD hp.objs.size [(f,y)])) ⟨fun b v q1 n _ _=>fr.keep b v (fun z=>by rw [z,e] at n;cases n) q1,fun b v q1 n _ _=>⟨v.slots,fr.keep b v (fun z=>by rw [z,e] at n;cases n) q1⟩,
  fun b v q1 n _=>by rw [upd_ne (Nat.ne_of_lt (Heap.lt_size q1)),upd_ne (fun z=>by rw [z,e] at n;cases n)];exact n,
  fun b v q1 _=>by
   by_cases hb:b=x
   ·subst hb;exact ⟨_,fr.obj⟩
   ·exact ⟨v,fr.keep b v hb q1⟩,
  fun b xs q1=>sk (nt b _ q1 fun φ z=>by cases z) q1,fun b o' u' q1=>sk (nt b _ q1 fun φ z=>by cases z) q1,fun b ps q1=>⟨#[],by rw [sk (nt b _ q1 fun φ z=>by cases z) q1];simp⟩⟩ fun b o' q1=>?_
 ·exact I'
 by_cases h1:b=hp.objs.size
 ·subst h1
  rw [upd_same] at q1
  cases q1
  refine XD.ok fr.ns (fun k=>?_) (fun k hk=>?_)
  ·show RelO (List.lookup k [(f,y)]) (if k=f then some u else none)
   by_cases hk:k=f
   ·have hb:(k == f)=true:=beq_iff_eq.mpr hk
    simp only [List.lookup,hb,if_pos hk];exact ry
   ·have hb:(k == f)=false:=beq_eq_false_iff_ne.mpr hk
    simp only [List.lookup,hb,if_neg hk];exact True.intro
  ·show k∈[f]
   by_cases hk':k=f
   ·rw [hk'];exact List.mem_singleton.mpr rfl
   ·exact absurd (if_neg hk') hk
 ·rw [upd_ne h1] at q1
  by_cases h2:b=x
  ·subst h2
   rw [upd_same] at q1
   cases q1
   exact XO.ok fr.obj
  ·rw [upd_ne h2] at q1
   exact (I.hok b o' q1).stay (fun c v hc z=>fr.keep c v (by
    rcases hc with rfl | hc
    ·exact h2
    ·exact nt c _ hc fun φ z=>by cases z) z) (fun c z=>sk (nt c _ z fun φ z=>by cases z) z) fun c xs z=>sk (nt c _ z fun φ z=>by cases z) z
theorem setX2{Q:Unit→Shared→Prop}{fs0:List (Str×V)}(I:Inv X pins σ H s)(e:H x=some (XO C (some dx) x))(e2:H dx=some (XD dx fs0))(q:xcls X.K C fI fs=true)(hf:f∈fs)(hB:typeLookup (.type "Exception") f=pure none)(ry:RelV y u)
  (hl:fs0.length≤1000) (h:∀ s',Inv X pins σ (upd H dx (XD dx (putF f y fs0))) s'→Q () s'):wpAny (model X.prog X.w) A (setAttr (.ref x) f u) Q E s:=by
 obtain ⟨t,hx⟩:=XO.get I.hok e
 obtain ⟨mA,ns,rel,wi⟩:=XD.get I.hok e2
 have ne:=XO.ne I.hok e e2
 obtain ⟨nm,qn,N,bs,sn,sub,ab,col,dd,c0,c1,c2,c3,c5,mN,hC,hN,_,n1,n2,n3,n4,_⟩:=xcls_get I.kIn q
 have nxC:x≠C:=fun z=>by rw [z,hC] at hx;cases hx
 obtain ⟨hp,g,d,tk,os⟩:=s
 refine PySem.store_attr (ns:=fs0.map (·.1)) PySem.F.store_Exception hC hN n1 (n4 f hf) hB nxC ⟨_,hx,rfl,(fun c z=>by cases z),.inr ⟨dx,rfl,ne,ns⟩⟩ (fun h' tk' J k o1=>h _ ?_) wi (by rw [List.length_map,sizeLine_eq];omega)
 obtain ⟨ob,hob,b1,b2,b3,b4⟩:=o1 _ hx
 have hx':h'.get? x=some (excObj C (some dx) t):=by
  rw [hob]
  obtain ⟨z1,z2,z3,z4⟩:=ob
  have b5:=b4 dx rfl
  dsimp only at b1 b2 b3 b5
  rw [b1,b2,b3,b5]
 obtain ⟨ob2,hob2,_,_,dn⟩:=J
 rw [hx'] at hob2
 cases hob2
 rcases dn with ⟨z,_⟩ | ⟨d2,z,_,ns'⟩
 ·cases z
 cases z
 refine I.write (x:=dx) (e:=dx) (by rw [e2];exact True.intro) (.inl rfl) (fun b v hb z=>?_) (let ⟨o,_,_,e',_⟩:=ns';⟨o,e'⟩) (XD.ok ns' (fun k=>?_) (fun k hk=>?_))
 ·by_cases hbx:b=x
  ·subst hbx;rw [hx] at z;cases z;exact hx'
  ·exact k b v hbx (fun o0 d0 z1 z2=>by rw [hx] at z1;cases z1;cases z2;exact hb) z
 ·show RelO ((putF f y fs0).lookup k) (if k=f then some u else mA k)
  rw [lookup_putF]
  by_cases z:k=f
  ·rw [if_pos z,if_pos z];exact ry
  ·rw [if_neg z,if_neg z];exact rel k
 ·by_cases z:k=f
  ·rw [z];exact (keys_putF f y fs0).1
  ·exact (keys_putF f y fs0).2 k (wi k fun z2=>hk (by show (if k=f then some u else mA k)=none;rw [if_neg z];exact z2))
end
end L2
end
section
set_option autoImplicit false
set_option maxRecDepth 100000
namespace CX
open PySem
def ExcCl(h:Heap)(C:Addr):Prop:=∃ (nm qn:Str) (N:Addr) (bs bm:List Value) (hdct:Bool) (sn:List Str) (sub:List Value) (ab:Bool) (col:Option Bool) (dd:Option Addr) (c0 c1 c2 c3 c5:Option Value) (newId:String),
 h.get? C=some (excClassObj nm qn C N bs bm hdct sn sub ab col dd c0 c1 c2 c3 c5 newId)∧bm.contains (.type "BaseException")=true
section
variable{M:Model}{A:Around}{E:Value→Shared→Prop}{env:Env}{C:Addr}
theorem raise_made{s:Shared}{y:Sem Value}{Q:Flow→Shared→Prop}(hh:A.handled=none)
  (hw:wpAny M A y (fun v s1=>∃ e t dx,v = .ref e∧ExcCl s1.heap C∧s1.heap.get? e=some { cls:=.ref C,dict:=dx,data:=.fields #[.ref t,.none,.none,.none,.bool false,.none] }∧E (.ref e) s1) E s) :
  wpAny M A (raiseStmt env (some y) none) Q E s:=by
 unfold raiseStmt
 refine wpAny_bind (wpAny_mono hw (fun v s1 h1=>?_) fun _ _ z=>z)
 obtain ⟨e,t,dx,rfl,⟨nm,qn,N,bs,bm,hdct,sn,sub,ab,col,dd,c0,c1,c2,c3,c5,newId,hC,hbase⟩,he,hE⟩:=h1
 have has:(Value.ref C::bm).contains (.type "BaseException")=true:=by rw [List.contains_cons,hbase,Bool.or_true]
 obtain ⟨hp,g,d,tk,os⟩:=s1
 repeat (first
  | with_reducible refine wpAny_loadPart_at he ?_
  | with_reducible refine wpAny_loadPart_at hC ?_
  | (with_reducible refine wpAny_isSubtype_exc hC ?_
     rw [has])
  | wp_step)
 exact wpAny_raiseNew_none hh hE
theorem raise_exec{s:Shared}{e:Expr}{pos:Pos}{Q:Flow→Shared→Prop}(hh:A.handled=none)
  (hw:wpAny M A (eval e env) (fun v s1=>∃ a t dx,v = .ref a∧ExcCl s1.heap C∧s1.heap.get? a=some { cls:=.ref C,dict:=dx,data:=.fields #[.ref t,.none,.none,.none,.bool false,.none] }∧E (.ref a) s1) E s) :
  wpAny M A (exec (.Raise (some e) none pos) env) Q E s:=by
 rw [arm_exec_Raise]
 refine wpAny_bind (wpAny_standAt ?_)
 show wpAny M A (raiseStmt env (some (do let v ← eval e env;standAt pos;pure v)) none) Q E s
 refine raise_made (C:=C) hh (wpAny_bind (wpAny_mono hw (fun v s1 h1=>?_) fun _ _ z=>z))
 exact wpAny_bind (wpAny_standAt (wpAny_pure h1))
end
end CX
end
section
set_option maxRecDepth 100000
set_option maxHeartbeats 1000000
namespace L2
open PySem PySem.Spec PyProof.Rows
def unt(H:Hp)(x:Addr):Hp:=fun b=>if b=x then none else H b
theorem unt_same{H:Hp}{x:Addr}:unt H x x=none:=by unfold unt;rw [if_pos rfl]
theorem unt_ne{H:Hp}{x b:Addr}(h:b≠x):unt H x b=H b:=by unfold unt;rw [if_neg h]
section
variable{X:Cx}{pins:List (Addr×Obj)}{σ:St}{H:Hp}{s:Shared}{x:Addr}
theorem Inv.untrack{φ:Heap→Prop}(I:Inv X pins σ H s)(e:H x=some (.ext φ)):Inv X pins σ (unt H x) s:=by
 have ns:∀ {b:Addr} {o:HO},H b=some o→(∀ φ,o≠.ext φ)→unt H x b=some o:=fun q1 q2=>by
  rw [unt_ne (fun z=>by rw [z,e] at q1;exact q2 _ (Option.some.inj q1).symm)];exact q1
 have nn:∀ {b:Addr},H b=none→unt H x b=none:=fun q=>by unfold unt;split <;> first | rfl | exact q
 refine ⟨I.ok,I.os,I.bare,⟨I.base.keep,I.base.slot,fun b o q n hx=>nn (I.base.free b o q n hx),I.base.there,fun b xs q=>ns (I.base.tups b xs q) (fun φ z=>by cases z),fun b o u q=>ns (I.base.frzs b o u q) (fun φ z=>by cases z),fun b ps q=>?_⟩,I.loc,I.cell,nn I.free,fun y c q=>nn (I.freeC y c q),fun p hp=>?_,fun b o q=>?_,I.len⟩
 ·obtain ⟨m,q2⟩:=I.base.tbls b ps q
  exact ⟨m,ns q2 (fun φ z=>by cases z)⟩
 ·obtain ⟨a,n,r⟩:=I.pin p hp
  exact ⟨a,nn n,r⟩
 ·have hb:b≠x:=fun z=>by rw [z,unt_same] at q;cases q
  rw [unt_ne hb] at q
  exact (I.hok b o q).stay (fun _ _ _ z=>z) (fun c z=>ns z (fun φ z=>by cases z)) fun c xs z=>ns z (fun φ z=>by cases z)
theorem Inv.old(I:Inv X pins σ H s){b:Addr}(hx:b∉X.ex)(z:s.heap.get? b=none):X.s_0.heap.get? b=none:=by
 cases q:X.s_0.heap.get? b with
 | none=>rfl
 | some u =>
  obtain ⟨u',e'⟩:=I.base.there b u q hx
  rw [z] at e'
  cases e'
end
section
variable{X:Cx}{CX:CXT}{k:Nat}{C fI:Addr}{fd:FuncData}{ps:List Str}{sp:Sp}{E:XK}{fs:List Str}
theorem run_makeX{pins:List (Addr×Obj)}{σ:St}{H:Hp}{s:Shared}{R:Addr→Hp→Prop}{us:List Value}{vs:List V}(q:xcls X.K C fI fs=true)(F:FnOk X.prog X.w X.K X.mg X.base CX k fI fd ps sp)(hr:Room (k + 1) X.A)
  (hb:Binds X.K fd ps []) (hx:Passes CX X E) (I:Inv X pins σ H s) (r:Vals vs us) (hlen:vs.length≤1000)
  (h:∀ x,H x=none→sp (.ref x::vs) (upd H x (XO C none x)) (fun v H2=>v = .non∧R x H2) E) :
  wpAny (model X.prog X.w) X.A (call (.ref C) us) (fun u s'=>∃ x H',u = .ref x∧s.heap.get? x=none∧Inv X pins σ H' s'∧R x H') X.xe s:=by
 obtain ⟨nm,qn,N,bs,sn,sub,ab,col,dd,c0,c1,c2,c3,c5,mN,hC,hN,n0,n1,n2,n3,n4,oI,hI,hIc⟩:=xcls_get I.kIn q
 obtain ⟨hp,g,d,tk,os⟩:=s
 refine wpAny_call_exc_init (F:=PySem.F.excBase_Exception) hC hN n0 hI hIc (fun h' e hm=>?_) (by rw [← r.length,sizeLine_eq];omega)
 obtain ⟨t,he,_,_⟩:=hm.there
 have I2:=I.laidN (a:=e) (o:=XO C none e) (h':=h') (t':=tk) hm.keeps hm.new (XO.ok he)
 have hq:=h e (I.hok.none_of hm.new)
 have r2:Vals (V.ref e::vs) (Value.ref e::us):=.cons rfl r
 have hl:(Value.ref e::us ++ []).length=ps.length:=by
  rw [List.append_nil,← r2.length]
  exact F.len _ _ _ _ hq
 have bd:=hb _ (Value.ref e::us) I2.kIn hl
 rw [List.append_nil] at bd
 refine wpAny_call (codeAny_mono (F.run _ X.stack _ _ ⟨Value.ref e::us,[]⟩ (Value.ref e::us) _ _ E (hr.make C us []) (I2.env0.make C us []) bd r2 hq) fun z s' hq'=>?_)
 cases z with
 | error y=>exact hx pins σ _ _ y s' I2 hq'
 | ok fl =>
  cases fl with
  | ret u =>
   obtain ⟨v,H',I3,rv,ev,q3⟩:=I2.after hq'
   subst ev
   exact ⟨rv,e,H',rfl,hm.new,I3,q3⟩
  | next=>exact False.elim hq'
  | brk=>exact False.elim hq'
  | cont=>exact False.elim hq'
def Raises(X:Cx)(C:Addr)(E:XK):Prop:=∀ (pins:List (Addr×Obj)) (σ:St) (H:Hp) (s:Shared) (x dx:Addr),Inv X pins σ H s→H x=some (XO C (some dx) x)→X.s_0.heap.get? x=none→E (.ref C) (some dx) (unt H x)→X.xe (.ref x) s
def tRaise(C:Addr)(sp:Sp)(E:XK)(t:TA):TS:=fun _ σ H=>t σ H fun vs H1=>vs.length≤1000∧∀ x,H1 x=none→
 sp (.ref x::vs) (upd H1 x (XO C none x)) (fun v H2=>v = .non∧∃ dx,H2 x=some (XO C (some dx) x)∧E (.ref C) (some dx) (unt H2 x)) E
theorem ps_raiseF{x:Str}{e:Expr}{es:List Expr}{t:TA}{np cpos pos:Pos}(q:xcls X.K C fI fs=true)(F:FnOk X.prog X.w X.K X.mg X.base CX k fI fd ps sp)(hr:Room (k + 1) X.A)(hg:Gl X x)(hm:X.mg x=some (.ref C))
  (hk:PySem.W.keepIn X.K (.ref C)=true) (hb:Binds X.K fd ps []) (hx:Passes CX X E) (hR:Raises X C E) (hc:X.calm=true) (hex:X.ex=[]) (ha:PA X (e::es) t)
  (hdb:(x == ("__debug__":Str))=false:=by decide) (he:starEach (e::es) X.env=(false,eval e X.env)::starEach es X.env:=by rfl) (hpl:(backTo cpos (starEach es X.env)).any (·.1)=false:=by rfl) :
  PS X (.Raise (some (.Call (.Name x np) (e::es) [] cpos)) none pos) (tRaise C sp E t):=by
 intro pins s σ H D I h
 refine _root_.CX.raise_exec (C:=C) (I.ok.hd hc) ?_
 refine wpAny_Call_Name_kw (ld_glob I hg hm ?_ hdb)
 refine PySem.W.callWith_K (h₀:=X.base) I.ok.mod.kin hk (thn (ha cpos pins s σ H _ I h) fun us s1 ⟨vs,H1,I1,r,z,q1⟩=>⟨I1.kIn,?_⟩) he hpl
 refine thn (run_makeX q F hr hb hx I1 r z q1) fun u s2 ⟨y,H2,eu,ny,I2,dx,e2,q2⟩=>?_
 obtain ⟨t,ht⟩:=XO.get I2.hok e2
 obtain ⟨nm,qn,N,bs,sn,sub,ab,col,dd,c0,c1,c2,c3,c5,mN,hC,_⟩:=xcls_get I2.kIn q
 exact ⟨y,t,some dx,eu,⟨nm,qn,N,bs,excBM,true,sn,sub,ab,col,dd,c0,c1,c2,c3,c5,_,hC,by decide⟩,ht,hR pins σ H2 s2 y dx I2 e2 (I1.old (by rw [hex];simp) ny) q2⟩
end
section
variable{P:Program}{w:World}{K:PySem.W.Frag}{mg:Str→Option Value}{base:Heap}{N:List Str}{qual:Str}{scope:Scope}{f:Addr}{cd:Value}{A:Around}{outer:List Env}{s:Shared}{H:Hp}{E:XK}{C:Addr}
theorem raiseF:Raises (cxOf (CXF P w) P w K mg base N qual scope f cd A outer s H E) C E:=by
 intro pins σ H1 s1 x dx I e n hE
 obtain ⟨t,ht⟩:=XO.get I.hok e
 have I2:=I.untrack e
 exact leave_air I2 rfl rfl rfl ht rfl rfl rfl (.inl rfl) n unt_same hE
end
end L2
end
section
set_option maxRecDepth 100000
set_option maxHeartbeats 1000000
namespace L2
open PySem PySem.Spec PyProof.Rows
abbrev Cx.with(X:Cx)(pn:List (Addr×Obj))(E:Value→Shared→Prop):Cx:={ X with pn:=pn,xe:=E }
abbrev Cx.clause(X:Cx)(pn:List (Addr×Obj))(e:Value):Cx:={ X with pn:=pn,xe:=fun _ _=>False,A:=X.A.mark (some e),calm:=false }
theorem Cx.Ok.with{X:Cx}(ok:X.Ok)(pn:List (Addr×Obj))(E:Value→Shared→Prop):(X.with pn E).Ok :=
 ⟨ok.mod,ok.kind,ok.glob,ok.blt,ok.above,ok.inj,ok.has,ok.cab,ok.hd,ok.frames,ok.stk,ok.exf,ok.bs,ok.bsz,ok.noex,ok.exfs,ok.funs,ok.frf⟩
theorem Cx.Ok.clause{X:Cx}(ok:X.Ok)(pn:List (Addr×Obj))(e:Value):(X.clause pn e).Ok :=
 ⟨ok.mod,ok.kind,ok.glob,ok.blt,ok.above,ok.inj,ok.has,ok.cab,(fun z=>nomatch z),ok.frames,ok.stk,ok.exf,ok.bs,ok.bsz,ok.noex,ok.exfs,ok.funs,ok.frf⟩
section
variable{X:Cx}{pins pn:List (Addr×Obj)}{σ:St}{H:Hp}{s:Shared}{x:Addr}
theorem Inv.toPn(I:Inv X pins σ H s)(E:Value→Shared→Prop):Inv (X.with (X.pn ++ pins) E) [] σ H s :=
 ⟨I.ok.with _ E,I.os,I.bare,I.base,I.loc,I.cell,I.free,I.freeC,fun p hp=>I.pin p (by simpa using hp),I.hok,I.len⟩
theorem Inv.ofPn{E:Value→Shared→Prop}{pins':List (Addr×Obj)}(ok:X.Ok)(I:Inv (X.with (X.pn ++ pins) E) pins' σ H s):Inv X pins σ H s :=
 ⟨ok,I.os,I.bare,I.base,I.loc,I.cell,I.free,I.freeC,fun p hp=>I.pin p (List.mem_append_left _ hp),I.hok,I.len⟩
theorem Inv.toClause{E:Value→Shared→Prop}{pins':List (Addr×Obj)}(ok:X.Ok)(I:Inv (X.with pn E) pins' σ H s)(e:Value):Inv (X.clause pn e) pins' σ H s :=
 ⟨ok.clause pn e,I.os,I.bare,I.base,I.loc,I.cell,I.free,I.freeC,I.pin,I.hok,I.len⟩
theorem Inv.ofClause{e:Value}{pins':List (Addr×Obj)}(ok:X.Ok)(I:Inv (X.clause (X.pn ++ pins) e) pins' σ H s):Inv X pins σ H s :=
 ⟨ok,I.os,I.bare,I.base,I.loc,I.cell,I.free,I.freeC,fun p hp=>I.pin p (List.mem_append_left _ hp),I.hok,I.len⟩
theorem Inv.track{φ:Heap→Prop}{o:Obj}{vs:Array Value}(I:Inv X pins σ H s)(nx:H x=none)(n0:X.s_0.heap.get? x=none)(hx:s.heap.get? x=some o)(hd:o.data = .fields vs)(hφ:φ s.heap)
  (hst:∀ h1 h2:Heap,φ h1→(∀ o,h1.get? x=some o→h2.get? x=some o)→φ h2) (hp:∀ p∈X.pn ++ pins,p.1≠x):Inv X pins σ (upd H x (.ext φ)) s:=by
 have sk:∀ {b:Addr} {o:HO},H b=some o→upd H x (.ext φ) b=some o:=fun q=>by rw [upd_ne (ne_of_none q nx)];exact q
 refine ⟨I.ok,I.os,I.bare,⟨I.base.keep,I.base.slot,fun b u q n hx'=>?_,I.base.there,fun b xs q=>sk (I.base.tups b xs q),fun b u' v q=>sk (I.base.frzs b u' v q),fun b ps q=>?_⟩,I.loc,I.cell,?_,fun y c q=>?_,fun p hp'=>?_,fun b u q=>?_,I.len⟩
 ·rw [upd_ne (fun z=>by rw [z,n0] at q;cases q)]
  exact I.base.free b u q n hx'
 ·obtain ⟨m,q2⟩:=I.base.tbls b ps q
  exact ⟨m,sk q2⟩
 ·rw [upd_ne (fun z=>?_)]
  ·exact I.free
  ·obtain ⟨m,⟨ol,es,ep,hl,hld,_⟩,_⟩:=I.loc
   rw [z,hx] at hl
   cases hl
   rw [hd] at hld
   cases hld
 ·rw [upd_ne (fun z=>?_)]
  ·exact I.freeC y c q
  ·obtain ⟨v,oc,hc,hcd⟩:=I.cell y c q
   rw [z,hx] at hc
   cases hc
   rw [hd] at hcd
   cases hcd
 ·obtain ⟨a,n,r⟩:=I.pin p hp'
  exact ⟨a,by rw [upd_ne (hp p hp')];exact n,r⟩
 ·by_cases hb:b=x
  ·subst hb
   rw [upd_same] at q
   cases q
   exact ⟨hφ,⟨o,hx⟩,hst⟩
  ·rw [upd_ne hb] at q
   exact (I.hok b u q).stay (fun _ _ _ z=>z) (fun c z=>sk z) fun c xs z=>sk z
end
def AnyO(x:Addr):HO:=.ext fun h=>∃ o,h.get? x=some o
theorem AnyO.ok{P:Program}{w:World}{H:Hp}{h:Heap}{x:Addr}{o:Obj}(e:h.get? x=some o):ObjOk P w H h x (AnyO x):=⟨⟨o,e⟩,⟨o,e⟩,fun h1 h2 ⟨o,e⟩ k=>⟨o,k o e⟩⟩
section
variable{X:Cx}{pins pins' pn:List (Addr×Obj)}{σ:St}{H:Hp}{s s2:Shared}{E':Value→Shared→Prop}{e:Value}{EB:XK}{M:Model}{A:Around}{E:Value→Shared→Prop}{Q:Unit→Shared→Prop}
theorem to_clause(hst:X.stack=X.env::X.outer)(hf:X.env.frame=some X.env.locals)(hex:X.ex=[])(I:Inv X pins σ H s)(c:CXF X.prog X.w X.stack H s EB e s2)
  (h:∀ (x T:Addr) (C:Value) (dx:Addr) (H2 H3:Hp) (s3:Shared),e = .ref x→EB C (some dx) H2→H2 x=none→Same H2 H3→H3 x=some (AnyO x)→H3 T=some (AnyO T)→CX.Air s3.heap x T C (some dx) .none→Inv X pins σ H3 s3→Q () s3)
  (hA:A.frames=X.A.frames):wpAny M A (noteFrame e X.env) (fun _ s3=>wpAny M A (setFlight e none) Q E s3) E s2:=by
 obtain ⟨x,T,C,dx,H2,rfl,os,bare,un,hok,sx,sT,nx,nT,ar,hE⟩:=c
 have I2:=I.call' (ch:=[]) os un hok bare (fun b z=>absurd z (by simp))
 obtain ⟨⟨o,vs,hx,hc,hdx,hd,h1⟩,ne,u,ts,hT,hdT,h3⟩:=ar
 have nox:∀ b,b∉X.ex:=fun b z=>by rw [hex] at z;cases z
 have px:∀ b,s.heap.get? b=none→∀ p∈X.pn ++ pins,p.1≠b:=fun b hb p hp z=>by
  have q:=(I.pin p hp).1
  rw [z,hb] at q
  cases q
 have I3:Inv X pins σ (upd H2 x (AnyO x)) s2:=I2.track (x:=x) (φ:=fun h=>∃ o,h.get? x=some o) nx (I.old (nox x) sx) hx hd ⟨o,hx⟩ (fun h1 h2 ⟨o,q⟩ k=>⟨o,k o q⟩) (px x sx)
 have nT':upd H2 x (AnyO x) T=none:=by rw [upd_ne ne];exact nT
 have I4:Inv X pins σ (upd (upd H2 x (AnyO x)) T (AnyO T)) s2:=I3.track (x:=T) (φ:=fun h=>∃ o,h.get? T=some o) nT' (I.old (nox T) sT) hT hdT ⟨u,hT⟩ (fun h1 h2 ⟨o,q⟩ k=>⟨o,k o q⟩) (px T sT)
 have fr:A.frames=some (X.env::X.outer):=by rw [hA,← hst];exact I.ok.frames
 have fl:s2.heap.FunFrames X.base (X.env::X.outer):=by rw [← hst];exact I2.stack
 have fe:frs X.stack=CX.frm (X.env::X.outer):=by rw [hst];rfl
 refine CX.note_on fr fl hf hx hd h1 (.inr ⟨T,u,ts,rfl,ne,hT,hdT,h3⟩) fun g1 T1 sT1 Lf ar1=>?_
 have tx:(upd (upd H2 x (AnyO x)) T (AnyO T)) x=some (AnyO x):=by rw [upd_ne (Ne.symm ne),upd_same]
 have tT:(upd (upd H2 x (AnyO x)) T (AnyO T)) T=some (AnyO T):=upd_same
 have fresh:(upd (upd H2 x (AnyO x)) T (AnyO T)) T1=none:=I4.hok.fresh sT1
 have nb:∀ b v,(upd (upd H2 x (AnyO x)) T (AnyO T)) b=none→s2.heap.get? b=some v→b≠x∧Value.ref T≠.ref b:=fun b v n _=>⟨fun z=>(by rw [z,tx] at n;cases n),fun z=>(by cases z;rw [tT] at n;cases n)⟩
 have oldT1:∀ b v,s2.heap.get? b=some v→b≠T1:=fun b v q=>Nat.ne_of_lt (Nat.lt_of_lt_of_le (Heap.lt_size q) sT1)
 have sk:∀ {b:Addr} {o:HO},(upd (upd H2 x (AnyO x)) T (AnyO T)) b=some o→(upd (upd (upd H2 x (AnyO x)) T (AnyO T)) T1 (AnyO T1)) b=some o:=fun q=>by rw [upd_ne (ne_of_none q fresh)];exact q
 obtain ⟨⟨ox,vx,hx1,cx1,dx1,dd1,v1⟩,neT1,oT1,tsT1,hT1,hdT1,h31⟩:=id ar1
 have I5:Inv X pins σ (upd (upd (upd H2 x (AnyO x)) T (AnyO T)) T1 (AnyO T1)) { s2 with heap:=g1 }:=by
  refine I4.call' (ch:=[]) (s':={ s2 with heap:=g1 }) rfl ⟨fun b v q n hb _=>Lf.keep b v (nb b v n q).1 (nb b v n q).2 (fe▸hb) q,fun b v q n hb _=>Lf.slot b v (fe▸hb) q,fun b v q n _=>by rw [upd_ne (oldT1 b v q)];exact n,fun b v q _=>Lf.there b v q,fun b xs q=>sk q,fun b o' u' q=>sk q,
   fun b ps q=>⟨#[],by rw [sk q];simp⟩⟩ (fun b v q=>?_) bare (fun b z=>absurd z (by simp))
  by_cases h1:b=T1
  ·subst h1;rw [upd_same] at q;cases q;exact AnyO.ok hT1
  ·rw [upd_ne h1] at q
   by_cases h2:b=T
   ·subst h2
    rw [upd_same] at q
    cases q
    obtain ⟨v',e'⟩:=Lf.there b u hT
    exact AnyO.ok e'
   ·have q':=q
    rw [upd_ne h2] at q
    by_cases h3:b=x
    ·subst h3;rw [upd_same] at q;cases q;exact AnyO.ok hx1
    ·rw [upd_ne h3] at q
     refine (I4.hok b v q').stay (fun c y hc z=>?_) (fun c z=>sk z) fun c xs z=>sk z
     have tr:∃ o',H2 c=some o':=by
      rcases hc with rfl | hc
      ·exact ⟨_,q⟩
      ·by_cases a1:c=T
       ·rw [a1,tT] at hc;cases hc
       ·by_cases a2:c=x
        ·rw [a2,tx] at hc;cases hc
        ·rw [upd_ne a1,upd_ne a2] at hc;exact ⟨_,hc⟩
     obtain ⟨o',ho'⟩:=tr
     refine Lf.keep c y (fun z=>by rw [z,nx] at ho';cases ho') (fun z=>by cases z;rw [nT] at ho';cases ho') (fun z=>?_) z
     have z':c∈frs X.stack:=fe▸z
     rw [I2.stkFree c z'] at ho'
     cases ho'
 refine CX.flight_off (s:={ s2 with heap:=g1 }) ar1 fun g2 k2 ar2=>?_
 obtain ⟨oT2,tsT2,hT2,_⟩:=ar2.tb
 have I6:=I5.write (x:=T1) (e:=T1) (o:=AnyO T1) (h':=g2) (t':=s2.toks) (by rw [upd_same];exact True.intro) (.inl rfl) (fun b v hb q=>k2 b v hb q) ⟨_,hT2⟩ (AnyO.ok hT2)
 subst hc
 rw [hdx] at ar2
 refine h x T1 o.cls dx H2 _ { s2 with heap:=g2 } rfl hE nx (fun b v q=>?_) ?_ upd_same ar2 I6
 ·have a1:b≠x:=ne_of_none q nx
  have a2:b≠T:=ne_of_none q nT
  have a3:(upd (upd H2 x (AnyO x)) T (AnyO T)) b=some v:=by rw [upd_ne a2,upd_ne a1];exact q
  rw [upd_upd]
  exact sk a3
 ·rw [upd_upd]
  exact sk tx
theorem again_clause{x T:Addr}{C:Value}{dx:Option Addr}(I:Inv X pins σ H s)(eT:H T=some (AnyO T))(ar:CX.Air s.heap x T C dx .none)
  (h:∀ s',CX.Air s'.heap x T C dx .none→Inv X pins σ H s'→Q () s'):wpAny M A (setFlight (.ref x) none) Q E s:=by
 refine CX.flight_off ar fun g k ar2=>?_
 obtain ⟨oT,tsT,hT,_⟩:=ar2.tb
 have I2:=I.write (x:=T) (e:=T) (o:=AnyO T) (h':=g) (t':=s.toks) (by rw [eT];exact True.intro) (.inl rfl) (fun b v hb q=>k b v hb q) ⟨_,hT⟩ (AnyO.ok hT)
 have e2:upd H T (AnyO T)=H:=by
  funext b
  unfold upd
  split
  ·rename_i z;rw [z,eT]
  ·rfl
 rw [e2] at I2
 exact h _ ar2 I2
end
end L2
end
section
set_option maxRecDepth 100000
set_option maxHeartbeats 1000000
namespace L2
open PySem PySem.Spec PyProof.Rows
def KDic(w:World)(K:PySem.W.Frag)(a:Addr)(kvs:List (Key×V)):Prop:=(a == sysModules)=false∧∃ o es ep,K.lookup a=some o∧o.ExactDict∧o.data = .dict es ep∧
 Paired (fun (e:DictEntry) (kv:Key×V)=>keyIs kv.1 e.key=true∧e.hash=keyH w kv.1∧RelV kv.2 e.val) es.toList kvs
theorem KDic.map{P:Program}{w:World}{K:PySem.W.Frag}{h:Heap}{a:Addr}{kvs:List (Key×V)}(X:K.In h)(d:KDic w K a kvs):∃ f,h.MapOf (mixKind P w) a f∧∀ k,RelO (valV kvs k) (f k):=by
 obtain ⟨_,o,es,ep,l,x,hd,p⟩:=d
 refine ⟨findBy (mixKind P w).is es,⟨o,es,ep,X _ _ l,x,hd,fun e he=>?_,fun _=>rfl⟩,fun k=>?_⟩
 ·have all:∀ {l:List DictEntry} {m:List (Key×V)},Paired (fun (e:DictEntry) (kv:Key×V)=>keyIs kv.1 e.key=true∧e.hash=keyH w kv.1∧RelV kv.2 e.val) l m→∀ e∈l,∃ k,keyIs k e.key=true∧e.hash=keyH w k:=by
   intro l m q
   induction q with
   | nil=>intro e he;cases he
   | cons r t ih =>
    intro e he
    rcases List.mem_cons.mp he with z | z
    ·subst z;exact ⟨_,r.1,r.2.1⟩
    ·exact ih e z
  exact all p e (Array.mem_toList_iff.mpr he)
 ·have all:∀ {l:List DictEntry} {m:List (Key×V)},Paired (fun (e:DictEntry) (kv:Key×V)=>keyIs kv.1 e.key=true∧e.hash=keyH w kv.1∧RelV kv.2 e.val) l m→
    RelO (valV m k) ((l.find? fun e=>keyIs k e.key).map (·.val)):=by
   intro l m q
   induction q with
   | nil=>exact True.intro
   | @cons e kv es' kvs' r t ih =>
    by_cases z:kv.1=k
    ·have b:keyIs k e.key=true:=by rw [← z];exact r.1
     rw [valV_pos z,List.find?_cons,b]
     exact r.2.2
    ·have b:keyIs k e.key=false:=by
      cases c:keyIs k e.key with
      | false=>rfl
      | true=>exact absurd ((mixKind P w).inj e.key kv.1 k r.1 c) z
     rw [valV_neg z,List.find?_cons,b]
     exact ih
  have e1:=all p
  obtain ⟨l⟩:=es
  unfold findBy
  rw [← Array.find?_toList]
  exact e1
section
variable{X:Cx}
def rInK(w:World)(K:PySem.W.Frag)(neg:Bool):R2:=fun x y H Q=>∃ a kvs k,y = .ref a∧KDic w K a kvs∧x=kV k∧Q (.bl (if neg then !(valV kvs k).isSome else (valV kvs k).isSome)) H
theorem op_inK:OpR X (compareOp .In) (rInK X.w X.K false):=by
 rintro pins s σ H x y v u Q I rx ry ⟨a,kvs,k,rfl,d,rfl,q⟩
 cases ry
 obtain ⟨f,m,rel⟩:=d.map (P:=X.prog) I.kIn
 refine wpAny_in_of (kV_is rx) d.1 m ?_
 rw [← (rel k).isSome_eq]
 exact ⟨.bl _,H,I.tok _,rfl,q⟩
theorem op_notInK:OpR X (compareOp .NotIn) (rInK X.w X.K true):=by
 rintro pins s σ H x y v u Q I rx ry ⟨a,kvs,k,rfl,d,rfl,q⟩
 cases ry
 obtain ⟨f,m,rel⟩:=d.map (P:=X.prog) I.kIn
 refine wpAny_notIn_of (kV_is rx) d.1 m ?_
 rw [← (rel k).isSome_eq]
 exact ⟨.bl _,H,I.tok _,rfl,q⟩
def tDGetK(w:World)(K:PySem.W.Frag)(td ty:TE):TE:=fun σ H Q=>td σ H fun x H1=>ty σ H1 fun y H2=>∃ a kvs k v,x = .ref a∧KDic w K a kvs∧y=kV k∧valV kvs k=some v∧Q v H2
theorem pe_dgetK{o i:Expr}{td ty:TE}{pos:Pos}(ho:PE X o td)(hi:PE X i ty)(hs:NoSl i):PE X (.Subscript o i pos) (tDGetK X.w X.K td ty):=by
 intro pins s σ H Q I h
 refine subD_of PySem.F.slot_dict_getitem.lookup hs (thn (ho pins s σ H _ I h) fun u s1 ⟨x,H1,I1,rx,q1⟩=>thn (hi pins s1 σ H1 _ I1 q1) fun iv s2 ⟨y,H2,I2,ry,a,kvs,k,v,ex,d,ey,l,q2⟩=>?_)
 subst ex ey
 obtain rfl:u=Value.ref a:=rx
 obtain ⟨f,m,rel⟩:=d.map (P:=X.prog) I2.kIn
 obtain ⟨w',hw,rw'⟩:=RelO.some_of (v:=v) (o:=f k) (by rw [← l];exact rel k)
 exact ⟨m.typeIs,wpAny_getItem_of (kV_is ry) m hw ⟨v,H2,I2.tok _,rw',q2⟩⟩
end
def KDicT(P:Program)(w:World)(K:PySem.W.Frag)(a:Addr)(kvs:List (List Key×V)):Prop:=(a == sysModules)=false∧∃ o es ep,∃ xs:List (List Key×Addr×Value),K.lookup a=some o∧o.ExactDict∧o.data = .dict es ep∧
 es.toList=xs.map (entryOfKey (tupleKind (mixKind P w)))∧(xs.map (·.1)).Nodup∧
 Paired (fun (p:List Key×V) (q:List Key×Addr×Value)=>p.1=q.1∧RelV p.2 q.2.2∧∃ o its n,K.lookup q.2.1=some o∧o.cls = .type "tuple"∧o.data = .seq its n∧ItemsAre (mixKind P w) q.1 its.toList) kvs xs
theorem KDicT.dic{P:Program}{w:World}{K:PySem.W.Frag}{h:Heap}{a:Addr}{kvs:List (List Key×V)}(X:K.In h)(d:KDicT P w K a kvs) :
  ∃ xs,h.DictOfH (tupleKind (mixKind P w)) a xs∧∀ k,RelO (valV kvs k) ((atKey xs k).map (·.2)):=by
 obtain ⟨_,o,es,ep,xs,l,x,hd,he,nd,p⟩:=d
 refine ⟨xs,⟨o,es,ep,X _ _ l,x,hd,he,?_,nd⟩,fun k=>?_⟩
 ·clear he nd
  induction p with
  | nil=>intro x hx;cases hx
  | cons r t ih =>
   intro x hx
   rcases List.mem_cons.mp hx with z | z
   ·subst z
    obtain ⟨_,_,o',its,n,q1,q2,q3,q4⟩:=r
    exact ⟨o',its,n,X _ _ q1,q2,q3,q4⟩
   ·exact ih x z
 ·clear he nd
  induction p with
  | nil=>exact True.intro
  | @cons p q ps qs r t ih =>
   obtain ⟨h1,h2,_⟩:=r
   by_cases e:p.1=k
   ·have e':q.1=k:=h1.symm.trans e
    have b:atKey (q::qs) k=some q.2:=by simp [atKey,List.find?_cons,e']
    rw [valV_pos e,b];exact h2
   ·have e':¬ q.1=k:=fun z=>e (h1.trans z)
    have b:atKey (q::qs) k=atKey qs k:=by simp [atKey,List.find?_cons,e']
    rw [valV_neg e,b];exact ih
section
variable{X:Cx}
def rInKT(P:Program)(w:World)(K:PySem.W.Frag):R2:=fun x y H Q=>∃ a kvs b k,y = .ref a∧KDicT P w K a kvs∧x = .ref b∧H b=some (.tup (k.map kV))∧Q (.bl (valV kvs k).isSome) H
theorem op_inKT(hu:X.A.units + 1 < cLine):OpR X (compareOp .In) (rInKT X.prog X.w X.K):=by
 rintro pins s σ H x y v u Q I rx ry ⟨a,kvs,b,k,rfl,d,rfl,eb,q⟩
 cases ry
 cases rx
 obtain ⟨xs,m,rel⟩:=d.dic I.kIn
 refine wpAny_in_heap (tupleKind_room_in1 hu) (key_of I.hok eb) d.1 m ?_
 have z:=(rel k).isSome_eq
 rw [Option.isSome_map] at z
 rw [← z]
 exact ⟨.bl _,H,I.tok _,rfl,q⟩
def tDGetKT(P:Program)(w:World)(K:PySem.W.Frag)(td ty:TE):TE:=fun σ H Q=>td σ H fun x H1=>ty σ H1 fun y H2=>∃ a kvs b k v,x = .ref a∧KDicT P w K a kvs∧y = .ref b∧H2 b=some (.tup (k.map kV))∧valV kvs k=some v∧Q v H2
theorem pe_dgetKT{o i:Expr}{td ty:TE}{pos:Pos}(hu:X.A.units + 1 < cLine)(ho:PE X o td)(hi:PE X i ty)(hs:NoSl i):PE X (.Subscript o i pos) (tDGetKT X.prog X.w X.K td ty):=by
 intro pins s σ H Q I h
 refine subD_of PySem.F.slot_dict_getitem.lookup hs (thn (ho pins s σ H _ I h) fun u s1 ⟨x,H1,I1,rx,q1⟩=>thn (hi pins s1 σ H1 _ I1 q1) fun iv s2 ⟨y,H2,I2,ry,a,kvs,b,k,v,ex,d,ey,eb,l,q2⟩=>?_)
 subst ex ey
 obtain rfl:u=Value.ref a:=rx
 obtain rfl:iv=Value.ref b:=ry
 obtain ⟨xs,m,rel⟩:=d.dic I2.kIn
 obtain ⟨w',hw,rw'⟩:=RelO.some_of (v:=v) (o:=(atKey xs k).map (·.2)) (by rw [← l];exact rel k)
 obtain ⟨p,hp,hp2⟩:=Option.map_eq_some_iff.mp hw
 refine ⟨m.typeIs,wpAny_getItem_heap (tupleKind_room_in1 hu) (key_of I2.hok eb) m hp ?_⟩
 rw [hp2]
 exact ⟨v,H2,I2.tok _,rw',q2⟩
end
end L2
end
section
set_option maxRecDepth 100000
set_option maxHeartbeats 1000000
namespace L2
open PySem PySem.Spec PyProof.Rows
section
variable{X:Cx}{C fI:Addr}{fs:List Str}{o value:Expr}{f:Str}{pos pos':Pos}{ta tv:TE}
def sFldX1(C:Addr)(ta tv:TE)(f:Str):TS:=fun D σ H=>tv σ H fun y H1=>ta σ H1 fun v H2=>∃ x,v = .ref x∧H2 x=some (XO C none x)∧∀ dx,H2 dx=none→dx≠x→D.nx σ (upd (upd H2 x (XO C (some dx) x)) dx (XD dx [(f,y)]))
def sFldX2(C:Addr)(ta tv:TE)(f:Str):TS:=fun D σ H=>tv σ H fun y H1=>ta σ H1 fun v H2=>∃ x dx fs0,v = .ref x∧H2 x=some (XO C (some dx) x)∧H2 dx=some (XD dx fs0)∧fs0.length≤1000∧D.nx σ (upd H2 dx (XD dx (putF f y fs0)))
theorem ps_fldX1(q:xcls X.K C fI fs=true)(hf:f∈fs)(hB:typeLookup (.type "Exception") f=pure none)(ha:PE X o ta)(hv:PE X value tv)(hs:swapsWith value (some (.Attribute o f pos')) pos.line X.env=pure false) :
  PS X (.Assign [.Attribute o f pos'] value pos) (sFldX1 C ta tv f):=by
 intro pins s σ H D I h
 refine plainObj_wpAny_Assign_Attribute (thn (hv pins s σ H _ I h) fun u s1 ⟨y,H1,I1,ry,q1⟩=>thn (ha pins s1 σ H1 _ I1 q1) fun ov s2 ⟨v,H2,I2,rx,x,ex,e1,q2⟩=>?_) hs
 subst ex
 obtain rfl:ov=Value.ref x:=rx
 exact setX1 I2 e1 q hf hB ry fun dx s3 n1 n2 I3=>⟨σ,_,I3,q2 dx n1 n2⟩
theorem ps_fldX2(q:xcls X.K C fI fs=true)(hf:f∈fs)(hB:typeLookup (.type "Exception") f=pure none)(ha:PE X o ta)(hv:PE X value tv)(hs:swapsWith value (some (.Attribute o f pos')) pos.line X.env=pure false) :
  PS X (.Assign [.Attribute o f pos'] value pos) (sFldX2 C ta tv f):=by
 intro pins s σ H D I h
 refine plainObj_wpAny_Assign_Attribute (thn (hv pins s σ H _ I h) fun u s1 ⟨y,H1,I1,ry,q1⟩=>thn (ha pins s1 σ H1 _ I1 q1) fun ov s2 ⟨v,H2,I2,rx,x,dx,fs0,ex,e1,e2,l,q2⟩=>?_) hs
 subst ex
 obtain rfl:ov=Value.ref x:=rx
 exact setX2 I2 e1 e2 q hf hB ry l fun s3 I3=>⟨σ,_,I3,q2⟩
end
end L2
end
section
set_option autoImplicit false
namespace Cell
open Vanbka
def skip:Bool→Bytes→Nat
 | _,[]=>0
 | cm,c::r=>if c=10 then skip false r + 1 else if c=35 then skip true r + 1 else if c≠32∧cm=false then 0 else skip cm r + 1
theorem skip_le:∀ (cm:Bool) (t:Bytes),skip cm t≤t.length
 | _,[]=>Nat.le_refl _
 | cm,c::r=>by
  have h1:=skip_le false r
  have h2:=skip_le true r
  have h3:=skip_le cm r
  rw [skip,List.length_cons]
  repeat' split
  all_goals omega
theorem skip_end:∀ (t:Bytes) (cm:Bool),t.drop (skip cm t)=[]∨∃ c r,t.drop (skip cm t)=c::r∧c≠10∧c≠32∧c≠35
 | [],_=>.inl rfl
 | c::r,cm=>by
  rw [skip]
  split
  ·rw [List.drop_succ_cons];exact skip_end r false
  split
  ·rw [List.drop_succ_cons];exact skip_end r true
  split
  ·rename_i h1 h2 h3
   exact .inr ⟨c,r,rfl,h1,h3.1,h2⟩
  ·rw [List.drop_succ_cons];exact skip_end r cm
theorem lexAt_len{t:Bytes}{l:Lex}{k:Nat}(h:lexAt t=some (l,k)):1≤k∧k≤t.length:=by
 have tw:∀ (p:UInt8→Bool) (u:Bytes),(u.takeWhile p).length≤u.length:=fun p u=>by
  have:=List.takeWhile_prefix p (l:=u)
  exact this.length_le
 have qf:∀ (u:Bytes) (x:Bytes×Nat),quotedFrom u=some x→x.2≤u.length:=by
  intro u
  induction u using quotedFrom.induct <;> intro x hx <;> simp only [quotedFrom,Option.map_eq_some_iff,Option.some.injEq,reduceCtorEq] at hx
  all_goals first
   | (subst hx;simp)
   | (obtain ⟨y,hy,rfl⟩:=hx;rename_i ih _ ;have:=ih _ hy;simp only [List.length_cons];omega)
   | (obtain ⟨y,hy,rfl⟩:=hx;rename_i ih;have:=ih _ hy;simp only [List.length_cons];omega)
   | skip
 unfold lexAt at h
 split at h
 ·cases h
 ·rename_i c r
  split at h
  ·rename_i hl
   dsimp only at h
   split at h
   ·cases h
    have hw:wordByte c=true:=by unfold wordByte;rw [hl];rfl
    refine ⟨?_,tw _ _⟩
    rw [List.takeWhile_cons,if_pos hw,List.length_cons];omega
   ·cases h
  split at h
  ·rename_i hd
   dsimp only at h
   split at h
   ·cases h
    refine ⟨?_,tw _ _⟩
    rw [List.takeWhile_cons,if_pos hd,List.length_cons];omega
   ·cases h
  split at h
  ·cases e:quotedFrom r with
   | none=>rw [e] at h;cases h
   | some x =>
    rw [e] at h
    cases h
    have:=qf r x e
    rw [List.length_cons]
    omega
  split at h
  ·rename_i hc
   cases h
   refine ⟨by omega,?_⟩
   have hm:(c::r).take 2∈doubleSigns:=by simpa using hc
   have:∀ s∈doubleSigns,s.length=2:=by decide
   have:=this _ hm
   rw [List.length_take] at this
   omega
  split at h
  ·cases h
   rw [List.length_cons];omega
  ·cases h
end Cell
end
section
set_option autoImplicit false
namespace Cell
open Vanbka
theorem tokens_fuel:∀ (n m p:Nat) (t:Bytes),t.length < n→t.length < m→tokensFrom n p t=tokensFrom m p t:=by
 intro n
 induction n with
 | zero=>intro m p t h;omega
 | succ n ih =>
  intro m p t h1 h2
  obtain ⟨m,rfl⟩:∃ k,m=k + 1:=⟨m - 1,by omega⟩
  cases t with
  | nil=>rfl
  | cons c r =>
   rw [List.length_cons] at h1 h2
   rw [tokensFrom,tokensFrom]
   split
   ·exact ih m (p + 1) r (by omega) (by omega)
   split
   ·rename_i hb hh
    dsimp only
    have hk:1≤((c::r).takeWhile fun x=>x != 10).length:=by
     have hc:c=35:=by simpa using hh
     subst hc
     rw [List.takeWhile_cons,if_pos (by decide),List.length_cons];omega
    have hl:((c::r).drop ((c::r).takeWhile fun x=>x != 10).length).length < n:=by rw [List.length_drop,List.length_cons];omega
    have hl2:((c::r).drop ((c::r).takeWhile fun x=>x != 10).length).length < m:=by rw [List.length_drop,List.length_cons];omega
    exact ih m _ _ hl hl2
   ·cases e:lexAt (c::r) with
    | none=>rfl
    | some x =>
     obtain ⟨l,k⟩:=x
     dsimp only
     have hk:=lexAt_len e
     rw [ih m (p + k) ((c::r).drop k) (by rw [List.length_drop,List.length_cons];omega) (by rw [List.length_drop,List.length_cons];omega)]
def tokAt(t:Bytes)(q:Nat):Except Nat (List Tok):=tokensFrom (t.length + 1) q (t.drop q)
theorem tokens_eq(t:Bytes):tokens t=tokAt t 0:=rfl
theorem tokAt_end{t:Bytes}{q:Nat}(h:t.length≤q):tokAt t q = .ok []:=by
 unfold tokAt
 rw [List.drop_eq_nil_of_le h]
 rfl
theorem drop_one{t r:Bytes}{q:Nat}{c:UInt8}(h:t.drop q=c::r):t.drop (q + 1)=r∧q < t.length:=by
 refine ⟨?_,?_⟩
 ·rw [← List.drop_drop,h];rfl
 ·rcases Nat.lt_or_ge q t.length with z | z
  ·exact z
  ·rw [List.drop_eq_nil_of_le z] at h;cases h
theorem comment_skip:∀ (r:Bytes),skip true r=(r.takeWhile fun x=>x != 10).length + skip false (r.drop (r.takeWhile fun x=>x != 10).length):=by
 intro r
 induction r with
 | nil=>rfl
 | cons c r ih =>
  rw [List.takeWhile_cons]
  by_cases hc:c=10
  ·subst hc
   rw [if_neg (by decide)]
   simp only [List.length_nil,List.drop_zero,Nat.zero_add]
   rw [skip,if_pos rfl,skip,if_pos rfl]
  ·have hb:(c != 10)=true:=by simpa using hc
   rw [if_pos hb,List.length_cons,List.drop_succ_cons,skip,if_neg hc]
   split
   ·rw [ih];omega
   ·rw [if_neg (by simp),ih];omega
theorem tokAt_skip(t:Bytes):∀ (n q:Nat),t.length - q≤n→tokAt t q=tokAt t (q + skip false (t.drop q)):=by
 intro n
 induction n with
 | zero =>
  intro q h
  rw [List.drop_eq_nil_of_le (show t.length≤q by omega)];rfl
 | succ n ih =>
  intro q h
  cases e:t.drop q with
  | nil=>rfl
  | cons c r =>
   obtain ⟨h1,h2⟩:=drop_one e
   have e0:tokAt t q=tokensFrom (t.length + 1) q (c::r):=by unfold tokAt;rw [e]
   have lr:r.length + 1 + q=t.length:=by
    have:=congrArg List.length e
    rw [List.length_drop,List.length_cons] at this
    omega
   rw [skip]
   split
   ·rename_i hc
    subst hc
    rw [e0,tokensFrom,if_pos (by decide),tokens_fuel _ (t.length + 1) (q + 1) r (by omega) (by omega)]
    have:tokensFrom (t.length + 1) (q + 1) r=tokAt t (q + 1):=by unfold tokAt;rw [h1]
    rw [this,ih (q + 1) (by omega),h1]
    congr 1
    omega
   split
   ·rename_i hc
    subst hc
    rw [e0,tokensFrom,if_neg (by decide),if_pos (by decide)]
    dsimp only
    have hk:(((35:UInt8)::r).takeWhile fun x=>x != 10).length=(r.takeWhile fun x=>x != 10).length + 1:=by
     rw [List.takeWhile_cons,if_pos (by decide),List.length_cons]
    have hd:((35:UInt8)::r).drop (((35:UInt8)::r).takeWhile fun x=>x != 10).length=t.drop (q + ((r.takeWhile fun x=>x != 10).length + 1)):=by
     rw [hk,← e,List.drop_drop]
    rw [tokens_fuel _ (t.length + 1) _ _ (by rw [hk,List.drop_succ_cons,List.length_drop];omega) (by rw [hk,List.drop_succ_cons,List.length_drop];omega),hd,hk]
    have:tokensFrom (t.length + 1) (q + ((r.takeWhile fun x=>x != 10).length + 1)) (t.drop (q + ((r.takeWhile fun x=>x != 10).length + 1)))=tokAt t (q + ((r.takeWhile fun x=>x != 10).length + 1)):=rfl
    rw [this,ih _ (by omega)]
    have hd2:t.drop (q + ((r.takeWhile fun x=>x != 10).length + 1))=r.drop (r.takeWhile fun x=>x != 10).length:=by
     rw [← hd,hk,List.drop_succ_cons]
    rw [hd2,comment_skip r]
    congr 1
    omega
   split
   ·rfl
   ·rename_i h3 h4 h5
    have hb:blank c=true:=by
     unfold blank
     by_cases z:c=32
     ·subst z;decide
     ·exact absurd ⟨z,rfl⟩ h5
    rw [e0,tokensFrom,if_pos hb,tokens_fuel _ (t.length + 1) (q + 1) r (by omega) (by omega)]
    have:tokensFrom (t.length + 1) (q + 1) r=tokAt t (q + 1):=by unfold tokAt;rw [h1]
    rw [this,ih (q + 1) (by omega),h1]
    congr 1
    omega
theorem tokAt_pass(t:Bytes)(q:Nat):tokAt t q=tokAt t (q + skip false (t.drop q)):=tokAt_skip t _ q (Nat.le_refl _)
theorem tokAt_step{t r:Bytes}{q:Nat}{c:UInt8}(e:t.drop q=c::r)(h1:c≠10)(h2:c≠32)(h3:c≠35) :
  tokAt t q=match lexAt (t.drop q) with
   | none=>.error q
   | some (l,k)=>match tokAt t (q + k) with
    | .error z=>.error z
    | .ok ts=>.ok ({ lex:=l,place:=q,len:=k }::ts):=by
 have hb:¬ blank c=true:=by unfold blank;simp [h1,h2]
 have hh:¬ (c == 35)=true:=by simpa using h3
 have e0:tokAt t q=tokensFrom (t.length + 1) q (c::r):=by unfold tokAt;rw [e]
 rw [e0,tokensFrom,if_neg hb,if_neg hh,e]
 cases el:lexAt (c::r) with
 | none=>rfl
 | some x =>
  obtain ⟨l,k⟩:=x
  dsimp only
  have hk:=lexAt_len el
  have lr:r.length + 1 + q=t.length:=by
   have:=congrArg List.length e
   rw [List.length_drop,List.length_cons] at this
   have:=(drop_one e).2
   omega
  rw [tokens_fuel _ (t.length + 1) (q + k) ((c::r).drop k) (by rw [List.length_drop,List.length_cons];omega) (by rw [List.length_drop,List.length_cons];omega)]
  have:(c::r).drop k=t.drop (q + k):=by rw [← e,List.drop_drop]
  rw [this]
  rfl
end Cell
end
section
set_option maxRecDepth 100000
set_option maxHeartbeats 4000000
namespace Prg
open PySem L2
def top(i:Nat):PySem.Stmt:=PySem.Challenge.pw_celltexts_s03_tokens.main.body.getD i (.Pass ⟨0,0,0,0⟩)
abbrev sFaultInit:PySem.Stmt:=inClass (top 3) 0
abbrev sTokenInit:PySem.Stmt:=inClass (top 22) 0
abbrev sCheckBytes:PySem.Stmt:=top 23
abbrev sCutTokens:PySem.Stmt:=top 24
abbrev sPassOver:PySem.Stmt:=top 25
abbrev sCutToken:PySem.Stmt:=top 26
abbrev sIsDigit:PySem.Stmt:=top 27
abbrev sIsWordByte:PySem.Stmt:=top 28
abbrev sCutNumber:PySem.Stmt:=top 29
abbrev sCutWord:PySem.Stmt:=top 30
abbrev sSpellLower:PySem.Stmt:=top 31
abbrev sCutQuoted:PySem.Stmt:=top 32
abbrev sCutSign:PySem.Stmt:=top 33
def CI(mg:Str→Option Value)(x:Str)(i:Int):Prop:=∃ t,mg x=some (.int i t)
theorem pe_ci{X:Cx}{x:Str}{i:Int}{pos:Pos}(c:CI X.mg x i)(hg:Gl X x)(hd:(x == ("__debug__":Str))=false:=by decide):PE X (.Name x pos) (tC (.int i)):=by
 obtain ⟨t,h⟩:=c
 exact pe_glob hg h ⟨t,rfl⟩ hd
theorem nb_number:typeLookup (.type "Exception") "number"=pure none:=by rw [typeLookup_type,builtinLookup_eq_fast];kernel_rfl
theorem nb_told:typeLookup (.type "Exception") "told"=pure none:=by rw [typeLookup_type,builtinLookup_eq_fast];kernel_rfl
section
variable{P:Program}{w:World}{K:PySem.W.Frag}{mg:Str→Option Value}{base:Heap}{f CF fI:Addr}{fd fdI:FuncData}
abbrev xfs(n p:Int):List (Str×V):=[("number",.int n),("told",.int p)]
def spFI(CF:Addr):Sp:=fun vs H Q _=>∃ x n p,vs=[.ref x,.int n,.int p]∧H x=some (XO CF none x)∧
 ∀ dx,H dx=none→dx≠x→Q .non (upd (upd (upd H x (XO CF (some dx) x)) dx (XD dx [("number",.int n)])) dx (XD dx (xfs n p)))
theorem scFI:FnScope ["self", "number", "told"] ["self", "number", "told"] (defScope sFaultInit):=⟨rfl,rfl,rfl,by decide +kernel,rfl,by decide +kernel,by decide +kernel⟩
theorem ok_FI(F:Fun K "__init__" "Fault.__init__" sFaultInit f fd)(q:xcls K CF f ["number", "told"]=true):FnOk P w K mg base (CXF P w) 1 f fd ["self", "number", "told"] (spFI CF):=by
 refine F.okF (k:=0) scFI (fun vs H Q E h=>?_) (fun cdv A outer s H vs Q E hr h=>?_)
 ·obtain ⟨x,n,p,rfl,_⟩:=h
  rfl
 obtain ⟨x,n,p,rfl,hx,k⟩:=h
 refine ⟨_,pss_cons (ps_fldX1 q (.head _) nb_number (pv 0) (pv 1) rfl) (pss_one (ps_fldX2 q (.tail _ (.head _)) nb_told (pv 0) (pv 2) rfl)),?_⟩
 refine ⟨_,rfl,_,rfl,x,rfl,hx,fun dx n1 n2=>?_⟩
 exact ⟨_,rfl,_,rfl,x,dx,_,rfl,by rw [upd_ne (Ne.symm n2),upd_same],upd_same,(by show 1≤1000;decide),k dx n1 n2⟩
def Err(CF:Addr)(E:XK)(n p:Int):Prop:=∀ dx H',H' dx=some (XD dx (xfs n p))→E (.ref CF) (some dx) H'
theorem raise_says{E:XK}{H1:Hp}{n p:Int}(hE:Err CF E n p):([V.int n,.int p]:List V).length≤1000∧∀ x,H1 x=none→
  spFI CF (.ref x::[.int n,.int p]) (upd H1 x (XO CF none x)) (fun v H2=>v = .non∧∃ dx,H2 x=some (XO CF (some dx) x)∧E (.ref CF) (some dx) (unt H2 x)) E:=by
 refine ⟨by show 2≤1000;decide,fun x hx=>⟨x,n,p,rfl,upd_same,fun dx n1 n2=>⟨rfl,dx,?_,?_⟩⟩⟩
 ·rw [upd_ne (Ne.symm n2),upd_ne (Ne.symm n2),upd_same]
 ·refine hE dx _ ?_
  rw [unt_ne n2,upd_same]
structure FaultAt(K:PySem.W.Frag)(mg:Str→Option Value)(CF fI:Addr)(fdI:FuncData):Prop where
 x:xcls K CF fI ["number", "told"]=true
 F:Fun K "__init__" "Fault.__init__" sFaultInit fI fdI
 b:Binds K fdI ["self", "number", "told"] []
 m:mg "Fault"=some (.ref CF)
 kp:PySem.W.keepIn K (.ref CF)=true
theorem ps_fault{N:List Str}{qual:Str}{scope:Scope}{f:Addr}{cd:Value}{A:Around}{outer:List Env}{s:Shared}{H:Hp}{E:XK}{a b:PySem.Expr}{ta tb:TE}{np cpos pos:Pos}(T:FaultAt K mg CF fI fdI)
  (hr:Room 2 (cxOf (CXF P w) P w K mg base N qual scope f cd A outer s H E).A) (hg:Gl (cxOf (CXF P w) P w K mg base N qual scope f cd A outer s H E) "Fault") (ha:PA (cxOf (CXF P w) P w K mg base N qual scope f cd A outer s H E) [a,b] (tCons ta (tCons tb tNil)))
  (he:starEach [a,b] (cxOf (CXF P w) P w K mg base N qual scope f cd A outer s H E).env=(false,eval a (cxOf (CXF P w) P w K mg base N qual scope f cd A outer s H E).env)::starEach [b] (cxOf (CXF P w) P w K mg base N qual scope f cd A outer s H E).env:=by rfl)
  (hpl:(backTo cpos (starEach [b] (cxOf (CXF P w) P w K mg base N qual scope f cd A outer s H E).env)).any (·.1)=false:=by rfl) :
  PS (cxOf (CXF P w) P w K mg base N qual scope f cd A outer s H E) (.Raise (some (.Call (.Name "Fault" np) [a,b] [] cpos)) none pos) (tRaise CF (spFI CF) E (tCons ta (tCons tb tNil))) :=
 ps_raiseF T.x (ok_FI T.F T.x) hr hg T.m T.kp T.b passF raiseF rfl rfl ha (by decide) he hpl
def spDigit:Sp:=fun vs H Q _=>∃ i,vs=[.int i]∧Q (.bl (decide (48≤i) && decide (i≤57))) H
theorem scDigit:FnScope ["byte"] ["byte"] (defScope sIsDigit):=⟨rfl,rfl,rfl,by decide +kernel,rfl,by decide +kernel,by decide +kernel⟩
theorem ok_digit(F:Fun K "is_digit" "is_digit" sIsDigit f fd)(c1:CI mg "ZERO" 48)(c2:CI mg "NINE" 57):FnOk P w K mg base (CXF P w) 1 f fd ["byte"] spDigit:=by
 refine F.okF (k:=0) scDigit (fun vs H Q E h=>?_) (fun cdv A outer s H vs Q E hr h=>?_)
 ·obtain ⟨i,rfl,_⟩:=h
  rfl
 obtain ⟨i,rfl,q⟩:=h
 refine ⟨_,pss_one (ps_ret (pe_chain op_le op_le (pe_ci c1 rfl) (pv 0) (pe_ci c2 rfl))),?_⟩
 refine ⟨_,rfl,_,_,rfl,rfl,_,rfl,?_⟩
 by_cases h:48≤i
 ·rw [decide_eq_true h,Bool.true_and] at q
  rw [decide_eq_true h,if_pos rfl]
  exact ⟨_,_,rfl,rfl,q⟩
 ·rw [decide_eq_false h,Bool.false_and] at q
  rw [decide_eq_false h,if_neg Bool.false_ne_true]
  exact q
end
end Prg
end
section
set_option maxRecDepth 100000
set_option maxHeartbeats 4000000
namespace Prg
open PySem L2
open Vanbka (Bytes)
def vb(t:Bytes):List V:=t.map fun c=>V.int (c.toNat:Int)
theorem vb_len(t:Bytes):(vb t).length=t.length:=List.length_map _
theorem vb_get{t:Bytes}{q:Nat}{c:UInt8}(h:t[q]? = some c):atI (vb t) (q:Int)=some (.int (c.toNat:Int)):=atI_nat (by unfold vb;rw [List.getElem?_map,h];rfl)
theorem get_drop{t r:Bytes}{q:Nat}{c:UInt8}(h:t.drop q=c::r):t[q]? = some c:=by
 have:=congrArg (fun l=>l[0]?) h
 simpa using this
theorem drop_get{t:Bytes}{q:Nat}(h:q < t.length):∃ c r,t.drop q=c::r∧t[q]? = some c∧t.drop (q + 1)=r:=by
 refine ⟨t[q],t.drop (q + 1),List.drop_eq_getElem_cons h,List.getElem?_eq_getElem h,rfl⟩
theorem chainQ{a b c:Int}{Q:V→Prop}(q:Q (.bl (decide (a≤b) && decide (b≤c)))):if decide (a≤b)=true then (∃ i j,V.int b = .int i∧V.int c = .int j∧Q (.bl (decide (i≤j)))) else Q (.bl false):=by
 by_cases h:a≤b
 ·rw [decide_eq_true h,Bool.true_and] at q
  rw [decide_eq_true h,if_pos rfl]
  exact ⟨_,_,rfl,rfl,q⟩
 ·rw [decide_eq_false h,Bool.false_and] at q
  rw [decide_eq_false h,if_neg Bool.false_ne_true]
  exact q
theorem orQ{x:Bool}{T R:Prop}(h1:x=true→T)(h2:x=false→R):∃ c,V.bl x = .bl c∧if c=true then T else R:=by
 refine ⟨x,rfl,?_⟩
 cases x with
 | true=>rw [if_pos rfl];exact h1 rfl
 | false=>rw [if_neg Bool.false_ne_true];exact h2 rfl
theorem byte_eq{c:UInt8}{n:Nat}(h:n < 256):((c.toNat:Int)=(n:Int))↔c=UInt8.ofNat n:=by
 constructor
 ·intro e
  have e':c.toNat=n:=by omega
  apply UInt8.toNat_inj.mp
  rw [UInt8.toNat_ofNat',e']
  exact (Nat.mod_eq_of_lt h).symm
 ·intro e
  subst e
  rw [UInt8.toNat_ofNat']
  have:=Nat.mod_eq_of_lt h
  simp only [Nat.reducePow] at *
  omega
section
variable{P:Program}{w:World}{K:PySem.W.Frag}{mg:Str→Option Value}{base:Heap}{f g CF fI:Addr}{fd gd fdI:FuncData}
def wordI(i:Int):Bool:=(decide (65≤i) && decide (i≤90)) || ((decide (97≤i) && decide (i≤122)) || (decide (i=95) || (decide (48≤i) && decide (i≤57))))
def spWordB:Sp:=fun vs H Q _=>∃ i,vs=[.int i]∧Q (.bl (wordI i)) H
theorem scWordB:FnScope ["byte"] ["byte"] (defScope sIsWordByte):=⟨rfl,rfl,rfl,by decide +kernel,rfl,by decide +kernel,by decide +kernel⟩
theorem ok_wordB(F:Fun K "is_word_byte" "is_word_byte" sIsWordByte f fd)(G:FnOk P w K mg base (CXF P w) 1 g gd ["byte"] spDigit)(bG:Binds K gd ["byte"] [])(kG:PySem.W.keepIn K (.ref g)=true)(mG:mg "is_digit"=some (.ref g))
  (c1:CI mg "UNDERSCORE" 95):FnOk P w K mg base (CXF P w) 2 f fd ["byte"] spWordB:=by
 refine F.okF (k:=1) scWordB (fun vs H Q E h=>?_) (fun cdv A outer s H vs Q E hr h=>?_)
 ·obtain ⟨i,rfl,_⟩:=h
  rfl
 obtain ⟨i,rfl,q⟩:=h
 refine ⟨_,pss_one (ps_ret (pe_or (pe_chain op_le op_le pe_int (pv 0) pe_int) (pe_or (pe_chain op_le op_le pe_int (pv 0) pe_int) (pe_or (pe_cmpR op_eq (pv 0) (pe_ci c1 rfl) (nomark _)) (pe_one (pe_call G hr rfl mG kG bG .nil passF (pa_cons (pv 0) pa_nil))))))),?_⟩
 refine ⟨_,rfl,_,_,rfl,rfl,_,rfl,chainQ (Q:=fun x=>∃ c,x=V.bl c∧if c=true then Q (.bl true) H else _) (orQ (fun h1=>?_) (fun h1=>?_))⟩
 ·unfold wordI at q;rw [h1,Bool.true_or] at q;exact q
 refine ⟨_,rfl,_,_,rfl,rfl,_,rfl,chainQ (Q:=fun x=>∃ c,x=V.bl c∧if c=true then Q (.bl true) H else _) (orQ (fun h2=>?_) (fun h2=>?_))⟩
 ·unfold wordI at q;rw [h1,h2,Bool.false_or,Bool.true_or] at q;exact q
 refine ⟨_,rfl,rfl,orQ (fun h3=>?_) (fun h3=>?_)⟩
 ·have e:i=95:=by have:=of_decide_eq_true h3;injection this
  unfold wordI at q;rw [h1,h2,decide_eq_true e,Bool.false_or,Bool.false_or,Bool.true_or] at q;exact q
 ·have e:¬ i=95:=fun z=>by subst z;exact absurd h3 (by simp)
  unfold wordI at q;rw [h1,h2,decide_eq_false e,Bool.false_or,Bool.false_or,Bool.false_or] at q
  exact ⟨_,rfl,i,rfl,q⟩
def spPass(K:PySem.W.Frag):Sp:=fun vs H Q _=>∃ (a:Addr) (t:Bytes) (p:Nat),vs=[.ref a,.int p]∧SqL K H a (vb t)∧p≤t.length∧Q (.int ((p + Cell.skip false (t.drop p):Nat):Int)) H
theorem scPass:FnScope ["text", "place", "in_comment", "byte"] ["text", "place"] (defScope sPassOver):=⟨rfl,rfl,rfl,by decide +kernel,rfl,by decide +kernel,by decide +kernel⟩
theorem ok_pass(F:Fun K "pass_over" "pass_over" sPassOver f fd)(ml:mg "len"=none)(c1:CI mg "LINE_FEED" 10)(c2:CI mg "HASH" 35)(c3:CI mg "BLANK" 32):FnOk P w K mg base (CXF P w) 1 f fd ["text", "place"] (spPass K):=by
 refine F.okF (k:=0) scPass (fun vs H Q E h=>?_) (fun cdv A outer s H vs Q E hr h=>?_)
 ·obtain ⟨a,t,p,rfl,_⟩:=h
  rfl
 obtain ⟨a,t,p,rfl,hS,hp,q⟩:=h
 have nd:=scPass.nd
 refine ⟨_,pss_cons (ps_set (i:=2) nd rfl (Or.inl rfl) pe_bl)
  (pss_cons (ps_while ownF (pt_cmpR op_lt (pv 1) (pe_callB call_len_seq rfl ml PySem.boot_len (pa_cons (pv 0) pa_nil)) (nomark _))
   (pss_cons (ps_set (i:=3) nd rfl (Or.inl rfl) (pe_ix ix_list (pv 0) (pv 1) (fun _ _=>rfl)))
   (pss_cons (ps_if (pt_cmpR op_eq (pv 3) (pe_ci c1 rfl) (nomark _)) (pss_one (ps_set (i:=2) nd rfl (Or.inl rfl) pe_bl))
    (pss_one (ps_if (pt_cmpR op_eq (pv 3) (pe_ci c2 rfl) (nomark _)) (pss_one (ps_set (i:=2) nd rfl (Or.inl rfl) pe_bl))
     (pss_one (ps_if (PW.pt (pw_and (pt_cmpR op_ne (pv 3) (pe_ci c3 rfl) (nomark _)) (pw_and1 (pt_not (pt_val (pv 2)))))) (pss_one (ps_ret (pv 1))) pss_nil)))))
   (pss_one (ps_aug (i:=1) nd rfl (Or.inl rfl) pe_int ip_add)))))
  (pss_one (ps_ret (pv 1)))),?_⟩
 refine ⟨fun m σ H'=>H'=H∧∃ (j:Nat) (cm:Bool) (v3:Option V),σ=[some (.ref a),some (.int (j:Int)),some (.bl cm),v3]∧m=t.length - j∧j≤t.length∧p + Cell.skip false (t.drop p)=j + Cell.skip cm (t.drop j),
  ⟨_,rfl,p,false,none,rfl,rfl,hp,rfl⟩,?_⟩
 rintro m σ H' ⟨rfl,j,cm,v3,rfl,rfl,hj,inv⟩
 refine ⟨_,rfl,_,rfl,a,_,rfl,.inl hS,_,_,rfl,rfl,_,rfl,ite2 (fun c=>?_) (fun c=>?_)⟩
 ·have hlt:j < t.length:=by
   have:=of_decide_eq_true c
   rw [vb_len] at this
   omega
  obtain ⟨b,r,hd,hb,hr'⟩:=drop_get hlt
  refine ⟨fun σ' H2=>∃ m',m' < t.length - j∧(H2=H'∧∃ (j:Nat) (cm:Bool) (v3:Option V),σ'=[some (.ref a),some (.int (j:Int)),some (.bl cm),v3]∧m'=t.length - j∧j≤t.length∧p + Cell.skip false (t.drop p)=j + Cell.skip cm (t.drop j)),fun _ _ z=>z,?_⟩
  refine ⟨_,rfl,_,rfl,a,_,_,_,rfl,rfl,hS,vb_get hb,?_⟩
  have step:∀ cm',Cell.skip cm (t.drop j)=Cell.skip cm' (t.drop (j + 1)) + 1→∃ m',m' < t.length - j∧(H'=H'∧∃ (j':Nat) (cm2:Bool) (v3:Option V),([some (.ref a),some (.int ((j:Int) + 1)),some (.bl cm'),some (.int (b.toNat:Int))]:St)=[some (.ref a),some (.int (j':Int)),some (.bl cm2),v3]∧m'=t.length - j'∧j'≤t.length∧p + Cell.skip false (t.drop p)=j' + Cell.skip cm2 (t.drop j')):=by
   intro cm' e
   exact ⟨t.length - (j + 1),by omega,rfl,j + 1,cm',_,rfl,rfl,by omega,by omega⟩
  rw [hd] at step
  refine ⟨_,rfl,rfl,_,rfl,ite2 (fun c1=>?_) (fun c1=>?_)⟩
  ·have e:b=10:=(byte_eq (n:=10) (by decide)).mp (by have:=of_decide_eq_true c1;injection this)
   refine ⟨_,rfl,_,_,rfl,rfl,step false ?_⟩
   rw [hr',Cell.skip,if_pos e]
  have n1:¬ b=10:=fun e=>c1 (decide_eq_true (by rw [(byte_eq (n:=10) (by decide)).mpr e];rfl))
  refine ⟨_,rfl,rfl,_,rfl,ite2 (fun c2=>?_) (fun c2=>?_)⟩
  ·have e:b=35:=(byte_eq (n:=35) (by decide)).mp (by have:=of_decide_eq_true c2;injection this)
   refine ⟨_,rfl,_,_,rfl,rfl,step true ?_⟩
   rw [hr',Cell.skip,if_neg n1,if_pos e]
  have n2:¬ b=35:=fun e=>c2 (decide_eq_true (by rw [(byte_eq (n:=35) (by decide)).mpr e];rfl))
  refine ⟨_,rfl,rfl,_,rfl,ite2 (fun c3=>?_) (fun c3=>?_)⟩
  ·have n3:b≠32:=fun e=>by
    have:(V.int (b.toNat:Int))=V.int 32:=by rw [(byte_eq (n:=32) (by decide)).mpr e];rfl
    rw [decide_eq_true this] at c3
    cases c3
   refine ⟨_,rfl,_,rfl,ite2 (fun c4=>?_) (fun c4=>?_)⟩
   ·have ecm:cm=false:=by simpa using c4
    refine ⟨_,rfl,?_⟩
    have:Cell.skip cm (t.drop j)=0:=by rw [hd,Cell.skip,if_neg n1,if_neg n2,if_pos ⟨n3,ecm⟩]
    rw [inv,this] at q
    exact q
   ·have ecm:cm=true:=by simpa using c4
    refine ⟨_,rfl,_,_,rfl,rfl,step cm ?_⟩
    rw [hr',Cell.skip,if_neg n1,if_neg n2,if_neg (fun z=>by rw [ecm] at z;exact absurd z.2 (by decide))]
  ·have e:b=32:=(byte_eq (n:=32) (by decide)).mp (by
    have:decide (V.int (b.toNat:Int)=V.int 32)=true:=by simpa using c3
    have:=of_decide_eq_true this
    injection this)
   refine ite2 (fun z=>?_) (fun _=>?_)
   ·exact absurd z (by decide)
   ·refine ⟨_,rfl,_,_,rfl,rfl,step cm ?_⟩
    rw [hr',Cell.skip,if_neg n1,if_neg n2,if_neg (fun z=>z.1 e)]
 ·have e:j=t.length:=by
   have:¬ ((j:Int) < ((vb t).length:Int)):=fun z=>c (decide_eq_true z)
   rw [vb_len] at this
   omega
  refine ⟨_,rfl,?_⟩
  have:Cell.skip cm (t.drop j)=0:=by rw [e,List.drop_length];rfl
  rw [inv,this] at q
  exact q
end
end Prg
end
section
set_option maxRecDepth 100000
set_option maxHeartbeats 4000000
namespace Prg
open PySem L2
open Vanbka (Bytes allowed)
theorem chainT{a b c:Int}{R:Bool→Prop}(q:R (decide (a≤b) && decide (b≤c))):if decide (a≤b)=true then (∃ i j,V.int b = .int i∧V.int c = .int j∧∃ k,V.bl (decide (i≤j)) = .bl k∧R k) else ∃ k,V.bl false = .bl k∧R k:=by
 by_cases h:a≤b
 ·rw [decide_eq_true h,Bool.true_and] at q
  rw [decide_eq_true h,if_pos rfl]
  exact ⟨_,_,rfl,rfl,_,rfl,q⟩
 ·rw [decide_eq_false h,Bool.false_and] at q
  rw [decide_eq_false h,if_neg Bool.false_ne_true]
  exact ⟨_,rfl,q⟩
section
variable{P:Program}{w:World}{K:PySem.W.Frag}{mg:Str→Option Value}{base:Heap}{f g CF fI CT:Addr}{fd gd fdI:FuncData}
def allowI(i:Int):Bool:=decide (i=10) || (decide (32≤i) && decide (i≤126))
theorem allow_byte(c:UInt8):allowI (c.toNat:Int)=allowed c:=by
 unfold allowI allowed
 have h1:decide ((c.toNat:Int)=10)=(c == 10):=by
  by_cases h:c=10
  ·subst h;decide
  ·have hne:¬ ((c.toNat:Int)=10):=fun e=>h ((byte_eq (n:=10) (by decide)).mp e)
   rw [decide_eq_false hne]
   exact (beq_eq_false_iff_ne.mpr h).symm
 have h2:decide ((32:Int)≤(c.toNat:Int))=decide ((32:UInt8)≤c):=by
  apply decide_eq_decide.mpr
  rw [UInt8.le_iff_toNat_le]
  show (32:Int)≤_↔32≤c.toNat
  omega
 have h3:decide ((c.toNat:Int)≤126)=decide (c≤(126:UInt8)):=by
  apply decide_eq_decide.mpr
  rw [UInt8.le_iff_toNat_le]
  show _≤(126:Int)↔c.toNat≤126
  omega
 rw [h1,h2,h3]
theorem find_bad{t:Bytes}{i:Nat}{c:UInt8}(h:∀ b∈t.take i,allowed b=true)(e:t[i]? = some c)(n:allowed c=false):t.findIdx? (fun c => !allowed c)=some i:=by
 obtain ⟨hi,ec⟩:=List.getElem?_eq_some_iff.mp e
 rw [List.findIdx?_eq_some_iff_getElem]
 refine ⟨hi,by rw [ec,n];rfl,fun j hj=>?_⟩
 have:t[j]∈t.take i:=by
  rw [List.mem_take_iff_getElem]
  exact ⟨j,by omega,rfl⟩
 rw [h _ this]
 simp
theorem find_none{t:Bytes}(h:∀ b∈t,allowed b=true):t.findIdx? (fun c => !allowed c)=none:=by
 rw [List.findIdx?_eq_none_iff]
 intro b hb
 rw [h b hb];rfl
def spBytes(K:PySem.W.Frag)(CF:Addr):Sp:=fun vs H Q E=>∃ (a:Addr) (t:Bytes),vs=[.ref a]∧SqL K H a (vb t)∧match t.findIdx? (fun c => !allowed c) with
 | some p=>Err CF E 1 (p:Int)
 | none=>∀ H',Same H H'→Q .non H'
theorem scBytes:FnScope ["text", "place", "byte"] ["text"] (defScope sCheckBytes):=⟨rfl,rfl,rfl,by decide +kernel,rfl,by decide +kernel,by decide +kernel⟩
theorem same_new{H:Hp}{p:Addr}(h:H p=none)(o:HO):Same H (upd H p o):=fun b u q=>by rw [upd_ne (ne_of_none q h)];exact q
theorem ok_bytes(F:Fun K "check_bytes" "check_bytes" sCheckBytes f fd)(T:FaultAt K mg CF fI fdI)(me:mg "enumerate"=none)(c1:CI mg "LINE_FEED" 10)(c2:CI mg "BLANK" 32)(c3:CI mg "LAST_ALLOWED" 126)(c4:CI mg "FORBIDDEN_BYTE" 1) :
  FnOk P w K mg base (CXF P w) 3 f fd ["text"] (spBytes K CF):=by
 refine F.okF (k:=2) scBytes (fun vs H Q E h=>?_) (fun cdv A outer s H vs Q E hr h=>?_)
 ·obtain ⟨a,t,rfl,_⟩:=h
  rfl
 obtain ⟨a,t,rfl,hS,q⟩:=h
 have nd:=scBytes.nd
 refine ⟨_,pss_one (ps_for ownF rfl (pi_enum rfl me (pa_cons (pv 0) pa_nil)) (pg_tup rfl (pgs_cons (pg_name (i:=1) nd rfl (Or.inl rfl)) (pgs_cons (pg_name (i:=2) nd rfl (Or.inl rfl)) pgs_nil)))
  (pss_one (ps_if (PW.pt (pw_and (pt_cmpR op_ne (pv 2) (pe_ci c1 rfl) (nomark _)) (pw_and1 (pt_not (pt_chain op_le op_le (pe_ci c2 rfl) (pv 2) (pe_ci c3 rfl)))))) (pss_one (ps_fault T hr rfl (pa_cons (pe_ci c4 rfl) (pa_cons (pv 1) pa_nil)))) pss_nil))),?_⟩
 refine ⟨_,rfl,a,_,rfl,hS,fun i m σ H'=>m=t.length - i∧i≤t.length∧Same H H'∧(∃ v1 v2,σ=[some (.ref a),v1,v2])∧∀ b∈t.take i,allowed b=true,⟨_,rfl,Nat.zero_le _,Same.refl H,⟨none,none,rfl⟩,fun b hb=>by simp at hb⟩,?_⟩
 rintro i m σ H' ⟨rfl,hi,sm,⟨v1,v2,rfl⟩,al⟩
 have hS':=sm.seq hS
 by_cases hlt:i < t.length
 ·obtain ⟨c,r,hd,hc,_⟩:=drop_get hlt
  have hx:(vb t)[i]? = some (.int (c.toNat:Int)):=by unfold vb;rw [List.getElem?_map,hc];rfl
  refine .inr ⟨⟨_,_,hS',hx⟩,fun σ' H2=>∃ m',m' < t.length - i∧(m'=t.length - (i + 1)∧i + 1≤t.length∧Same H H2∧(∃ v1 v2,σ'=[some (.ref a),v1,v2])∧∀ b∈t.take (i + 1),allowed b=true),fun _ _ z=>z,?_⟩
  rintro x H2 ⟨Tp,y,rfl,hT,rfl,hy⟩
  have ey:=hy _ hS'
  rw [hx] at ey
  cases ey
  refine ⟨Tp,_,rfl,SqT.of upd_same,rfl,_,_,rfl,_,_,rfl,rfl,?_⟩
  have sm2:Same H (upd H' Tp (.tup [.int (i:Nat),.int (c.toNat:Int)])):=sm.trans (same_new hT _)
  have good:allowed c=true→∃ m',m' < t.length - i∧(m'=t.length - (i + 1)∧i + 1≤t.length∧Same H (upd H' Tp (.tup [.int (i:Nat),.int (c.toNat:Int)]))∧(∃ v1 v2,([some (.ref a),some (.int (i:Nat)),some (.int (c.toNat:Int))]:St)=[some (.ref a),v1,v2])∧∀ b∈t.take (i + 1),allowed b=true):=fun hac =>
   ⟨_,by omega,rfl,hlt,sm2,⟨_,_,rfl⟩,fun b hb=>by
    rw [List.take_add_one,hc] at hb
    rcases List.mem_append.mp hb with z | z
    ·exact al b z
    ·have:b=c:=by simpa using z
     rw [this];exact hac⟩
  refine ⟨_,rfl,rfl,_,rfl,ite2 (fun k1=>?_) (fun k1=>?_)⟩
  ·have n1:¬ (c.toNat:Int)=10:=fun e=>by
    rw [e] at k1
    exact absurd k1 (by decide)
   refine ⟨_,rfl,_,_,rfl,rfl,_,rfl,chainT (ite2 (fun k2=>?_) (fun k2=>?_))⟩
   ·have bad:allowed c=false:=by
     rw [← allow_byte]
     unfold allowI
     rw [decide_eq_false n1,Bool.false_or]
     exact (Bool.not_eq_true' _).mp k2
    rw [find_bad al hc bad] at q
    exact ⟨_,rfl,raise_says q⟩
   ·refine good ?_
    rw [← allow_byte]
    unfold allowI
    rw [decide_eq_false n1,Bool.false_or]
    simpa using k2
  ·have e:(c.toNat:Int)=10:=by
    have:decide (V.int (c.toNat:Int)=V.int 10)=true:=by simpa using k1
    have:=of_decide_eq_true this
    injection this
   refine ite2 (fun z=>?_) (fun _=>?_)
   ·exact absurd z (by decide)
   ·refine good ?_
    rw [← allow_byte]
    unfold allowI
    rw [decide_eq_true e,Bool.true_or]
 ·have e:i=t.length:=by omega
  subst e
  rw [List.take_length] at al
  rw [find_none al] at q
  exact .inl ⟨⟨_,hS',by rw [vb_len];exact Nat.le_refl _⟩,q H' sm⟩
end
end Prg
end
section
set_option maxRecDepth 100000
set_option maxHeartbeats 4000000
namespace Prg
open PySem L2
open Vanbka (Bytes Lex reserved lexAt digit letter wordByte natOf)
def strOf(x:Bytes):Str:=⟨(x.map (·.toNat)).toArray⟩
def kindS:Lex→Str
 | .word x=>if reserved.contains x then strOf x else "NAME"
 | .num _ => "NUMBER"
 | .quoted _ => "QUOTED"
 | .sign x=>if x == [37] then "percent" else strOf x
def ValIs(H:Hp):Lex→V→Prop
 | .word x,v=>if reserved.contains x then v = .non else ∃ a,v = .ref a∧H a=some (.lst (vb x))
 | .num n,v=>v = .int n
 | .quoted x,v=>∃ a,v = .ref a∧H a=some (.lst (vb x))
 | .sign _,v=>v = .non
theorem ValIs.lists{H H':Hp}(s:∀ a us,H a=some (.lst us)→H' a=some (.lst us)){l:Lex}{v:V}(h:ValIs H l v):ValIs H' l v:=by
 cases l with
 | word x =>
  have h:if reserved.contains x then v = .non else ∃ a,v = .ref a∧H a=some (.lst (vb x)):=h
  show if reserved.contains x then v = .non else ∃ a,v = .ref a∧H' a=some (.lst (vb x))
  by_cases c:reserved.contains x=true
  ·rw [if_pos c] at h ⊢;exact h
  ·rw [if_neg c] at h ⊢
   obtain ⟨a,e,q⟩:=h
   exact ⟨a,e,s _ _ q⟩
 | num n=>exact h
 | quoted x =>
  obtain ⟨a,e,q⟩:=h
  exact ⟨a,e,s _ _ q⟩
 | sign x=>exact h
theorem ValIs.same{H H':Hp}(s:Same H H'){l:Lex}{v:V}(h:ValIs H l v):ValIs H' l v:=h.lists fun _ _ q=>s _ _ q
abbrev tokF(k:Str)(p e:Int)(v:V):List (Str×V):=[("kind",.str k),("place",.int p),("end",.int e),("value",v)]
def TokAt(CT:Addr)(H:Hp)(x:Addr)(t:Vanbka.Tok):Prop:=∃ dx v,H x=some (.ins CT dx (tokF (kindS t.lex) t.place ((t.place + t.len:Nat):Int) v))∧ValIs H t.lex v
theorem TokAt.same{CT:Addr}{H H':Hp}(s:Same H H'){x:Addr}{t:Vanbka.Tok}(h:TokAt CT H x t):TokAt CT H' x t:=by
 obtain ⟨dx,v,e,q⟩:=h
 exact ⟨dx,v,s _ _ e,q.same s⟩
abbrev noH:Hp:=fun _=>none
def Cut(T H H':Hp):Hp:=fun b=>match T b with
 | some o=>some o
 | none=>match H b with
  | none=>H' b
  | some _=>none
theorem cut_new{T H H':Hp}{b:Addr}{o:HO}(t:T b=none)(h:H b=none)(e:H' b=some o):Cut T H H' b=some o:=by
 unfold Cut;rw [t,h];exact e
theorem cut_old{T H H':Hp}{b:Addr}{o:HO}(t:T b=some o):Cut T H H' b=some o:=by
 unfold Cut;rw [t]
theorem cut_cases{T H H':Hp}{b:Addr}{o:HO}(h:Cut T H H' b=some o):T b=some o∨(T b=none∧H b=none∧H' b=some o):=by
 unfold Cut at h
 cases ht:T b with
 | some u=>rw [ht] at h;exact .inl h
 | none =>
  rw [ht] at h
  cases hh:H b with
  | none=>rw [hh] at h;exact .inr ⟨rfl,rfl,h⟩
  | some u=>rw [hh] at h;cases h
theorem none_of_same{H H1:Hp}{x:Addr}(s:Same H H1)(n:H1 x=none):H x=none:=by
 cases e:H x with
 | none=>rfl
 | some o=>rw [s _ _ e] at n;cases n
section
variable{P:Program}{w:World}{K:PySem.W.Frag}{mg:Str→Option Value}{base:Heap}{f g CF fI CT tI:Addr}{fd gd fdI tdI:FuncData}
def But(x:Addr)(H H':Hp):Prop:=∀ b o,H b=some o→b≠x→H' b=some o
theorem But.same{x dx C:Addr}{H H1:Hp}(nx:H x=none)(nd:H dx=none)(k:But x (upd (upd H dx (.own x)) x (.ins C dx [])) H1):Same H H1:=Same.made nx nd k
def spTI(CT:Addr):Sp:=fun vs H Q _=>∃ x dx k p e v,vs=[.ref x,.str k,.int p,.int e,v]∧H x=some (.ins CT dx [])∧∀ H',But x H H'→H' x=some (.ins CT dx (tokF k p e v))→Q .non H'
theorem scTI:FnScope ["self", "kind", "place", "end", "value"] ["self", "kind", "place", "end", "value"] (defScope sTokenInit):=⟨rfl,rfl,rfl,by decide +kernel,rfl,by decide +kernel,by decide +kernel⟩
structure ClsAt(K:PySem.W.Frag)(mg:Str→Option Value)(x:Str)(C:Addr)(flds:List Str):Prop where
 cl:Cls K C
 no:∀ f∈flds,NoAttr K C f
 m:mg x=some (.ref C)
structure TokenAt(K:PySem.W.Frag)(mg:Str→Option Value)(CT tI:Addr)(tdI:FuncData):Prop where
 c:ClsAt K mg "Token" CT ["kind", "place", "end", "value"]
 make:Mk K CT tI
 F:Fun K "__init__" "Token.__init__" sTokenInit tI tdI
 b:Binds K tdI ["self", "kind", "place", "end", "value"] []
theorem ok_TI(T:TokenAt K mg CT tI tdI):FnOk P w K mg base (CXF P w) 1 tI tdI ["self", "kind", "place", "end", "value"] (spTI CT):=by
 refine T.F.okF (k:=0) scTI (fun vs H Q E h=>?_) (fun cdv A outer s H vs Q E hr h=>?_)
 ·obtain ⟨x,dx,k,p,e,v,rfl,_⟩:=h
  rfl
 obtain ⟨x,dx,k,p,e,v,rfl,hx,q⟩:=h
 refine ⟨_,pss_cons (ps_fld (pv 0) (pv 1) rfl) (pss_cons (ps_fld (pv 0) (pv 2) rfl) (pss_cons (ps_fld (pv 0) (pv 3) rfl) (pss_one (ps_fld (pv 0) (pv 4) rfl)))),?_⟩
 refine ⟨_,rfl,_,rfl,x,CT,dx,_,rfl,hx,T.c.cl,T.c.no _ (.head _),(by show 0 < 1000;decide),?_⟩
 refine ⟨_,rfl,_,rfl,x,CT,dx,_,rfl,upd_same,T.c.cl,T.c.no _ (.tail _ (.head _)),(by show 1 < 1000;decide),?_⟩
 refine ⟨_,rfl,_,rfl,x,CT,dx,_,rfl,upd_same,T.c.cl,T.c.no _ (.tail _ (.tail _ (.head _))),(by show 2 < 1000;decide),?_⟩
 refine ⟨_,rfl,_,rfl,x,CT,dx,_,rfl,upd_same,T.c.cl,T.c.no _ (.tail _ (.tail _ (.tail _ (.head _)))),(by show 3 < 1000;decide),?_⟩
 exact q _ (fun b o hb ne=>by rw [upd_ne ne,upd_ne ne,upd_ne ne,upd_ne ne];exact hb) upd_same
def spCut(K:PySem.W.Frag)(CF CT:Addr)(G:UInt8→Prop):Sp:=fun vs H Q E=>∃ (a:Addr) (t r:Bytes) (q:Nat) (c:UInt8),vs=[.ref a,.int q]∧SqL K H a (vb t)∧t.length≤900000∧t.drop q=c::r∧G c∧match lexAt (t.drop q) with
 | some (l,k)=>∀ x H',Same H H'→TokAt CT (Cut noH H H') x { lex:=l,place:=q,len:=k }→Q (.ref x) H'
 | none=>Err CF E 2 (q:Int)
theorem digit_byte(c:UInt8):(decide (48≤(c.toNat:Int)) && decide ((c.toNat:Int)≤57))=digit c:=by
 unfold digit
 have h2:decide ((48:Int)≤(c.toNat:Int))=decide ((48:UInt8)≤c):=by
  apply decide_eq_decide.mpr
  rw [UInt8.le_iff_toNat_le]
  show (48:Int)≤_↔48≤c.toNat
  omega
 have h3:decide ((c.toNat:Int)≤57)=decide (c≤(57:UInt8)):=by
  apply decide_eq_decide.mpr
  rw [UInt8.le_iff_toNat_le]
  show _≤(57:Int)↔c.toNat≤57
  omega
 rw [h2,h3]
theorem digit_letter{c:UInt8}(hc:digit c=true):letter c=false:=by
 unfold digit at hc
 unfold letter
 simp only [Bool.and_eq_true,decide_eq_true_eq,UInt8.le_iff_toNat_le] at hc
 simp only [Bool.or_eq_false_iff,Bool.and_eq_false_iff,decide_eq_false_iff_not,UInt8.le_iff_toNat_le,beq_eq_false_iff_ne]
 obtain ⟨h1,h2⟩:=hc
 have h2:c.toNat≤57:=h2
 refine ⟨⟨.inl ?_,.inl ?_⟩,fun e=>?_⟩
 ·show ¬ 65≤c.toNat
  omega
 ·show ¬ 97≤c.toNat
  omega
 ·subst e
  exact absurd h2 (by decide)
theorem tw_end{p:UInt8→Bool}{u:Bytes}{j:Nat}(h:∀ b∈u.take j,p b=true)(e:j=u.length∨∃ c,u[j]? = some c∧p c=false):u.takeWhile p=u.take j:=by
 induction u generalizing j with
 | nil=>simp
 | cons b u ih =>
  cases j with
  | zero =>
   rcases e with e | ⟨c,e1,e2⟩
   ·simp at e
   ·have:b=c:=by simpa using e1
    subst this
    rw [List.takeWhile_cons,e2]
    simp
  | succ j =>
   have hb:p b=true:=h b (by simp)
   rw [List.takeWhile_cons,hb,if_pos rfl,List.take_succ_cons,ih (fun c hc=>h c (by rw [List.take_succ_cons];exact List.mem_cons_of_mem _ hc))]
   rcases e with e | ⟨c,e1,e2⟩
   ·left;simpa using e
   ·right;exact ⟨c,by simpa using e1,e2⟩
theorem take_snoc{u:Bytes}{j:Nat}{c:UInt8}(h:u[j]? = some c):u.take (j + 1)=u.take j ++ [c]:=by
 rw [List.take_add_one,h];rfl
theorem natOf_snoc(u:Bytes)(c:UInt8):natOf (u ++ [c])=10 * natOf u + (c.toNat - 48):=by
 unfold natOf
 rw [List.foldl_append]
 rfl
theorem drop_at{t:Bytes}{q j:Nat}:(t.drop q)[j]? = t[q + j]? := by rw [List.getElem?_drop]
theorem scNum:FnScope ["text", "place", "end", "value", "size"] ["text", "place"] (defScope sCutNumber):=⟨rfl,rfl,rfl,by decide +kernel,rfl,by decide +kernel,by decide +kernel⟩
theorem ok_num(F:Fun K "cut_number" "cut_number" sCutNumber f fd)(T:FaultAt K mg CF fI fdI)(U:TokenAt K mg CT tI tdI)(G:FnOk P w K mg base (CXF P w) 1 g gd ["byte"] spDigit)(bG:Binds K gd ["byte"] [])(kG:PySem.W.keepIn K (.ref g)=true)
  (mG:mg "is_digit"=some (.ref g)) (ml:mg "len"=none) (c1:CI mg "ZERO" 48) (c2:CI mg "LONGEST_NUMBER" 30) (c3:CI mg "WRONG_TOKEN" 2):FnOk P w K mg base (CXF P w) 3 f fd ["text", "place"] (spCut K CF CT fun c=>digit c=true):=by
 refine F.okF (k:=2) scNum (fun vs H Q E h=>?_) (fun cdv A outer s H vs Q E hr h=>?_)
 ·obtain ⟨a,t,r,q,c,rfl,_⟩:=h
  rfl
 obtain ⟨a,t,r,q,c,rfl,hS,hlen,hd,hc,k⟩:=h
 have nd:=scNum.nd
 refine ⟨_,pss_cons (ps_set (i:=2) nd rfl (Or.inl rfl) (pv 1)) (pss_cons (ps_set (i:=3) nd rfl (Or.inl rfl) pe_int)
  (pss_cons (ps_while ownF (PW.pt (pw_and (pt_cmpR op_lt (pv 2) (pe_callB call_len_seq rfl ml PySem.boot_len (pa_cons (pv 0) pa_nil)) (nomark _))
    (pw_and1 (pt_val (pe_call G (hr.mono (by decide)) rfl mG kG bG .nil passF (pa_cons (pe_ix ix_list (pv 0) (pv 2) (fun _ _=>rfl)) pa_nil))))))
   (pss_cons (ps_set (i:=3) nd rfl (Or.inl rfl) (pe_op op_sub (pe_op op_add (pe_op op_mul (pv 3) pe_int) (pe_ix ix_list (pv 0) (pv 2) (fun _ _=>rfl))) (pe_ci c1 rfl)))
    (pss_one (ps_aug (i:=2) nd rfl (Or.inl rfl) pe_int ip_add))))
  (pss_cons (ps_set (i:=4) nd rfl (Or.inl rfl) (pe_op op_sub (pv 2) (pv 1)))
  (pss_cons (ps_if (PW.pt (pw_or (pt_cmpR op_gt (pv 4) (pe_ci c2 rfl) (nomark _)) (pw_or1 (PW.pt (pw_and (pt_cmpR op_gt (pv 4) pe_int (nomark _)) (pw_and1 (pt_cmpR op_eq (pe_ix ix_list (pv 0) (pv 1) (fun _ _=>rfl)) (pe_ci c1 rfl) (nomark _))))))))
    (pss_one (ps_fault T hr rfl (pa_cons (pe_ci c3 rfl) (pa_cons (pv 1) pa_nil)))) pss_nil)
  (pss_one (ps_ret (pe_make U.make (ok_TI U) hr rfl U.c.m U.b .nil passF (pa_cons pe_str (pa_cons (pv 1) (pa_cons (pv 2) (pa_cons (pv 3) pa_nil)))))))))))
  ,?_⟩
 have hq:q < t.length:=(Cell.drop_one hd).2
 have lenu:(t.drop q).length=t.length - q:=List.length_drop
 refine ⟨_,rfl,?_⟩
 refine ⟨fun m σ H'=>H'=H∧∃ (j:Nat) (v4:Option V),σ=[some (.ref a),some (.int (q:Int)),some (.int ((q + j:Nat):Int)),some (.int (natOf ((t.drop q).take j):Int)),v4]∧m=t.length - (q + j)∧q + j≤t.length∧∀ b∈(t.drop q).take j,digit b=true,
  ⟨_,rfl,0,none,rfl,rfl,by omega,fun b hb=>by simp at hb⟩,?_⟩
 rintro m σ H' ⟨rfl,j,v4,rfl,rfl,hj,al⟩
 refine (fun (fin:(j=(t.drop q).length∨∃ c,(t.drop q)[j]? = some c∧digit c=false)→?A)=>?main) ?fin
 case main =>
  refine ⟨_,rfl,_,rfl,a,_,rfl,.inl hS,_,_,rfl,rfl,_,rfl,ite2 (fun c1=>?_) (fun c1=>?_)⟩
  ·have hlt:q + j < t.length:=by
    have:=of_decide_eq_true c1
    rw [vb_len] at this
    omega
   obtain ⟨b,r2,hd2,hb,_⟩:=drop_get hlt
   refine ⟨_,rfl,_,rfl,a,_,_,_,rfl,rfl,hS,vb_get hb,_,rfl,_,rfl,ite2 (fun c2=>?_) (fun c2=>?_)⟩
   ·rw [digit_byte] at c2
    have d2:=c2
    unfold digit at d2
    refine ⟨fun σ' H2=>∃ m',m' < t.length - (q + j)∧(H2=H'∧∃ (j:Nat) (v4:Option V),σ'=[some (.ref a),some (.int (q:Int)),some (.int ((q + j:Nat):Int)),some (.int (natOf ((t.drop q).take j):Int)),v4]∧m'=t.length - (q + j)∧q + j≤t.length∧∀ b∈(t.drop q).take j,digit b=true),fun _ _ z=>z,?_⟩
    refine ⟨_,rfl,_,_,rfl,rfl,.inr ⟨by decide,by decide⟩,_,rfl,_,rfl,a,_,_,_,rfl,rfl,hS,vb_get hb,_,_,rfl,rfl,_,_,rfl,rfl,?_⟩
    have e1:(t.drop q)[j]? = some b:=by rw [drop_at];exact hb
    have ge:48≤b.toNat:=by
     have:=digit_byte b
     rw [c2] at this
     have:=(Bool.and_eq_true_iff.mp this).1
     have:=of_decide_eq_true this
     omega
    refine ⟨_,rfl,_,_,rfl,rfl,t.length - (q + (j + 1)),by omega,rfl,j + 1,v4,?_,rfl,by omega,fun z hz=>?_⟩
    ·have e2:(natOf ((t.drop q).take (j + 1)):Int)=(natOf ((t.drop q).take j):Int) * 10 + (b.toNat:Int) - 48:=by
      rw [take_snoc e1,natOf_snoc]
      omega
     rw [e2]
     rfl
    ·rw [take_snoc e1] at hz
     rcases List.mem_append.mp hz with y | y
     ·exact al z y
     ·have:z=b:=by simpa using y
      rw [this];exact c2
   ·refine fin (.inr ⟨b,by rw [drop_at];exact hb,?_⟩)
    rw [← digit_byte]
    exact Bool.eq_false_iff.mpr c2
  ·refine fin (.inl ?_)
   have:¬ (((q + j:Nat):Int) < ((vb t).length:Int)):=fun z=>c1 (decide_eq_true z)
   rw [vb_len] at this
   omega
 case fin =>
  intro e
  have tw:=tw_end al e
  have jl:((t.drop q).takeWhile digit).length=j:=by rw [tw,List.length_take,lenu];omega
  have lx:lexAt (t.drop q)=if ((t.drop q).takeWhile digit).length≤30 && (((t.drop q).takeWhile digit).length == 1 || c != 48) then some (.num (natOf ((t.drop q).takeWhile digit)),((t.drop q).takeWhile digit).length) else none:=by
   rw [hd]
   show (if letter c then _ else if digit c then _ else _)=_
   rw [digit_letter hc,hc]
   rfl
  rw [lx,jl,tw] at k
  have j1:1≤j:=by
   rw [hd,List.takeWhile_cons,hc,if_pos rfl,List.length_cons] at jl
   omega
  have sz:((q + j:Nat):Int) - (q:Int)=(j:Int):=by omega
  have raise:(decide (j≤30) && (j == 1 || c != 48))=false→Err CF E 2 (q:Int):=fun z=>by
   rw [z] at k
   exact k
  have token:(decide (j≤30) && (j == 1 || c != 48))=true→∀ x H2,Same H' H2→TokAt CT (Cut noH H' H2) x { lex:=.num (natOf ((t.drop q).take j)),place:=q,len:=j }→Q (.ref x) H2:=fun z=>by
   rw [z] at k
   exact k
  have give:(decide (j≤30) && (j == 1 || c != 48))=true→∀ x dx,H' x=none→H' dx=none→dx≠x→
    spTI CT [.ref x,.str "NUMBER",.int (q:Int),.int ((q + j:Nat):Int),.int (natOf ((t.drop q).take j):Int)] (upd (upd H' dx (.own x)) x (.ins CT dx [])) (fun v H2=>v = .non∧Q (.ref x) H2) E:=fun z x dx nx ndx ne =>
   ⟨x,dx,_,_,_,_,rfl,upd_same,fun H2 b e=>⟨rfl,token z x H2 (But.same nx ndx b) ⟨dx,_,cut_new rfl nx e,rfl⟩⟩⟩
  refine ⟨_,rfl,_,rfl,_,_,rfl,rfl,?_⟩
  refine ⟨_,rfl,_,_,rfl,rfl,_,rfl,ite2 (fun k1=>?_) (fun k1=>?_)⟩
  ·have:¬ j≤30:=by
    have:=of_decide_eq_true k1
    omega
   exact ⟨_,rfl,raise_says (raise (by rw [decide_eq_false this];rfl))⟩
  have j30:j≤30:=by
   have:¬ ((30:Int) < ((q + j:Nat):Int) - (q:Int)):=fun z=>k1 (decide_eq_true z)
   omega
  refine ⟨_,rfl,_,_,rfl,rfl,_,rfl,ite2 (fun k2=>?_) (fun k2=>?_)⟩
  ·have j2:1 < j:=by
    have:=of_decide_eq_true k2
    omega
   have n1:(j == 1)=false:=by simpa using (show j≠1 by omega)
   refine ⟨_,rfl,_,rfl,a,_,_,_,rfl,rfl,hS,vb_get (get_drop hd),rfl,_,rfl,ite2 (fun k3=>?_) (fun k3=>?_)⟩
   ·have e48:c=48:=(byte_eq (n:=48) (by decide)).mp (by have:=of_decide_eq_true k3;injection this)
    refine ⟨_,rfl,raise_says (raise ?_)⟩
    rw [n1,e48]
    simp
   ·have n48:c≠48:=fun e=>k3 (decide_eq_true (by rw [(byte_eq (n:=48) (by decide)).mpr e];rfl))
    refine ⟨_,rfl,_,rfl,_,rfl,give ?_⟩
    rw [decide_eq_true j30]
    simpa using Or.inr n48
  ·have e1:j=1:=by
    have:¬ ((1:Int) < ((q + j:Nat):Int) - (q:Int)):=fun z=>k2 (decide_eq_true z)
    omega
   refine ite2 (fun z=>absurd z (by decide)) (fun _=>?_)
   refine ⟨_,rfl,_,rfl,_,rfl,give ?_⟩
   rw [decide_eq_true j30,e1]
   simp
end
end Prg
end
section
set_option maxRecDepth 100000
set_option maxHeartbeats 4000000
namespace Prg
open PySem L2
open Vanbka (Bytes Lex reserved lexAt digit letter wordByte natOf)
def CS(mg:Str→Option Value)(x:Str)(z:Str):Prop:=∃ t,mg x=some (.str z t)
theorem pe_cs{X:Cx}{x z:Str}{pos:Pos}(c:CS X.mg x z)(hg:Gl X x)(hd:(x == ("__debug__":Str))=false:=by decide):PE X (.Name x pos) (tC (.str z)):=by
 obtain ⟨t,h⟩:=c
 exact pe_glob hg h ⟨t,rfl⟩ hd
theorem pe_cr{X:Cx}{x:Str}{a:Addr}{pos:Pos}(c:X.mg x=some (.ref a))(hg:Gl X x)(hd:(x == ("__debug__":Str))=false:=by decide):PE X (.Name x pos) (tC (.ref a)):=pe_glob hg c rfl hd
theorem ip_add_str{X:Cx}:PIp X .Add (fun x y H Q=>∃ i j,x = .str i∧y = .str j∧i.length + j.length≤sizeLine∧Q (.str (i ++ j)) H):=iop_add_str
theorem strOf_nil:strOf [] = "":=rfl
theorem strOf_snoc(u:Bytes)(c:UInt8):strOf (u ++ [c])=strOf u ++ (⟨#[c.toNat]⟩:Str):=by
 show (⟨((u ++ [c]).map (·.toNat)).toArray⟩:Str)=Str.append ⟨(u.map (·.toNat)).toArray⟩ ⟨#[c.toNat]⟩
 unfold Str.append
 simp
theorem strOf_len(u:Bytes):(strOf u).length=u.length:=by
 show ((u.map (·.toNat)).toArray).size=_
 simp
theorem strOf_inj{u v:Bytes}(h:strOf u=strOf v):u=v:=by
 have e:(u.map (·.toNat)).toArray=(v.map (·.toNat)).toArray:=Str.mk.inj h
 have e:u.map (·.toNat)=v.map (·.toNat):=by simpa using e
 exact (List.map_inj_right (fun a b q=>UInt8.toNat_inj.mp q)).mp e
def lower(c:UInt8):Bool:=decide (97≤c.toNat) && decide (c.toNat≤122)
def spell(u:Bytes):Str:=if u.all lower then strOf u else ""
def letters:Str := "abcdefghijklmnopqrstuvwxyz"
theorem letters_at:∀ n:Nat,n < 26→letters.cps.toList[n]? = some (97 + n):=by decide
section
variable{P:Program}{w:World}{K:PySem.W.Frag}{mg:Str→Option Value}{base:Heap}{f g CF fI CT tI:Addr}{fd gd fdI tdI:FuncData}
def spSpell(K:PySem.W.Frag):Sp:=fun vs H Q _=>∃ (a:Addr) (u:Bytes),vs=[.ref a]∧SqL K H a (vb u)∧u.length≤900000∧Q (.str (spell u)) H
theorem scSpell:FnScope ["word", "spelled", "byte", "at"] ["word"] (defScope sSpellLower):=⟨rfl,rfl,rfl,by decide +kernel,rfl,by decide +kernel,by decide +kernel⟩
theorem ok_spell(F:Fun K "spell_lower" "spell_lower" sSpellLower f fd)(ml:mg "len"=none)(c1:CI mg "LOWER_A" 97)(c2:CS mg "LOWER_LETTERS" letters):FnOk P w K mg base (CXF P w) 1 f fd ["word"] (spSpell K):=by
 refine F.okF (k:=0) scSpell (fun vs H Q E h=>?_) (fun cdv A outer s H vs Q E hr h=>?_)
 ·obtain ⟨a,u,rfl,_⟩:=h
  rfl
 obtain ⟨a,u,rfl,hS,hu,q⟩:=h
 have nd:=scSpell.nd
 refine ⟨_,pss_cons (ps_set (i:=1) nd rfl (Or.inl rfl) pe_str)
  (pss_cons (ps_for ownF rfl (pi_list (pv 0)) (pg_name (i:=2) nd rfl (Or.inl rfl))
   (pss_cons (ps_set (i:=3) nd rfl (Or.inl rfl) (pe_op op_sub (pv 2) (pe_ci c1 rfl)))
   (pss_cons (ps_if (pt_not (pt_chain op_le op_lt pe_int (pv 3) (pe_callB call_len_str rfl ml PySem.boot_len (pa_cons (pe_cs c2 rfl) pa_nil)))) (pss_one (ps_ret pe_str)) pss_nil)
   (pss_one (ps_aug (i:=1) nd rfl (Or.inl rfl) (pe_ix ix_str (pe_cs c2 rfl) (pv 3) (fun _ _=>rfl)) ip_add_str)))))
  (pss_one (ps_ret (pv 1)))),?_⟩
 refine ⟨_,rfl,a,rfl,⟨_,hS⟩,fun i m σ H'=>H'=H∧m=u.length - i∧i≤u.length∧(∃ v2 v3,σ=[some (.ref a),some (.str (strOf (u.take i))),v2,v3])∧∀ b∈u.take i,lower b=true,⟨_,rfl,rfl,Nat.zero_le _,⟨none,none,rfl⟩,fun b hb=>by simp at hb⟩,?_⟩
 rintro i m σ H' ⟨rfl,rfl,hi,⟨v2,v3,rfl⟩,al⟩
 by_cases hlt:i < u.length
 ·obtain ⟨c,r,hd,hc,_⟩:=drop_get hlt
  have hx:(vb u)[i]? = some (.int (c.toNat:Int)):=by unfold vb;rw [List.getElem?_map,hc];rfl
  refine .inr ⟨⟨_,_,hS,hx⟩,fun σ' H2=>∃ m',m' < u.length - i∧(H2=H'∧m'=u.length - (i + 1)∧i + 1≤u.length∧(∃ v2 v3,σ'=[some (.ref a),some (.str (strOf (u.take (i + 1)))),v2,v3])∧∀ b∈u.take (i + 1),lower b=true),fun _ _ z=>z,?_⟩
  rintro x H2 ⟨rfl,hy⟩
  have ey:=hy _ hS
  rw [hx] at ey
  cases ey
  have l26:letters.length=26:=by decide
  have no:lower c=false→spell u = "":=fun z=>by
   unfold spell
   refine if_neg fun y=>?_
   have:=List.all_eq_true.mp y c (List.mem_of_getElem? hc)
   rw [z] at this
   cases this
  refine ⟨_,rfl,_,_,rfl,rfl,?_⟩
  refine ⟨_,rfl,_,_,rfl,rfl,_,rfl,ite2 (fun k1=>?_) (fun k1=>?_)⟩
  ·have g1:97≤c.toNat:=by have:=of_decide_eq_true k1;omega
   refine ⟨_,rfl,by decide,_,_,rfl,rfl,_,rfl,ite2 (fun k2=>?_) (fun k2=>?_)⟩
   ·have g2:¬ c.toNat≤122:=fun z=>by
     rw [l26,decide_eq_true (by omega)] at k2
     cases k2
    rw [no (by unfold lower;rw [decide_eq_false g2,Bool.and_false])] at q
    exact q
   ·have g2:c.toNat≤122:=by
     have k3:decide ((c.toNat:Int) - 97 < (letters.length:Int))=true:=by simpa using k2
     rw [l26] at k3
     have:=of_decide_eq_true k3
     omega
    have lc:lower c=true:=by unfold lower;rw [decide_eq_true g1,decide_eq_true g2];rfl
    have ec:((c.toNat:Int) - 97)=((c.toNat - 97:Nat):Int):=by omega
    have eat:atI letters.cps.toList ((c.toNat:Int) - 97)=some c.toNat:=by
     rw [ec]
     refine atI_nat ?_
     rw [letters_at _ (by omega)]
     congr 1
     omega
    refine ⟨_,rfl,_,rfl,_,_,_,rfl,rfl,by decide,eat,_,_,rfl,rfl,?_,u.length - (i + 1),by omega,rfl,rfl,by omega,⟨some (.int (c.toNat:Int)),some (.int ((c.toNat:Int) - 97)),?_⟩,fun b hb=>?_⟩
    ·rw [strOf_len,List.length_take]
     show min i u.length + 1≤2 ^ 24
     omega
    ·rw [take_snoc hc,strOf_snoc]
     rfl
    ·rw [take_snoc hc] at hb
     rcases List.mem_append.mp hb with y | y
     ·exact al b y
     ·have:b=c:=by simpa using y
      rw [this];exact lc
  ·have g1:¬ 97≤c.toNat:=fun z=>k1 (decide_eq_true (by omega))
   refine ⟨_,rfl,ite2 (fun _=>?_) (fun z=>absurd rfl z)⟩
   rw [no (by unfold lower;rw [decide_eq_false g1,Bool.false_and])] at q
   exact q
 ·have e:i=u.length:=by omega
  subst e
  rw [List.take_length] at al ⊢
  have:spell u=strOf u:=by unfold spell;rw [if_pos (List.all_eq_true.mpr al)]
  rw [this] at q
  exact .inl ⟨⟨_,hS,by rw [vb_len];exact Nat.le_refl _⟩,_,rfl,q⟩
end
end Prg
end
section
set_option maxRecDepth 100000
set_option maxHeartbeats 4000000
namespace Prg
open PySem L2
open Vanbka (Bytes Lex reserved lexAt digit letter wordByte natOf)
theorem word_byte(c:UInt8):wordI (c.toNat:Int)=wordByte c:=by
 unfold wordI wordByte letter
 rw [digit_byte]
 have h1:decide ((65:Int)≤(c.toNat:Int))=decide ((65:UInt8)≤c):=by
  apply decide_eq_decide.mpr;rw [UInt8.le_iff_toNat_le];show (65:Int)≤_↔65≤c.toNat;omega
 have h2:decide ((c.toNat:Int)≤90)=decide (c≤(90:UInt8)):=by
  apply decide_eq_decide.mpr;rw [UInt8.le_iff_toNat_le];show _≤(90:Int)↔c.toNat≤90;omega
 have h3:decide ((97:Int)≤(c.toNat:Int))=decide ((97:UInt8)≤c):=by
  apply decide_eq_decide.mpr;rw [UInt8.le_iff_toNat_le];show (97:Int)≤_↔97≤c.toNat;omega
 have h4:decide ((c.toNat:Int)≤122)=decide (c≤(122:UInt8)):=by
  apply decide_eq_decide.mpr;rw [UInt8.le_iff_toNat_le];show _≤(122:Int)↔c.toNat≤122;omega
 have h5:decide ((c.toNat:Int)=95)=(c == 95):=by
  by_cases h:c=95
  ·subst h;decide
  ·have hne:¬ ((c.toNat:Int)=95):=fun e=>h ((byte_eq (n:=95) (by decide)).mp e)
   rw [decide_eq_false hne]
   exact (beq_eq_false_iff_ne.mpr h).symm
 rw [h1,h2,h3,h4,h5]
 simp only [Bool.or_assoc]
def resV:List V:=reserved.map fun x=>V.str (strOf x)
theorem res_lower:∀ x∈reserved,x.all lower=true:=by decide +kernel
theorem res_some:∀ x∈reserved,x≠[]:=by decide +kernel
theorem res_flat:resV.all flatV=true:=by decide +kernel
theorem res_in(u:Bytes)(hu:u≠[]):inV (.str (spell u)) resV=reserved.contains u:=by
 have key:∀ l:List Bytes,(∀ x∈l,x.all lower=true)→(∀ x∈l,x≠[])→inV (.str (spell u)) (l.map fun x=>V.str (strOf x))=l.contains u:=by
  intro l
  induction l with
  | nil=>intros;rfl
  | cons x l ih =>
   intro h1 h2
   have i1:=ih (fun y hy=>h1 y (List.mem_cons_of_mem _ hy)) (fun y hy=>h2 y (List.mem_cons_of_mem _ hy))
   rw [List.contains_cons,← i1]
   show (strOf x == spell u || _)=_
   have:(strOf x == spell u)=(u == x):=by
    by_cases e:u=x
    ·subst e
     have:spell u=strOf u:=by unfold spell;rw [h1 u (.head _)];rfl
     rw [this];simp
    ·have ne:¬ strOf x=spell u:=fun z=>by
      unfold spell at z
      by_cases c:u.all lower=true
      ·rw [if_pos c] at z
       exact e (strOf_inj z).symm
      ·rw [if_neg c] at z
       exact h2 x (.head _) (strOf_inj (z.trans strOf_nil.symm))
     rw [beq_eq_false_iff_ne.mpr ne,beq_eq_false_iff_ne.mpr e]
   rw [this]
   rfl
 exact key reserved res_lower res_some
theorem res_spell{u:Bytes}(h:reserved.contains u=true):spell u=strOf u:=by
 have m:u∈reserved:=by simpa using h
 unfold spell
 rw [res_lower u m];rfl
def KTup(K:PySem.W.Frag)(mg:Str→Option Value)(x:Str)(vs:List V):Prop:=∃ a,mg x=some (.ref a)∧∀ H,SqT K H a vs
theorem cut_vb{t:Bytes}{q j:Nat}(h:q + j≤t.length):cutV (vb t) (some (q:Int)) (some ((q + j:Nat):Int))=vb ((t.drop q).take j):=by
 unfold cutV
 rw [HT.sIx_nat,HT.sIx_nat,vb_len,Nat.min_eq_left (show q≤t.length by omega),Nat.min_eq_left h]
 unfold vb
 rw [← List.map_drop,← List.map_take]
 congr 2
 omega
section
variable{P:Program}{w:World}{K:PySem.W.Frag}{mg:Str→Option Value}{base:Heap}{f g g2 CF fI CT tI:Addr}{fd gd gd2 fdI tdI:FuncData}
theorem scWord:FnScope ["text", "place", "end", "word", "spelled"] ["text", "place"] (defScope sCutWord):=⟨rfl,rfl,rfl,by decide +kernel,rfl,by decide +kernel,by decide +kernel⟩
theorem ok_word(F:Fun K "cut_word" "cut_word" sCutWord f fd)(T:FaultAt K mg CF fI fdI)(U:TokenAt K mg CT tI tdI)(G:FnOk P w K mg base (CXF P w) 2 g gd ["byte"] spWordB)(bG:Binds K gd ["byte"] [])(kG:PySem.W.keepIn K (.ref g)=true)
  (mG:mg "is_word_byte"=some (.ref g)) (S:FnOk P w K mg base (CXF P w) 1 g2 gd2 ["word"] (spSpell K)) (bS:Binds K gd2 ["word"] []) (kS:PySem.W.keepIn K (.ref g2)=true)
  (mS:mg "spell_lower"=some (.ref g2)) (ml:mg "len"=none) (R:KTup K mg "RESERVED" resV) (c2:CI mg "LONGEST_WORD" 16) (c3:CI mg "WRONG_TOKEN" 2):FnOk P w K mg base (CXF P w) 3 f fd ["text", "place"] (spCut K CF CT fun c=>letter c=true):=by
 refine F.okF (k:=2) scWord (fun vs H Q E h=>?_) (fun cdv A outer s H vs Q E hr h=>?_)
 ·obtain ⟨a,t,r,q,c,rfl,_⟩:=h
  rfl
 obtain ⟨a,t,r,q,c,rfl,hS,hlen,hd,hc,k⟩:=h
 obtain ⟨ra,mR,sR⟩:=R
 have nd:=scWord.nd
 refine ⟨_,pss_cons (ps_set (i:=2) nd rfl (Or.inl rfl) (pv 1))
  (pss_cons (ps_while ownF (PW.pt (pw_and (pt_cmpR op_lt (pv 2) (pe_callB call_len_seq rfl ml PySem.boot_len (pa_cons (pv 0) pa_nil)) (nomark _))
    (pw_and1 (pt_val (pe_call G hr rfl mG kG bG .nil passF (pa_cons (pe_ix ix_list (pv 0) (pv 2) (fun _ _=>rfl)) pa_nil))))))
   (pss_one (ps_aug (i:=2) nd rfl (Or.inl rfl) pe_int ip_add)))
  (pss_cons (ps_if (pt_cmpR op_gt (pe_op op_sub (pv 2) (pv 1)) (pe_ci c2 rfl) (nomark _))
    (pss_one (ps_fault T hr rfl (pa_cons (pe_ci c3 rfl) (pa_cons (pv 1) pa_nil)))) pss_nil)
  (pss_cons (ps_set (i:=3) nd rfl (Or.inl rfl) (pe_slice sl_list (pv 0) (po_some (pv 1)) (po_some (pv 2))))
  (pss_cons (ps_set (i:=4) nd rfl (Or.inl rfl) (pe_call S (hr.mono (by decide)) rfl mS kS bS .nil passF (pa_cons (pv 3) pa_nil)))
  (pss_cons (ps_if (pt_cmpR op_in_seq (pv 4) (pe_cr mR rfl) rfl)
   (pss_one (ps_ret (pe_make U.make (ok_TI U) hr rfl U.c.m U.b .nil passF (pa_cons (pv 4) (pa_cons (pv 1) (pa_cons (pv 2) (pa_cons pe_non pa_nil))))))) pss_nil)
  (pss_one (ps_ret (pe_make U.make (ok_TI U) hr rfl U.c.m U.b .nil passF (pa_cons pe_str (pa_cons (pv 1) (pa_cons (pv 2) (pa_cons (pv 3) pa_nil))))))))))))
  ,?_⟩
 have hq:q < t.length:=(Cell.drop_one hd).2
 have lenu:(t.drop q).length=t.length - q:=List.length_drop
 refine ⟨_,rfl,?_⟩
 refine ⟨fun m σ H'=>H'=H∧∃ (j:Nat),σ=[some (.ref a),some (.int (q:Int)),some (.int ((q + j:Nat):Int)),none,none]∧m=t.length - (q + j)∧q + j≤t.length∧∀ b∈(t.drop q).take j,wordByte b=true,
  ⟨_,rfl,0,rfl,rfl,by omega,fun b hb=>by simp at hb⟩,?_⟩
 rintro m σ H' ⟨rfl,j,rfl,rfl,hj,al⟩
 refine (fun (fin:(j=(t.drop q).length∨∃ c,(t.drop q)[j]? = some c∧wordByte c=false)→?A)=>?main) ?fin
 case main =>
  refine ⟨_,rfl,_,rfl,a,_,rfl,.inl hS,_,_,rfl,rfl,_,rfl,ite2 (fun c1=>?_) (fun c1=>?_)⟩
  ·have hlt:q + j < t.length:=by
    have:=of_decide_eq_true c1
    rw [vb_len] at this
    omega
   obtain ⟨b,r2,hd2,hb,_⟩:=drop_get hlt
   refine ⟨_,rfl,_,rfl,a,_,_,_,rfl,rfl,hS,vb_get hb,_,rfl,_,rfl,ite2 (fun c2=>?_) (fun c2=>?_)⟩
   ·rw [word_byte] at c2
    refine ⟨fun σ' H2=>∃ m',m' < t.length - (q + j)∧(H2=H'∧∃ (j:Nat),σ'=[some (.ref a),some (.int (q:Int)),some (.int ((q + j:Nat):Int)),none,none]∧m'=t.length - (q + j)∧q + j≤t.length∧∀ b∈(t.drop q).take j,wordByte b=true),fun _ _ z=>z,?_⟩
    have e1:(t.drop q)[j]? = some b:=by rw [drop_at];exact hb
    refine ⟨_,rfl,_,_,rfl,rfl,t.length - (q + (j + 1)),by omega,rfl,j + 1,rfl,rfl,by omega,fun z hz=>?_⟩
    rw [take_snoc e1] at hz
    rcases List.mem_append.mp hz with y | y
    ·exact al z y
    ·have:z=b:=by simpa using y
     rw [this];exact c2
   ·refine fin (.inr ⟨b,by rw [drop_at];exact hb,?_⟩)
    rw [← word_byte]
    exact Bool.eq_false_iff.mpr c2
  ·refine fin (.inl ?_)
   have:¬ (((q + j:Nat):Int) < ((vb t).length:Int)):=fun z=>c1 (decide_eq_true z)
   rw [vb_len] at this
   omega
 case fin =>
  intro e
  have tw:=tw_end al e
  have jl:((t.drop q).takeWhile wordByte).length=j:=by rw [tw,List.length_take,lenu];omega
  have lx:lexAt (t.drop q)=if ((t.drop q).takeWhile wordByte).length≤16 then some (.word ((t.drop q).takeWhile wordByte),((t.drop q).takeWhile wordByte).length) else none:=by
   rw [hd]
   show (if letter c then _ else if digit c then _ else _)=_
   rw [hc]
   rfl
  have j1:1≤j:=by
   have wc:wordByte c=true:=by unfold wordByte;rw [hc];rfl
   rw [hd,List.takeWhile_cons,wc,if_pos rfl,List.length_cons] at jl
   omega
  rw [lx,jl,tw] at k
  refine ⟨_,rfl,_,rfl,_,_,rfl,rfl,_,_,rfl,rfl,_,rfl,ite2 (fun k1=>?_) (fun k1=>?_)⟩
  ·have:¬ j≤16:=by
    have:=of_decide_eq_true k1
    omega
   rw [if_neg this] at k
   exact ⟨_,rfl,raise_says k⟩
  have j16:j≤16:=by
   have:¬ ((16:Int) < ((q + j:Nat):Int) - (q:Int)):=fun z=>k1 (decide_eq_true z)
   omega
  rw [if_pos j16] at k
  have ne:(t.drop q).take j≠[]:=fun z=>by
   have:=congrArg List.length z
   rw [List.length_take,lenu,List.length_nil] at this
   omega
  refine ⟨_,rfl,_,rfl,_,rfl,_,rfl,_,rfl,a,_,rfl,hS,fun p np=>?_⟩
  rw [cut_vb hj]
  have sm:Same H' (upd H' p (.lst (vb ((t.drop q).take j)))):=same_new np _
  refine ⟨_,rfl,p,_,rfl,SqL.of upd_same,by rw [List.length_take,lenu];omega,?_⟩
  refine ⟨_,rfl,ra,_,rfl,.inr (sR _),rfl,res_flat,_,rfl,?_⟩
  rw [if_neg Bool.false_ne_true,res_in _ ne]
  refine ite2 (fun k2=>?_) (fun k2=>?_)
  ·have ks:kindS (.word ((t.drop q).take j))=spell ((t.drop q).take j):=by
    rw [res_spell k2]
    show (if reserved.contains _ then _ else _)=_
    rw [if_pos k2]
   refine ⟨_,rfl,_,rfl,_,rfl,fun x dx nx ndx ne=>⟨x,dx,_,_,_,_,rfl,upd_same,fun H2 b e=>⟨rfl,k x H2 (sm.trans (But.same nx ndx b)) ⟨dx,.non,?_,?_⟩⟩⟩⟩
   ·show Cut noH H' H2 x=some (.ins CT dx (tokF (kindS (.word ((t.drop q).take j))) _ _ _))
    rw [ks];exact cut_new rfl (none_of_same sm nx) e
   ·show if reserved.contains _ then _ else _
    rw [if_pos k2]
  ·have ks:kindS (.word ((t.drop q).take j)) = "NAME":=by
    show (if reserved.contains _ then _ else _)=_
    rw [if_neg k2]
   refine ⟨_,rfl,_,rfl,_,rfl,fun x dx nx ndx ne=>⟨x,dx,_,_,_,_,rfl,upd_same,fun H2 b e=>⟨rfl,k x H2 (sm.trans (But.same nx ndx b)) ⟨dx,.ref p,?_,?_⟩⟩⟩⟩
   ·show Cut noH H' H2 x=some (.ins CT dx (tokF (kindS (.word ((t.drop q).take j))) _ _ _))
    rw [ks];exact cut_new rfl (none_of_same sm nx) e
   ·show if reserved.contains _ then _ else _
    rw [if_neg k2]
    exact ⟨p,rfl,cut_new rfl np (But.same nx ndx b _ _ upd_same)⟩
end
end Prg
end
section
set_option maxRecDepth 100000
set_option maxHeartbeats 4000000
namespace Prg
open PySem L2
open Vanbka (Bytes Lex reserved lexAt digit letter wordByte natOf quotedFrom)
theorem qf_end(r:Bytes):quotedFrom (34::r)=some ([],1):=by rw [quotedFrom]
theorem qf_line(r:Bytes):quotedFrom (10::r)=none:=by rw [quotedFrom]
theorem qf_plain{c:UInt8}(r:Bytes)(h1:c≠34)(h2:c≠10)(h3:c≠92):quotedFrom (c::r)=(quotedFrom r).map fun x=>(c::x.1,x.2 + 1):=by
 rw [quotedFrom]
 all_goals first | exact h1 | exact h2 | exact h3 | exact fun _ z _=>absurd z h3
def escB(c:UInt8):Option UInt8:=if c=92 then some 92 else if c=34 then some 34 else if c=110 then some 10 else none
theorem qf_esc{c d:UInt8}(r:Bytes)(h:escB c=some d):quotedFrom (92::c::r)=(quotedFrom r).map fun x=>(d::x.1,x.2 + 2):=by
 unfold escB at h
 by_cases h1:c=92
 ·rw [if_pos h1] at h;cases h;subst h1;rw [quotedFrom]
 rw [if_neg h1] at h
 by_cases h2:c=34
 ·rw [if_pos h2] at h;cases h;subst h2;rw [quotedFrom]
 rw [if_neg h2] at h
 by_cases h3:c=110
 ·rw [if_pos h3] at h;cases h;subst h3;rw [quotedFrom]
 rw [if_neg h3] at h
 cases h
theorem qf_bad{c:UInt8}(r:Bytes)(h:escB c=none):quotedFrom (92::c::r)=none:=by
 have h1:c≠92:=fun z=>by subst z;cases h
 have h2:c≠34:=fun z=>by subst z;cases h
 have h3:c≠110:=fun z=>by subst z;cases h
 rw [quotedFrom]
 ·intro r' z;injection z with z1 z2;exact h1 z1
 ·intro r' z;injection z with z1 z2;exact h2 z1
 ·intro r' z;injection z with z1 z2;exact h3 z1
theorem qf_one:quotedFrom [92]=none:=by rw [quotedFrom] <;> intro r z <;> cases z
def escV:List (Key×V):=[(.inl 92,.int 92),(.inl 34,.int 34),(.inl 110,.int 10)]
theorem esc_val(c:UInt8):valV escV (.inl (c.toNat:Int))=(escB c).map fun d=>V.int (d.toNat:Int):=by
 unfold escB
 by_cases h1:c=92
 ·subst h1;rfl
 by_cases h2:c=34
 ·subst h2;rfl
 by_cases h3:c=110
 ·subst h3;rfl
 rw [if_neg h1,if_neg h2,if_neg h3]
 have ne:∀ (n:Nat),n < 256→c≠UInt8.ofNat n→¬ (Sum.inl (n:Int):Key)=Sum.inl (c.toNat:Int):=fun n hn z e=>by
  injection e with e
  exact z ((byte_eq hn).mp e.symm)
 unfold escV
 rw [valV_neg (ne 92 (by decide) h1),valV_neg (ne 34 (by decide) h2),valV_neg (ne 110 (by decide) h3)]
 rfl
theorem same_upd{H H':Hp}{l:Addr}{o:HO}(s:Same H H')(n:H l=none):Same H (upd H' l o):=fun b u q=>by rw [upd_ne (ne_of_none q n)];exact s b u q
theorem vb_snoc(u:Bytes)(c:UInt8):vb (u ++ [c])=vb u ++ [.int (c.toNat:Int)]:=by unfold vb;simp
section
variable{P:Program}{w:World}{K:PySem.W.Frag}{mg:Str→Option Value}{base:Heap}{f g g2 CF fI CT tI:Addr}{fd gd gd2 fdI tdI:FuncData}
def KD(w:World)(K:PySem.W.Frag)(mg:Str→Option Value)(x:Str)(kvs:List (Key×V)):Prop:=∃ a,mg x=some (.ref a)∧KDic w K a kvs
theorem scQuoted:FnScope ["text", "place", "said", "at", "byte"] ["text", "place"] (defScope sCutQuoted):=⟨rfl,rfl,rfl,by decide +kernel,rfl,by decide +kernel,by decide +kernel⟩
theorem ok_quoted(F:Fun K "cut_quoted" "cut_quoted" sCutQuoted f fd)(T:FaultAt K mg CF fI fdI)(U:TokenAt K mg CT tI tdI)(ml:mg "len"=none)(R:KD w K mg "ESCAPED" escV)(c1:CI mg "QUOTE" 34)(c2:CI mg "LINE_FEED" 10)(c3:CI mg "BACKSLASH" 92)(c4:CI mg "WRONG_TOKEN" 2) :
  FnOk P w K mg base (CXF P w) 3 f fd ["text", "place"] (spCut K CF CT fun c=>c=34):=by
 refine F.okF (k:=2) scQuoted (fun vs H Q E h=>?_) (fun cdv A outer s H vs Q E hr h=>?_)
 ·obtain ⟨a,t,r,q,c,rfl,_⟩:=h
  rfl
 obtain ⟨a,t,r,q,c,rfl,hS,hlen,hd,rfl,k⟩:=h
 obtain ⟨ra,mR,dR⟩:=R
 have nd:=scQuoted.nd
 refine ⟨_,pss_cons (ps_set (i:=2) nd rfl (Or.inl rfl) (pe_lst pa_nil))
  (pss_cons (ps_set (i:=3) nd rfl (Or.inl rfl) (pe_op op_add (pv 1) pe_int))
  (pss_cons (ps_while ownF (PW.pt (pw_and (pt_cmpR op_lt (pv 3) (pe_callB call_len_seq rfl ml PySem.boot_len (pa_cons (pv 0) pa_nil)) (nomark _))
    (pw_and (pt_cmpR op_ne (pe_ix ix_list (pv 0) (pv 3) (fun _ _=>rfl)) (pe_ci c1 rfl) (nomark _)) (pw_and1 (pt_cmpR op_ne (pe_ix ix_list (pv 0) (pv 3) (fun _ _=>rfl)) (pe_ci c2 rfl) (nomark _))))))
   (pss_cons (ps_set (i:=4) nd rfl (Or.inl rfl) (pe_ix ix_list (pv 0) (pv 3) (fun _ _=>rfl)))
   (pss_cons (ps_if (pt_cmpR op_eq (pv 4) (pe_ci c3 rfl) (nomark _))
    (pss_cons (ps_aug (i:=3) nd rfl (Or.inl rfl) pe_int ip_add)
    (pss_cons (ps_if (PW.pt (pw_or (pt_cmpR op_eq (pv 3) (pe_callB call_len_seq rfl ml PySem.boot_len (pa_cons (pv 0) pa_nil)) (nomark _)) (pw_or1 (pt_cmpR op_notInK (pe_ix ix_list (pv 0) (pv 3) (fun _ _=>rfl)) (pe_cr mR rfl) rfl))))
     (pss_one (ps_fault T hr rfl (pa_cons (pe_ci c4 rfl) (pa_cons (pv 1) pa_nil)))) pss_nil)
    (pss_one (ps_set (i:=4) nd rfl (Or.inl rfl) (pe_dgetK (pe_cr mR rfl) (pe_ix ix_list (pv 0) (pv 3) (fun _ _=>rfl)) (fun _ _=>rfl)))))) pss_nil)
   (pss_cons (ps_expr (pe_bm PySem.F.plainAttrs_list PySem.F.slot_list_append PySem.F.type_list_append mt_append (pv 2) (pa_cons (pv 4) pa_nil)))
   (pss_one (ps_aug (i:=3) nd rfl (Or.inl rfl) pe_int ip_add))))))
  (pss_cons (ps_if (PW.pt (pw_or (pt_cmpR op_eq (pv 3) (pe_callB call_len_seq rfl ml PySem.boot_len (pa_cons (pv 0) pa_nil)) (nomark _)) (pw_or1 (pt_cmpR op_eq (pe_ix ix_list (pv 0) (pv 3) (fun _ _=>rfl)) (pe_ci c2 rfl) (nomark _)))))
    (pss_one (ps_fault T hr rfl (pa_cons (pe_ci c4 rfl) (pa_cons (pv 1) pa_nil)))) pss_nil)
  (pss_one (ps_ret (pe_make U.make (ok_TI U) hr rfl U.c.m U.b .nil passF (pa_cons pe_str (pa_cons (pv 1) (pa_cons (pe_op op_add (pv 3) pe_int) (pa_cons (pv 2) pa_nil)))))))))),?_⟩
 have hq:q < t.length:=(Cell.drop_one hd).2
 have hr0:t.drop (q + 1)=r:=(Cell.drop_one hd).1
 have lx:lexAt (t.drop q)=(quotedFrom (t.drop (q + 1))).map fun x=>(Lex.quoted x.1,x.2 + 1):=by
  rw [hd,hr0]
  rfl
 rw [lx] at k
 refine ⟨by decide,fun l nl=>⟨_,rfl,_,_,rfl,rfl,?_⟩⟩
 refine ⟨fun m σ H'=>Same H H'∧∃ (j:Nat) (sd:Bytes) (v4:Option V),σ=[some (.ref a),some (.int (q:Int)),some (.ref l),some (.int (j:Int)),v4]∧H' l=some (.lst (vb sd))∧m=t.length - j∧q + 1≤j∧j≤t.length∧sd.length≤j∧
   quotedFrom (t.drop (q + 1))=(quotedFrom (t.drop j)).map (fun x=>(sd ++ x.1,(j - (q + 1)) + x.2)),
  ⟨_,same_new nl _,q + 1,[],none,rfl,upd_same,rfl,Nat.le_refl _,hq,Nat.zero_le _,?_⟩,?_⟩
 ·rw [Nat.sub_self]
  cases quotedFrom (t.drop (q + 1)) with
  | none=>rfl
  | some x=>simp
 rintro m σ H' ⟨sm,j,sd,v4,rfl,hl,rfl,hj1,hj,hsd,inv⟩
 have hS':=sm.seq hS
 refine (fun (fin:(j=t.length∨t[j]? = some 34∨t[j]? = some 10)→?A)=>?main) ?fin
 case main =>
  refine ⟨_,rfl,_,rfl,a,_,rfl,.inl hS',_,_,rfl,rfl,_,rfl,ite2 (fun k1=>?_) (fun k1=>?_)⟩
  ·have hlt:j < t.length:=by
    have:=of_decide_eq_true k1
    rw [vb_len] at this
    omega
   obtain ⟨b,r2,hd2,hb,hr2⟩:=drop_get hlt
   refine ⟨_,rfl,_,rfl,a,_,_,_,rfl,rfl,hS',vb_get hb,rfl,_,rfl,ite2 (fun k2=>?_) (fun k2=>?_)⟩
   ·have n34:b≠34:=fun e=>by
     rw [decide_eq_true (show V.int (b.toNat:Int)=V.int 34 by rw [(byte_eq (n:=34) (by decide)).mpr e];rfl)] at k2
     cases k2
    refine ⟨_,rfl,_,rfl,a,_,_,_,rfl,rfl,hS',vb_get hb,rfl,_,rfl,ite2 (fun k3=>?_) (fun k3=>?_)⟩
    ·have n10:b≠10:=fun e=>by
      rw [decide_eq_true (show V.int (b.toNat:Int)=V.int 10 by rw [(byte_eq (n:=10) (by decide)).mpr e];rfl)] at k3
      cases k3
     refine ⟨fun σ' H2=>∃ m',m' < t.length - j∧(Same H H2∧∃ (j:Nat) (sd:Bytes) (v4:Option V),σ'=[some (.ref a),some (.int (q:Int)),some (.ref l),some (.int (j:Int)),v4]∧H2 l=some (.lst (vb sd))∧m'=t.length - j∧q + 1≤j∧j≤t.length∧sd.length≤j∧
       quotedFrom (t.drop (q + 1))=(quotedFrom (t.drop j)).map (fun x=>(sd ++ x.1,(j - (q + 1)) + x.2))),fun _ _ z=>z,?_⟩
     refine ⟨_,rfl,_,rfl,a,_,_,_,rfl,rfl,hS',vb_get hb,?_⟩
     have push:∀ (d:UInt8) (e:Nat),1≤e→j + e≤t.length→quotedFrom (t.drop j)=(quotedFrom (t.drop (j + e))).map (fun x=>(d::x.1,x.2 + e))→
       ∃ m',m' < t.length - j∧(Same H (upd H' l (.lst (vb sd ++ [.int (d.toNat:Int)])))∧∃ (j2:Nat) (sd2:Bytes) (v4:Option V),([some (.ref a),some (.int (q:Int)),some (.ref l),some (.int ((j + e:Nat):Int)),some (.int (d.toNat:Int))]:St)=[some (.ref a),some (.int (q:Int)),some (.ref l),some (.int (j2:Int)),v4]∧
        upd H' l (.lst (vb sd ++ [.int (d.toNat:Int)])) l=some (.lst (vb sd2))∧m'=t.length - j2∧q + 1≤j2∧j2≤t.length∧sd2.length≤j2∧quotedFrom (t.drop (q + 1))=(quotedFrom (t.drop j2)).map (fun x=>(sd2 ++ x.1,(j2 - (q + 1)) + x.2))):=by
      intro d e e1 hje hqf
      refine ⟨t.length - (j + e),by omega,same_upd sm nl,j + e,sd ++ [d],_,rfl,?_,rfl,by omega,hje,?_,?_⟩
      ·rw [upd_same,vb_snoc]
      ·rw [List.length_append,List.length_singleton];omega
      ·rw [inv,hqf,Option.map_map]
       congr 1
       funext x
       simp only [Function.comp,List.append_assoc,List.singleton_append]
       congr 1
       omega
     have small:(vb sd).length < sizeLine:=by
      rw [vb_len]
      show sd.length < 2 ^ 24
      omega
     refine ⟨_,rfl,rfl,_,rfl,ite2 (fun k4=>?_) (fun k4=>?_)⟩
     ·have e92:b=92:=(byte_eq (n:=92) (by decide)).mp (by have:=of_decide_eq_true k4;injection this)
      subst e92
      refine ⟨_,rfl,_,_,rfl,rfl,?_⟩
      refine ⟨_,rfl,_,rfl,a,_,rfl,.inl hS',rfl,_,rfl,ite2 (fun k5=>?_) (fun k5=>?_)⟩
      ·have ej:j + 1=t.length:=by
        have:=of_decide_eq_true k5
        injection this with this
        rw [vb_len] at this
        have:(j:Int) + 1=(t.length:Int):=this
        omega
       have z:quotedFrom (t.drop j)=none:=by
        rw [hd2,← hr2,ej,List.drop_length,qf_one]
       rw [z] at inv
       rw [inv] at k
       exact ⟨_,rfl,raise_says k⟩
      ·have hlt1:j + 1 < t.length:=by
        have:¬ (j + 1=t.length):=fun z=>k5 (decide_eq_true (by rw [vb_len,← z];rfl))
        omega
       obtain ⟨d,r3,hd3,hb3,hr3⟩:=drop_get hlt1
       have dj:t.drop j=92::d::r3:=by rw [hd2,← hr2,hd3]
       refine ⟨_,rfl,_,rfl,a,_,_,_,rfl,rfl,hS',vb_get hb3,ra,escV,.inl (d.toNat:Int),rfl,dR,rfl,_,rfl,?_⟩
       rw [if_pos rfl,esc_val,Option.isSome_map]
       cases hE:escB d with
       | none =>
        refine ite2 (fun _=>?_) (fun z=>absurd rfl z)
        rw [dj,qf_bad r3 hE] at inv
        rw [inv] at k
        exact ⟨_,rfl,raise_says k⟩
       | some d2 =>
        refine ite2 (fun z=>absurd z Bool.false_ne_true) (fun _=>?_)
        refine ⟨_,rfl,_,rfl,a,_,_,_,rfl,rfl,hS',vb_get hb3,ra,escV,.inl (d.toNat:Int),_,rfl,dR,rfl,(by rw [esc_val,hE];rfl),?_⟩
        refine ⟨_,rfl,.inl ⟨rfl,_,SqL.of hl⟩,_,rfl,l,_,_,rfl,rfl,hl,small,?_⟩
        refine ⟨_,rfl,_,_,rfl,rfl,push d2 2 (by decide) (by omega) ?_⟩
        rw [dj,qf_esc r3 hE,← hr3]
     ·have n92:b≠92:=fun e=>k4 (decide_eq_true (by rw [(byte_eq (n:=92) (by decide)).mpr e];rfl))
      refine ⟨_,rfl,.inl ⟨rfl,_,SqL.of hl⟩,_,rfl,l,_,_,rfl,rfl,hl,small,?_⟩
      refine ⟨_,rfl,_,_,rfl,rfl,push b 1 (by decide) (by omega) ?_⟩
      rw [hd2,qf_plain r2 n34 n10 n92,hr2]
    ·have e10:b=10:=(byte_eq (n:=10) (by decide)).mp (by
      have:decide (V.int (b.toNat:Int)=V.int 10)=true:=by simpa using k3
      have:=of_decide_eq_true this
      injection this)
     exact fin (.inr (.inr (e10▸hb)))
   ·have e34:b=34:=(byte_eq (n:=34) (by decide)).mp (by
     have:decide (V.int (b.toNat:Int)=V.int 34)=true:=by simpa using k2
     have:=of_decide_eq_true this
     injection this)
    refine ite2 (fun z=>absurd z (by decide)) (fun _=>?_)
    exact fin (.inr (.inl (e34▸hb)))
  ·refine ite2 (fun z=>absurd z (by decide)) (fun _=>?_)
   refine fin (.inl ?_)
   have:¬ ((j:Int) < ((vb t).length:Int)):=fun z=>k1 (decide_eq_true z)
   rw [vb_len] at this
   omega
 case fin =>
  intro e
  refine ⟨_,rfl,_,rfl,a,_,rfl,.inl hS',rfl,_,rfl,ite2 (fun k1=>?_) (fun k1=>?_)⟩
  ·have ej:j=t.length:=by
    have:=of_decide_eq_true k1
    injection this with this
    rw [vb_len] at this
    omega
   rw [ej,List.drop_length] at inv
   rw [inv] at k
   exact ⟨_,rfl,raise_says k⟩
  ·have hlt:j < t.length:=by
    have:¬ (j=t.length):=fun z=>k1 (decide_eq_true (by rw [vb_len,← z]))
    omega
   obtain ⟨b,r2,hd2,hb,hr2⟩:=drop_get hlt
   refine ⟨_,rfl,_,rfl,a,_,_,_,rfl,rfl,hS',vb_get hb,rfl,_,rfl,ite2 (fun k2=>?_) (fun k2=>?_)⟩
   ·have e10:b=10:=(byte_eq (n:=10) (by decide)).mp (by have:=of_decide_eq_true k2;injection this)
    rw [hd2,e10,qf_line] at inv
    rw [inv] at k
    exact ⟨_,rfl,raise_says k⟩
   ·have n10:b≠10:=fun e=>k2 (decide_eq_true (by rw [(byte_eq (n:=10) (by decide)).mpr e];rfl))
    have e34:b=34:=by
     rw [hb] at e
     rcases e with e | e | e
     ·omega
     ·exact Option.some.inj e
     ·exact absurd (Option.some.inj e) n10
    rw [hd2,e34,qf_end] at inv
    rw [inv] at k
    refine ⟨_,rfl,_,rfl,_,_,rfl,rfl,_,rfl,fun x dx nx ndx ne=>⟨x,dx,_,_,_,_,rfl,upd_same,fun H2 b e=>⟨rfl,k x H2 (sm.trans (But.same nx ndx b)) ⟨dx,.ref l,?_,?_⟩⟩⟩⟩
    ·have ee:((j:Int) + 1)=((q + (j - (q + 1) + 1 + 1):Nat):Int):=by omega
     rw [ee] at e
     exact cut_new rfl (none_of_same sm nx) e
    ·exact ⟨l,rfl,cut_new rfl nl (But.same nx ndx b _ _ (by show H' l=some (.lst (vb (sd ++ [])));rw [List.append_nil];exact hl))⟩
end
end Prg
end
section
set_option maxRecDepth 100000
set_option maxHeartbeats 4000000
namespace Prg
open PySem L2
open Vanbka (Bytes Lex reserved lexAt digit letter wordByte natOf quotedFrom doubleSigns singleSigns)
def keyB(u:Bytes):List Key:=u.map fun c=>Sum.inl (c.toNat:Int)
theorem keyB_vb(u:Bytes):(keyB u).map kV=vb u:=by
 unfold keyB vb
 rw [List.map_map]
 rfl
theorem keyB_inj{u v:Bytes}(h:keyB u=keyB v):u=v:=by
 refine (List.map_inj_right (fun a b q=>?_)).mp h
 injection q with q
 exact UInt8.toNat_inj.mp (by omega)
def twoV:List (List Key×V):=doubleSigns.map fun x=>(keyB x,V.str (strOf x))
theorem two_val(u:Bytes):valV twoV (keyB u)=if doubleSigns.contains u then some (.str (strOf u)) else none:=by
 have key:∀ l:List Bytes,valV (l.map fun x=>(keyB x,V.str (strOf x))) (keyB u)=if l.contains u then some (.str (strOf u)) else none:=by
  intro l
  induction l with
  | nil=>rfl
  | cons x l ih =>
   rw [List.map_cons,List.contains_cons]
   by_cases e:u=x
   ·subst e
    rw [valV_pos rfl]
    simp
   ·rw [valV_neg (fun z=>e (keyB_inj z).symm),ih,beq_eq_false_iff_ne.mpr e,Bool.false_or]
 exact key doubleSigns
def oneV:List (Key×V):=[(.inl 37,.str "percent"),(.inl 40,.str "("),(.inl 41,.str ")"),(.inl 42,.str "*"),(.inl 43,.str "+"),(.inl 44,.str ","),(.inl 45,.str "-"),(.inl 46,.str "."),(.inl 47,.str "/"),(.inl 58,.str ":"),(.inl 59,.str ";"),
 (.inl 60,.str "<"),(.inl 61,.str "="),(.inl 62,.str ">"),(.inl 63,.str "?"),(.inl 91,.str "["),(.inl 93,.str "]"),(.inl 123,.str "{"),(.inl 125,.str "}")]
theorem one_all:∀ n:Fin 256,valV oneV (.inl ((n.val:Nat):Int))=if singleSigns.contains (UInt8.ofNat n.val) then some (.str (kindS (.sign [UInt8.ofNat n.val]))) else none:=by decide +kernel
theorem one_val(c:UInt8):valV oneV (.inl (c.toNat:Int))=if singleSigns.contains c then some (.str (kindS (.sign [c]))) else none:=by
 have h:=one_all ⟨c.toNat,c.toNat_lt⟩
 have e:UInt8.ofNat c.toNat=c:=by simp
 simp only [e] at h
 exact h
theorem two_kind{u:Bytes}(h:doubleSigns.contains u=true):kindS (.sign u)=strOf u:=by
 have m:u∈doubleSigns:=by simpa using h
 have key:∀ x∈doubleSigns,kindS (.sign x)=strOf x:=by decide +kernel
 exact key u m
theorem cut_vb2{t:Bytes}{q:Nat}(h:q≤t.length):cutV (vb t) (some (q:Int)) (some ((q:Int) + 2))=vb ((t.drop q).take 2):=by
 have e:((q:Int) + 2)=((q + 2:Nat):Int):=by omega
 unfold cutV
 rw [e,HT.sIx_nat,HT.sIx_nat,vb_len,Nat.min_eq_left h]
 unfold vb
 rw [← List.map_drop,← List.map_take]
 congr 1
 by_cases c:q + 2≤t.length
 ·rw [Nat.min_eq_left c]
  congr 1
  omega
 ·rw [Nat.min_eq_right (by omega),List.take_of_length_le (by rw [List.length_drop];omega),List.take_of_length_le (by rw [List.length_drop];omega)]
section
variable{P:Program}{w:World}{K:PySem.W.Frag}{mg:Str→Option Value}{base:Heap}{f g g2 CF fI CT tI:Addr}{fd gd gd2 fdI tdI:FuncData}
def KDT(P:Program)(w:World)(K:PySem.W.Frag)(mg:Str→Option Value)(x:Str)(kvs:List (List Key×V)):Prop:=∃ a,mg x=some (.ref a)∧KDicT P w K a kvs
theorem scSign:FnScope ["text", "place", "pair"] ["text", "place"] (defScope sCutSign):=⟨rfl,rfl,rfl,by decide +kernel,rfl,by decide +kernel,by decide +kernel⟩
theorem ok_sign(F:Fun K "cut_sign" "cut_sign" sCutSign f fd)(T:FaultAt K mg CF fI fdI)(U:TokenAt K mg CT tI tdI)(mt:mg "tuple"=none)(R2:KDT P w K mg "TWO_BYTE_SIGNS" twoV)(R1:KD w K mg "ONE_BYTE_SIGNS" oneV)(c4:CI mg "WRONG_TOKEN" 2) :
  FnOk P w K mg base (CXF P w) 3 f fd ["text", "place"] (spCut K CF CT fun c=>letter c=false∧digit c=false∧c≠34):=by
 refine F.okF (k:=2) scSign (fun vs H Q E h=>?_) (fun cdv A outer s H vs Q E hr h=>?_)
 ·obtain ⟨a,t,r,q,c,rfl,_⟩:=h
  rfl
 obtain ⟨a,t,r,q,c,rfl,hS,hlen,hd,⟨n1,n2,n3⟩,k⟩:=h
 obtain ⟨a2,m2,d2⟩:=R2
 obtain ⟨a1,m1,d1⟩:=R1
 have nd:=scSign.nd
 have hu:=hu_of hr
 refine ⟨_,pss_cons (ps_set (i:=2) nd rfl (Or.inl rfl) (pe_callTy call_tuple_of rfl mt rfl (pa_cons (pe_slice sl_list (pv 0) (po_some (pv 1)) (po_some (pe_op op_add (pv 1) pe_int))) pa_nil)))
  (pss_cons (ps_if (pt_cmpR (op_inKT hu) (pv 2) (pe_cr m2 rfl) rfl)
   (pss_one (ps_ret (pe_make U.make (ok_TI U) hr rfl U.c.m U.b .nil passF (pa_cons (pe_dgetKT hu (pe_cr m2 rfl) (pv 2) (fun _ _=>rfl)) (pa_cons (pv 1) (pa_cons (pe_op op_add (pv 1) pe_int) (pa_cons pe_non pa_nil))))))) pss_nil)
  (pss_cons (ps_if (pt_cmpR op_inK (pe_ix ix_list (pv 0) (pv 1) (fun _ _=>rfl)) (pe_cr m1 rfl) rfl)
   (pss_one (ps_ret (pe_make U.make (ok_TI U) hr rfl U.c.m U.b .nil passF (pa_cons (pe_dgetK (pe_cr m1 rfl) (pe_ix ix_list (pv 0) (pv 1) (fun _ _=>rfl)) (fun _ _=>rfl)) (pa_cons (pv 1) (pa_cons (pe_op op_add (pv 1) pe_int) (pa_cons pe_non pa_nil))))))) pss_nil)
  (pss_one (ps_fault T hr rfl (pa_cons (pe_ci c4 rfl) (pa_cons (pv 1) pa_nil)))))),?_⟩
 have hq:q < t.length:=(Cell.drop_one hd).2
 have hc:t[q]? = some c:=get_drop hd
 have lx:lexAt (t.drop q)=if doubleSigns.contains ((t.drop q).take 2) then some (.sign ((t.drop q).take 2),2) else if singleSigns.contains c then some (.sign [c],1) else none:=by
  rw [hd]
  show (if letter c then _ else if digit c then _ else if c == 34 then _ else _)=_
  rw [n1,n2,beq_eq_false_iff_ne.mpr n3]
  rfl
 rw [lx] at k
 refine ⟨_,rfl,_,rfl,_,rfl,_,rfl,_,_,rfl,rfl,_,rfl,a,_,rfl,hS,fun p np=>?_⟩
 rw [cut_vb2 (by omega)]
 refine ⟨p,_,rfl,.inl ⟨SqL.of upd_same,fun l nl=>?_⟩⟩
 have sm:Same H (upd (upd H p (.lst (vb ((t.drop q).take 2)))) l (.tup (vb ((t.drop q).take 2)))):=(same_new np _).trans (same_new nl _)
 have hS':=sm.seq hS
 have hl:(upd (upd H p (.lst (vb ((t.drop q).take 2)))) l (.tup (vb ((t.drop q).take 2)))) l=some (.tup ((keyB ((t.drop q).take 2)).map kV)):=by rw [upd_same,keyB_vb]
 refine ⟨_,rfl,a2,twoV,l,_,rfl,d2,rfl,hl,_,rfl,?_⟩
 rw [two_val]
 by_cases cD:doubleSigns.contains ((t.drop q).take 2)=true
 ·rw [if_pos cD] at k ⊢
  refine ite2 (fun _=>?_) (fun z=>absurd rfl z)
  refine ⟨_,rfl,a2,twoV,l,_,_,rfl,d2,rfl,hl,(by rw [two_val,if_pos cD]),_,rfl,_,rfl,_,_,rfl,rfl,fun x dx nx ndx ne=>⟨x,dx,_,_,_,_,rfl,upd_same,fun H2 b e=>⟨rfl,k x H2 (sm.trans (But.same nx ndx b)) ⟨dx,.non,?_,rfl⟩⟩⟩⟩
  show Cut noH H H2 x=some (.ins CT dx (tokF (kindS (.sign _)) _ _ _))
  rw [two_kind cD]
  exact cut_new rfl (none_of_same sm nx) e
 ·rw [if_neg cD] at k ⊢
  refine ite2 (fun z=>absurd z Bool.false_ne_true) (fun _=>?_)
  refine ⟨_,rfl,_,rfl,a,_,_,_,rfl,rfl,hS',vb_get hc,a1,oneV,.inl (c.toNat:Int),rfl,d1,rfl,_,rfl,?_⟩
  rw [if_neg Bool.false_ne_true,one_val]
  by_cases cS:singleSigns.contains c=true
  ·rw [if_pos cS] at k ⊢
   refine ite2 (fun _=>?_) (fun z=>absurd rfl z)
   refine ⟨_,rfl,_,rfl,a,_,_,_,rfl,rfl,hS',vb_get hc,a1,oneV,.inl (c.toNat:Int),_,rfl,d1,rfl,(by rw [one_val,if_pos cS]),_,rfl,_,rfl,_,_,rfl,rfl,fun x dx nx ndx ne=>⟨x,dx,_,_,_,_,rfl,upd_same,fun H2 b e=>⟨rfl,k x H2 (sm.trans (But.same nx ndx b)) ⟨dx,.non,cut_new rfl (none_of_same sm nx) e,rfl⟩⟩⟩⟩
  ·rw [if_neg cS] at k ⊢
   refine ite2 (fun z=>absurd z Bool.false_ne_true) (fun _=>?_)
   exact ⟨_,rfl,raise_says k⟩
end
end Prg
end
section
set_option maxRecDepth 100000
set_option maxHeartbeats 4000000
namespace Prg
open PySem L2
open Vanbka (Bytes Lex reserved lexAt digit letter wordByte natOf quotedFrom doubleSigns singleSigns)
def Has(P:Program)(w:World)(K:PySem.W.Frag)(mg:Str→Option Value)(base:Heap)(k:Nat)(x:Str)(ps:List Str)(sp:Sp):Prop :=
 ∃ f fd,FnOk P w K mg base (CXF P w) k f fd ps sp∧Binds K fd ps []∧PySem.W.keepIn K (.ref f)=true∧mg x=some (.ref f)
theorem pe_has{P:Program}{w:World}{K:PySem.W.Frag}{mg:Str→Option Value}{base:Heap}{k j:Nat}{x:Str}{ps:List Str}{sp:Sp}{N:List Str}{qual:Str}{scope:Scope}{f:Addr}{cd:Value}{A:Around}{outer:List Env}{s:Shared}{H:Hp}{E:XK}{e:PySem.Expr}{es:List PySem.Expr}{t:TA}{p pos:Pos}
  (G:Has P w K mg base k x ps sp) (hr:Room j (cxOf (CXF P w) P w K mg base N qual scope f cd A outer s H E).A) (hg:Gl (cxOf (CXF P w) P w K mg base N qual scope f cd A outer s H E) x) (ha:PA (cxOf (CXF P w) P w K mg base N qual scope f cd A outer s H E) (e::es) t)
  (hj:k≤j:=by decide) (hdb:(x == ("__debug__":Str))=false:=by decide)
  (he:starEach (e::es) (cxOf (CXF P w) P w K mg base N qual scope f cd A outer s H E).env=(false,eval e (cxOf (CXF P w) P w K mg base N qual scope f cd A outer s H E).env)::starEach es (cxOf (CXF P w) P w K mg base N qual scope f cd A outer s H E).env:=by rfl)
  (hpl:(backTo pos (starEach es (cxOf (CXF P w) P w K mg base N qual scope f cd A outer s H E).env)).any (·.1)=false:=by rfl) :
  PE (cxOf (CXF P w) P w K mg base N qual scope f cd A outer s H E) (.Call (.Name x p) (e::es) [] pos) (tCall sp [] E t):=by
 obtain ⟨f',fd,F,b,kp,m⟩:=G
 exact pe_call F (hr.mono hj) hg m kp b .nil passF ha hdb he hpl
def Known(K:PySem.W.Frag)(mg:Str→Option Value)(x:Str)(ps:List Str)(st:PySem.Stmt):Prop:=∃ f fd,Fun K x x st f fd∧Binds K fd ps []∧PySem.W.keepIn K (.ref f)=true∧mg x=some (.ref f)
def TokL(CT:Addr)(H:Hp)(l:Addr)(ts:List Vanbka.Tok):Prop:=∃ xs:List Addr,H l=some (.lst (xs.map V.ref))∧Paired (TokAt CT H) xs ts
theorem TokL.same{CT:Addr}{H H':Hp}(s:Same H H'){l:Addr}{ts:List Vanbka.Tok}(h:TokL CT H l ts):TokL CT H' l ts:=by
 obtain ⟨xs,e,p⟩:=h
 exact ⟨xs,s _ _ e,Paired.mapP p fun _ _ z=>z.same s⟩
theorem Paired.snoc{α β:Type}{F:α→β→Prop}:∀ {l₁:List α} {l₂:List β} {a:α} {b:β},Paired F l₁ l₂→F a b→Paired F (l₁ ++ [a]) (l₂ ++ [b])
 | _,_,_,_,.nil,h=>.cons h .nil
 | _,_,_,_,.cons r t,h=>.cons r (Paired.snoc t h)
theorem Paired.len{α β:Type}{F:α→β→Prop}:∀ {l₁:List α} {l₂:List β},Paired F l₁ l₂→l₁.length=l₂.length
 | _,_,.nil=>rfl
 | _,_,.cons _ t=>by rw [List.length_cons,List.length_cons,Paired.len t]
theorem Paired.get{α β:Type}{F:α→β→Prop}:∀ {l₁:List α} {l₂:List β} {i:Nat} {b:β},Paired F l₁ l₂→l₂[i]? = some b→∃ a,l₁[i]? = some a∧F a b
 | _,_,_,_,.nil,h=>by simp at h
 | _,_,0,_,.cons r t,h=>by cases h;exact ⟨_,rfl,r⟩
 | _,_,i + 1,_,.cons r t,h=>by
  obtain ⟨a,e,q⟩:=Paired.get (i:=i) t (by simpa using h)
  exact ⟨a,by simpa using e,q⟩
theorem cut_grow{T H0 H1 H2 H3:Hp}(h1:∀ b,H1 b=none→H0 b=none)(h2:∀ b o,H1 b=none→H2 b=some o→H3 b=some o):Same (Cut T H1 H2) (Cut T H0 H3):=fun b o e=>by
 rcases cut_cases e with z | ⟨z1,z2,z3⟩
 ·exact cut_old z
 ·exact cut_new z1 (h1 b z2) (h2 b o z2 z3)
section
variable{P:Program}{w:World}{K:PySem.W.Frag}{mg:Str→Option Value}{base:Heap}{f g g2 CF fI CT tI:Addr}{fd gd gd2 fdI tdI:FuncData}
theorem scTok:FnScope ["text", "place", "byte"] ["text", "place"] (defScope sCutToken):=⟨rfl,rfl,rfl,by decide +kernel,rfl,by decide +kernel,by decide +kernel⟩
theorem ok_tok(F:Fun K "cut_token" "cut_token" sCutToken f fd)(D:Has P w K mg base 1 "is_digit" ["byte"] spDigit)(W:Has P w K mg base 2 "is_word_byte" ["byte"] spWordB)
  (G1:Has P w K mg base 3 "cut_number" ["text", "place"] (spCut K CF CT fun c=>digit c=true)) (G2:Has P w K mg base 3 "cut_word" ["text", "place"] (spCut K CF CT fun c=>letter c=true))
  (G3:Has P w K mg base 3 "cut_quoted" ["text", "place"] (spCut K CF CT fun c=>c=34)) (G4:Has P w K mg base 3 "cut_sign" ["text", "place"] (spCut K CF CT fun c=>letter c=false∧digit c=false∧c≠34)) (c1:CI mg "QUOTE" 34) :
  FnOk P w K mg base (CXF P w) 4 f fd ["text", "place"] (spCut K CF CT fun _=>True):=by
 refine F.okF (k:=3) scTok (fun vs H Q E h=>?_) (fun cdv A outer s H vs Q E hr h=>?_)
 ·obtain ⟨a,t,r,q,c,rfl,_⟩:=h
  rfl
 obtain ⟨a,t,r,q,c,rfl,hS,hlen,hd,_,k⟩:=h
 have nd:=scTok.nd
 refine ⟨_,pss_cons (ps_set (i:=2) nd rfl (Or.inl rfl) (pe_ix ix_list (pv 0) (pv 1) (fun _ _=>rfl)))
  (pss_cons (ps_if (pt_val (pe_has D hr rfl (pa_cons (pv 2) pa_nil))) (pss_one (ps_ret (pe_has G1 hr rfl (pa_cons (pv 0) (pa_cons (pv 1) pa_nil))))) pss_nil)
  (pss_cons (ps_if (pt_val (pe_has W hr rfl (pa_cons (pv 2) pa_nil))) (pss_one (ps_ret (pe_has G2 hr rfl (pa_cons (pv 0) (pa_cons (pv 1) pa_nil))))) pss_nil)
  (pss_cons (ps_if (pt_cmpR op_eq (pv 2) (pe_ci c1 rfl) (nomark _)) (pss_one (ps_ret (pe_has G3 hr rfl (pa_cons (pv 0) (pa_cons (pv 1) pa_nil))))) pss_nil)
  (pss_one (ps_ret (pe_has G4 hr rfl (pa_cons (pv 0) (pa_cons (pv 1) pa_nil)))))))),?_⟩
 have hc:t[q]? = some c:=get_drop hd
 refine ⟨_,rfl,_,rfl,a,_,_,_,rfl,rfl,hS,vb_get hc,?_⟩
 refine ⟨_,rfl,_,rfl,_,rfl,?_⟩
 rw [digit_byte]
 refine ite2 (fun k1=>?_) (fun k1=>?_)
 ·exact ⟨_,rfl,_,rfl,a,t,r,q,c,rfl,hS,hlen,hd,k1,k⟩
 refine ⟨_,rfl,_,rfl,_,rfl,?_⟩
 rw [word_byte]
 have n1:=Bool.eq_false_iff.mpr k1
 refine ite2 (fun k2=>?_) (fun k2=>?_)
 ·have lc:letter c=true:=by
   unfold wordByte at k2
   rw [n1,Bool.or_false] at k2
   exact k2
  exact ⟨_,rfl,_,rfl,a,t,r,q,c,rfl,hS,hlen,hd,lc,k⟩
 have lc:letter c=false:=by
  have z:=Bool.eq_false_iff.mpr k2
  unfold wordByte at z
  exact (Bool.or_eq_false_iff.mp z).1
 refine ⟨_,rfl,rfl,_,rfl,ite2 (fun k3=>?_) (fun k3=>?_)⟩
 ·have e:c=34:=(byte_eq (n:=34) (by decide)).mp (by have:=of_decide_eq_true k3;injection this)
  exact ⟨_,rfl,_,rfl,a,t,r,q,c,rfl,hS,hlen,hd,e,k⟩
 ·have n3:c≠34:=fun e=>k3 (decide_eq_true (by rw [(byte_eq (n:=34) (by decide)).mpr e];rfl))
  exact ⟨_,rfl,_,rfl,a,t,r,q,c,rfl,hS,hlen,hd,⟨lc,n1,n3⟩,k⟩
def spTokens(K:PySem.W.Frag)(CF CT:Addr):Sp:=fun vs H Q E=>∃ (a:Addr) (t:Bytes),vs=[.ref a]∧SqL K H a (vb t)∧t.length≤900000∧match Vanbka.tokens t with
 | .error p=>Err CF E 2 (p:Int)
 | .ok ts=>∀ l H',Same H H'→TokL CT (Cut noH H H') l ts→Q (.ref l) H'
theorem scToks:FnScope ["text", "tokens", "place", "token"] ["text"] (defScope sCutTokens):=⟨rfl,rfl,rfl,by decide +kernel,rfl,by decide +kernel,by decide +kernel⟩
theorem ok_toks(F:Fun K "cut_tokens" "cut_tokens" sCutTokens f fd)(U:TokenAt K mg CT tI tdI)(G1:Has P w K mg base 1 "pass_over" ["text", "place"] (spPass K))(G2:Has P w K mg base 4 "cut_token" ["text", "place"] (spCut K CF CT fun _=>True))(ml:mg "len"=none) :
  FnOk P w K mg base (CXF P w) 5 f fd ["text"] (spTokens K CF CT):=by
 refine F.okF (k:=4) scToks (fun vs H Q E h=>?_) (fun cdv A outer s H vs Q E hr h=>?_)
 ·obtain ⟨a,t,rfl,_⟩:=h
  rfl
 obtain ⟨a,t,rfl,hS,hlen,k⟩:=h
 have nd:=scToks.nd
 refine ⟨_,pss_cons (ps_set (i:=1) nd rfl (Or.inl rfl) (pe_lst pa_nil))
  (pss_cons (ps_set (i:=2) nd rfl (Or.inl rfl) (pe_has G1 hr rfl (pa_cons (pv 0) (pa_cons pe_int pa_nil))))
  (pss_cons (ps_while ownF (pt_cmpR op_lt (pv 2) (pe_callB call_len_seq rfl ml PySem.boot_len (pa_cons (pv 0) pa_nil)) (nomark _))
   (pss_cons (ps_set (i:=3) nd rfl (Or.inl rfl) (pe_has G2 hr rfl (pa_cons (pv 0) (pa_cons (pv 2) pa_nil))))
   (pss_cons (ps_expr (pe_bm PySem.F.plainAttrs_list PySem.F.slot_list_append PySem.F.type_list_append mt_append (pv 1) (pa_cons (pv 3) pa_nil)))
   (pss_one (ps_set (i:=2) nd rfl (Or.inl rfl) (pe_has G1 hr rfl (pa_cons (pv 0) (pa_cons (pe_fld (pv 3) rfl) pa_nil))))))))
  (pss_one (ps_ret (pv 1))))),?_⟩
 refine ⟨by decide,fun l nl=>⟨_,rfl,a,t,0,rfl,(same_new nl _).seq hS,Nat.zero_le _,?_⟩⟩
 refine ⟨fun m σ H'=>Same H H'∧∃ (j:Nat) (done:List Vanbka.Tok) (xs:List Addr) (v3:Option V),σ=[some (.ref a),some (.ref l),some (.int (j:Int)),v3]∧H' l=some (.lst (xs.map V.ref))∧Paired (TokAt CT (Cut noH (upd H l (.lst [])) H')) xs done∧m=t.length - j∧j≤t.length∧xs.length≤j∧
   (t.drop j=[]∨∃ c r,t.drop j=c::r∧c≠10∧c≠32∧c≠35)∧Vanbka.tokens t=match Cell.tokAt t j with
    | .error p=>.error p
    | .ok ts=>.ok (done ++ ts),⟨_,same_new nl _,0 + Cell.skip false (t.drop 0),[],[],none,rfl,upd_same,.nil,rfl,?_,Nat.zero_le _,?_,?_⟩,?_⟩
 ·rw [Nat.zero_add];exact Cell.skip_le false t
 ·rw [Nat.zero_add,List.drop_zero];exact Cell.skip_end t false
 ·rw [Cell.tokens_eq,Cell.tokAt_pass t 0]
  cases Cell.tokAt t (0 + Cell.skip false (t.drop 0)) <;> rfl
 rintro m σ H' ⟨sm,j,done,xs,v3,rfl,hl,pr,rfl,hj,hxs,hcl,inv⟩
 have hS':=sm.seq hS
 have lb:∀ {X:Hp} {b:Addr},X b=none→X l≠none→b≠l:=fun h1 h2 z=>h2 (z▸h1)
 have hlo:∀ b,H' b=none→upd H l (.lst []) b=none:=fun b z=>by
  have:b≠l:=fun y=>by rw [y,hl] at z;cases z
  rw [upd_ne this]
  exact none_of_same sm z
 have small:(xs.map V.ref).length < sizeLine:=by
  rw [List.length_map]
  show xs.length < 2 ^ 24
  omega
 refine ⟨_,rfl,_,rfl,a,_,rfl,.inl hS',_,_,rfl,rfl,_,rfl,ite2 (fun k1=>?_) (fun k1=>?_)⟩
 ·have hlt:j < t.length:=by
   have:=of_decide_eq_true k1
   rw [vb_len] at this
   omega
  obtain ⟨c,r,hd,n1,n2,n3⟩:∃ c r,t.drop j=c::r∧c≠10∧c≠32∧c≠35:=by
   rcases hcl with z | z
   ·have:=congrArg List.length z
    rw [List.length_drop,List.length_nil] at this
    omega
   ·exact z
  have step:=Cell.tokAt_step hd n1 n2 n3
  refine ⟨fun σ' H2=>∃ m',m' < t.length - j∧(Same H H2∧∃ (j:Nat) (done:List Vanbka.Tok) (xs:List Addr) (v3:Option V),σ'=[some (.ref a),some (.ref l),some (.int (j:Int)),v3]∧H2 l=some (.lst (xs.map V.ref))∧Paired (TokAt CT (Cut noH (upd H l (.lst [])) H2)) xs done∧m'=t.length - j∧j≤t.length∧xs.length≤j∧
   (t.drop j=[]∨∃ c r,t.drop j=c::r∧c≠10∧c≠32∧c≠35)∧Vanbka.tokens t=match Cell.tokAt t j with
    | .error p=>.error p
    | .ok ts=>.ok (done ++ ts)),fun _ _ z=>z,?_⟩
  refine ⟨_,rfl,_,rfl,a,t,r,j,c,rfl,hS',hlen,hd,trivial,?_⟩
  cases hx:lexAt (t.drop j) with
  | none =>
   rw [hx] at step
   rw [step] at inv
   rw [inv] at k
   exact k
  | some y =>
   obtain ⟨lx,kk⟩:=y
   rw [hx] at step
   have kl:=Cell.lexAt_len hx
   rw [List.length_drop] at kl
   intro x H2 sm2 tk
   have hl2:H2 l=some (.lst (xs.map V.ref)):=sm2 _ _ hl
   obtain ⟨dx,v,ex,vx⟩:=tk
   rcases cut_cases ex with z | ⟨_,nx,ex2⟩
   ·cases z
   have xl:x≠l:=fun y=>by rw [y,hl] at nx;cases nx
   refine ⟨_,rfl,.inl ⟨rfl,_,SqL.of hl2⟩,_,rfl,l,_,_,rfl,rfl,hl2,small,?_⟩
   have sm3:Same H (upd H2 l (.lst (xs.map V.ref ++ [V.ref x]))):=same_upd (sm.trans sm2) nl
   refine ⟨_,rfl,_,rfl,x,CT,dx,_,_,rfl,by rw [upd_ne xl];exact ex2,U.c.cl,U.c.no _ (.tail _ (.tail _ (.head _))),rfl,a,t,j + kk,rfl,sm3.seq hS,by omega,?_⟩
   have q1:j + kk + Cell.skip false (t.drop (j + kk))≤t.length:=by
    have:=Cell.skip_le false (t.drop (j + kk))
    rw [List.length_drop] at this
    omega
   have g1:Same (Cut noH (upd H l (.lst [])) H') (Cut noH (upd H l (.lst [])) (upd H2 l (.lst (xs.map V.ref ++ [V.ref x])))):=cut_grow (fun _ z=>z) fun b o z1 z2=>by
    have bl:b≠l:=fun y=>by rw [y,upd_same] at z1;cases z1
    rw [upd_ne bl]
    exact sm2 _ _ z2
   have g2:Same (Cut noH H' H2) (Cut noH (upd H l (.lst [])) (upd H2 l (.lst (xs.map V.ref ++ [V.ref x])))):=cut_grow hlo fun b o z1 z2=>by
    have bl:b≠l:=fun y=>by rw [y,hl] at z1;cases z1
    rw [upd_ne bl]
    exact z2
   refine ⟨t.length - (j + kk + Cell.skip false (t.drop (j + kk))),by omega,sm3,j + kk + Cell.skip false (t.drop (j + kk)),done ++ [{ lex:=lx,place:=j,len:=kk }],xs ++ [x],_,rfl,by rw [upd_same,List.map_append];rfl,
    Paired.snoc (Paired.mapP pr fun _ _ z=>z.same g1) (TokAt.same g2 ⟨dx,v,ex,vx⟩),rfl,q1,by rw [List.length_append,List.length_singleton];omega,?_,?_⟩
   ·rw [← List.drop_drop];exact Cell.skip_end _ false
   ·rw [inv,step,← Cell.tokAt_pass]
    dsimp only
    cases Cell.tokAt t (j + kk) with
    | error z=>rfl
    | ok ts =>
     show Except.ok (done ++ _::ts)=Except.ok ((done ++ [_]) ++ ts)
     rw [List.append_assoc]
     rfl
 ·have ej:t.length≤j:=by
   have:¬ ((j:Int) < ((vb t).length:Int)):=fun z=>k1 (decide_eq_true z)
   rw [vb_len] at this
   omega
  rw [Cell.tokAt_end ej] at inv
  rw [inv] at k
  refine ⟨_,rfl,k l _ sm ⟨xs,cut_new rfl nl hl,?_⟩⟩
  rw [List.append_nil]
  have g1:Same (Cut noH (upd H l (.lst [])) H') (Cut noH H H'):=cut_grow (fun b z=>by
    have bl:b≠l:=fun y=>by rw [y,upd_same] at z;cases z
    rw [upd_ne bl] at z
    exact z) fun _ _ _ z2=>z2
  exact Paired.mapP pr fun _ _ z=>TokAt.same g1 z
end
end Prg
end
section
set_option maxRecDepth 100000
set_option maxHeartbeats 4000000
namespace Prg
open PySem L2
open Vanbka (Bytes Lex reserved lexAt digit letter wordByte natOf quotedFrom doubleSigns singleSigns isSign isWord next nameNext wordNext eat b halt_ tokensFrom placeAt tooDeepAt)
def fixedL:List Lex:=(doubleSigns.map Lex.sign ++ singleSigns.map fun c=>Lex.sign [c]) ++ reserved.map Lex.word
def Wf:Lex→Prop
 | .sign x=>Lex.sign x∈fixedL
 | _=>True
theorem wf_cases{l:Lex}(h:Wf l):l∈fixedL∨(∃ x,l = .word x∧reserved.contains x=false)∨(∃ n,l = .num n)∨∃ x,l = .quoted x:=by
 cases l with
 | sign x=>exact .inl h
 | num n=>exact .inr (.inr (.inl ⟨n,rfl⟩))
 | quoted x=>exact .inr (.inr (.inr ⟨x,rfl⟩))
 | word x =>
  cases e:reserved.contains x with
  | true =>
   refine .inl (List.mem_append_right _ (List.mem_map.mpr ⟨x,by simpa using e,rfl⟩))
  | false=>exact .inr (.inl ⟨x,rfl,e⟩)
theorem kind_name{x:Bytes}(h:reserved.contains x=false):kindS (.word x) = "NAME":=by
 show (if reserved.contains x then _ else _)=_
 rw [h];rfl
abbrev WfL(rs:List Vanbka.Tok):Prop:=∀ t∈rs,Wf t.lex
theorem lexAt_wf{t:Bytes}{l:Lex}{k:Nat}(h:lexAt t=some (l,k)):Wf l:=by
 cases t with
 | nil=>cases h
 | cons c r =>
  unfold lexAt at h
  dsimp only at h
  split at h
  ·split at h
   ·cases h;trivial
   ·cases h
  split at h
  ·split at h
   ·cases h;trivial
   ·cases h
  split at h
  ·cases e:quotedFrom r with
   | none=>rw [e] at h;cases h
   | some x=>rw [e] at h;cases h;trivial
  split at h
  ·rename_i q
   cases h
   exact List.mem_append_left _ (List.mem_append_left _ (List.mem_map.mpr ⟨_,by simpa using q,rfl⟩))
  split at h
  ·rename_i q
   cases h
   exact List.mem_append_left _ (List.mem_append_right _ (List.mem_map.mpr ⟨_,by simpa using q,rfl⟩))
  ·cases h
theorem tokens_wf:∀ (n p:Nat) (t:Bytes) (ts:List Vanbka.Tok),tokensFrom n p t = .ok ts→WfL ts:=by
 intro n
 induction n with
 | zero=>intro p t ts h;cases h;intro x hx;cases hx
 | succ n ih =>
  intro p t ts h
  cases t with
  | nil=>cases h;intro x hx;cases hx
  | cons c r =>
   rw [tokensFrom] at h
   split at h
   ·exact ih _ _ _ h
   split at h
   ·exact ih _ _ _ h
   ·split at h
    ·cases h
    ·rename_i l k hl
     split at h
     ·cases h
     ·rename_i ts' hts
      cases h
      intro x hx
      rcases List.mem_cons.mp hx with z | z
      ·subst z;exact lexAt_wf hl
      ·exact ih _ _ _ hts x z
theorem tokens_len:∀ (n p:Nat) (t:Bytes) (ts:List Vanbka.Tok),Vanbka.tokensFrom n p t = .ok ts→ts.length≤t.length:=by
 intro n
 induction n with
 | zero=>intro p t ts h;cases h;exact Nat.zero_le _
 | succ n ih =>
  intro p t ts h
  cases t with
  | nil=>cases h;exact Nat.zero_le _
  | cons c r =>
   rw [Vanbka.tokensFrom] at h
   split at h
   ·have:=ih _ _ _ h
    rw [List.length_cons];omega
   split at h
   ·have:=ih _ _ _ h
    rw [List.length_drop] at this
    omega
   ·split at h
    ·cases h
    ·rename_i l k hl
     split at h
     ·cases h
     ·rename_i ts' hts
      cases h
      have:=ih _ _ _ hts
      have kl:=Cell.lexAt_len hl
      rw [List.length_drop] at this
      rw [List.length_cons]
      omega
end Prg
end
section
set_option maxRecDepth 100000
set_option maxHeartbeats 1000000
namespace L2
open PySem PySem.Spec PyProof.Rows
def tTryN(C:Addr)(tb:XK→TS)(ts:TS):TS:=fun D σ H=>∃ EB:XK,tb EB D σ H∧∀ C' dxo H',EB C' dxo H'→C' = .ref C∧∃ dx,dxo=some dx∧∀ (σ':St) (H2:Hp),σ'.length=σ.length→Same H' H2→ts { nx:=fun _ _=>False,rt:=D.rt } σ' H2
theorem ps_tryN{X:Cx}{body suite:List Stmt}{b0:Stmt}{cn:Str}{np hpos pos:Pos}{C fI:Addr}{fs:List Str}{tb:XK→TS}{ts:TS}
  (hst:X.stack=X.env::X.outer) (hf:X.env.frame=some X.env.locals) (hex:X.ex=[]) (hg:Gl X cn) (hm:X.mg cn=some (.ref C)) (q:xcls X.K C fI fs=true)
  (hb:∀ (pn:List (Addr×Obj)) (EB:XK) (E':Value→Shared→Prop),Passes (CXF X.prog X.w) (X.with pn E') EB→PSs (X.with pn E') body (tb EB))
  (hs:∀ (pn:List (Addr×Obj)) (e:Value),PSs (X.clause pn e) (b0::suite) ts) (hdb:(cn == ("__debug__":Str))=false:=by decide) :
  PS X (.Try body [.ExceptHandler (some (.Name cn np)) none (b0::suite) hpos] [] [] pos) (tTryN C tb ts):=by
 intro pins s σ H D I h
 obtain ⟨EB,hB,hH⟩:=h
 refine wpAny_Try_except ?_
 have ok:=I.ok
 have key:∀ (E':Value→Shared→Prop),(∀ e s1,E' e s1↔wpAny (model X.prog X.w) X.A (noteFrame e X.env) (fun _ s₂=>wpAny (model X.prog X.w) X.A (setFlight e none) (fun _ s₃ =>
   wpAny (model X.prog X.w) X.A (handleBy e X.env [.ExceptHandler (some (.Name cn np)) none (b0::suite) hpos]) (SP X pins D) X.xe s₃) X.xe s₂) X.xe s1)→Passes (CXF X.prog X.w) (X.with (X.pn ++ pins) E') EB:=by
  intro E' hE' pins' σ1 H1 s1 e s2 I1 c
  refine (hE' e s2).mpr ?_
  refine to_clause (X:=X.with (X.pn ++ pins) E') hst hf hex I1 c (fun x T C' dx H2 H3 s3 ee hE nx sm ex eT ar I3=>?_) rfl
  subst ee
  obtain ⟨rfl,dx',edx,hH2⟩:=hH C' (some dx) H2 hE
  cases edx
  have J:=I3.toClause ok (.ref x)
  obtain ⟨nm,qn,N,bs,sn,sub,ab,col,dd,c0,c1,c2,c3,c5,mN,hC,_⟩:=xcls_get J.kIn q
  obtain ⟨⟨o,vs,hx,hc,hdx,hd,h1⟩,_,_⟩:=id ar
  refine wpAny_handleBy_cons (codeAny_handlers_test (ld_glob J hg hm ?_ hdb)) (by intro z;cases z)
  obtain ⟨hp,g,dr,tk,os⟩:=s3
  refine wpAny_excMatches_sub_self hC hx hc (by decide) ?_
  refine codeAny_handlers_suite ?_
  refine again_clause J eT ar fun s4 ar4 J4=>?_
  refine wpAny_mono (hs _ (.ref x) pins' s4 _ _ _ J4 (hH2 σ1 _ ?_ sm)) (fun fl s6 z=>?_) (fun _ _ z=>z.elim)
  ·rw [I.len,I1.len]
  ·cases fl with
   | next=>obtain ⟨_,_,_,z⟩:=z;exact z.elim
   | brk=>obtain ⟨_,_,_,z⟩:=z;exact z.elim
   | cont=>obtain ⟨_,_,_,z⟩:=z;exact z.elim
   | ret u =>
    obtain ⟨v,σ6,H6,J7,ru,q6⟩:=z
    exact ⟨v,_,H6,J7.ofClause ok,ru,q6⟩
 refine wpAny_mono (hb (X.pn ++ pins) EB _ (key _ fun _ _=>Iff.rfl) [] s σ H D (I.toPn _) hB) (fun f s1 z=>?_) (fun _ _ z=>z)
 cases f with
 | next =>
  obtain ⟨σ',H',I',z⟩:=z
  exact wpAny_execs_nil ⟨σ',H',I'.ofPn ok,z⟩
 | brk=>obtain ⟨σ',H',I',z⟩:=z;exact ⟨σ',H',I'.ofPn ok,z⟩
 | cont=>obtain ⟨σ',H',I',z⟩:=z;exact ⟨σ',H',I'.ofPn ok,z⟩
 | ret u=>obtain ⟨v,σ',H',I',ru,z⟩:=z;exact ⟨v,σ',H',I'.ofPn ok,ru,z⟩
end L2
end
section
set_option maxRecDepth 100000
set_option maxHeartbeats 4000000
namespace Prg
open PySem L2
open Vanbka (Bytes)
abbrev sReadTokens:PySem.Stmt:=top 35
abbrev sTooLong:PySem.Stmt:=top 46
section
variable{P:Program}{w:World}{K:PySem.W.Frag}{mg:Str→Option Value}{base:Heap}{f CF CT:Addr}{fd:FuncData}
def spRToks(K:PySem.W.Frag)(CF CT:Addr):Sp:=fun vs H Q E=>∃ (a:Addr) (t:Bytes),vs=[.ref a]∧SqL K H a (vb t)∧t.length≤900000∧match t.findIdx? (fun c => !Vanbka.allowed c) with
 | some p=>Err CF E 1 (p:Int)
 | none=>match Vanbka.tokens t with
  | .error p=>Err CF E 2 (p:Int)
  | .ok ts=>∀ l H',Same H H'→TokL CT (Cut noH H H') l ts→Q (.ref l) H'
theorem scRToks:FnScope ["text"] ["text"] (defScope sReadTokens):=⟨rfl,rfl,rfl,by decide +kernel,rfl,by decide +kernel,by decide +kernel⟩
theorem ok_rtoks(F:Fun K "read_tokens" "read_tokens" sReadTokens f fd)(G1:Has P w K mg base 3 "check_bytes" ["text"] (spBytes K CF))(G2:Has P w K mg base 5 "cut_tokens" ["text"] (spTokens K CF CT)):FnOk P w K mg base (CXF P w) 6 f fd ["text"] (spRToks K CF CT):=by
 refine F.okF (k:=5) scRToks (fun vs H Q E h=>?_) (fun cdv A outer s H vs Q E hr h=>?_)
 ·obtain ⟨a,t,rfl,_⟩:=h
  rfl
 obtain ⟨a,t,rfl,hS,hlen,q⟩:=h
 refine ⟨_,pss_cons (ps_expr (pe_has G1 hr rfl (pa_cons (pv 0) pa_nil))) (pss_one (ps_ret (pe_has G2 hr rfl (pa_cons (pv 0) pa_nil)))),?_⟩
 refine ⟨_,rfl,a,t,rfl,hS,?_⟩
 cases hf:t.findIdx? (fun c => !Vanbka.allowed c) with
 | some p=>rw [hf] at q;exact q
 | none =>
  rw [hf] at q
  intro H1 s1
  refine ⟨_,rfl,a,t,rfl,s1.seq hS,hlen,?_⟩
  cases ht:Vanbka.tokens t with
  | error p=>rw [ht] at q;exact q
  | ok ts =>
   rw [ht] at q
   exact fun l H2 s2 tk=>q l H2 (s1.trans s2) (TokL.same (cut_grow (fun b z=>none_of_same s1 z) fun _ _ _ z=>z) tk)
def spLong(K:PySem.W.Frag):Sp:=fun vs H Q _=>∃ (a:Addr) (t:Bytes),vs=[.ref a]∧SqL K H a (vb t)∧Q (.bl (decide (Vanbka.LONGEST < t.length))) H
theorem scLong:FnScope ["text"] ["text"] (defScope sTooLong):=⟨rfl,rfl,rfl,by decide +kernel,rfl,by decide +kernel,by decide +kernel⟩
theorem ok_long(F:Fun K "is_too_long" "is_too_long" sTooLong f fd)(ml:mg "len"=none)(c1:CI mg "LONGEST_TEXT" 600):FnOk P w K mg base (CXF P w) 1 f fd ["text"] (spLong K):=by
 refine F.okF (k:=0) scLong (fun vs H Q E h=>?_) (fun cdv A outer s H vs Q E hr h=>?_)
 ·obtain ⟨a,t,rfl,_⟩:=h
  rfl
 obtain ⟨a,t,rfl,hS,q⟩:=h
 refine ⟨_,pss_one (ps_ret (pe_cmpR op_gt (pe_callB call_len_seq rfl ml PySem.boot_len (pa_cons (pv 0) pa_nil)) (pe_ci c1 rfl) (nomark _))),?_⟩
 refine ⟨_,rfl,a,_,rfl,.inl hS,_,_,rfl,rfl,?_⟩
 have e:decide ((600:Int) < ((vb t).length:Int))=decide (Vanbka.LONGEST < t.length):=decide_eq_decide.mpr (by
  rw [vb_len]
  unfold Vanbka.LONGEST
  omega)
 rw [← e] at q
 exact q
end
def told(x:Vanbka.Answer):List Int:=match x with
 | .refused n=>[n]
 | .told l=>l
def spT(K:PySem.W.Frag)(g:Bytes→Vanbka.Answer):Sp:=fun vs H Q _=>∃ (a:Addr) (t:Bytes),vs=[.ref a]∧SqL K H a (vb t)∧∀ l H',H' l=some (.lst ((told (g t)).map V.int))→Q (.ref l) H'
end Prg
end
section
set_option maxRecDepth 100000
set_option maxHeartbeats 1000000
namespace L2
open PySem PySem.Spec PyProof.Rows
section
variable{X:Cx}
def tDGetK2(w:World)(K:PySem.W.Frag)(td ty tx:TE):TE:=fun σ H Q=>td σ H fun x H1=>∃ a kvs,x = .ref a∧KDic w K a kvs∧ty σ H1 fun y H2=>tx σ H2 fun z H3=>∃ k,y=kV k∧Q ((valV kvs k).getD z) H3
theorem pe_dgetK2{o e f:Expr}{apos cpos:Pos}{td ty tx:TE}(ho:PE X o td)(he:PE X e ty)(hf:PE X f tx)(m:M2 X o "get" apos e f cpos):PE X (.Call (.Attribute o "get" apos) [e,f] [] cpos) (tDGetK2 X.w X.K td ty tx):=by
 intro pins s σ H Q I h
 refine wpAny_Call_method m.base m.few m.line PySem.F.plainAttrs_dict PySem.F.slot_dict_get PySem.F.type_dict_get (thn (ho pins s σ H _ I h) fun u s1 ⟨x,H1,I1,rx,a,kvs,ex,d,q1⟩=>?_)
 subst ex
 obtain rfl:u=Value.ref a:=rx
 have d0:=d
 obtain ⟨nm,ob,es,ep,lk,hx,hd,_⟩:=d0
 have hob:=I1.kIn _ _ lk
 refine ⟨⟨ob,hob,hx.1⟩,fun b q=>?_,?_⟩
 ·cases q
  exact ⟨ob,hob,hx.2.1⟩
 rw [m.trees]
 refine Calls.callWith_builtin rfl (Calls.evalArgs_plain (Calls.spliced_cons (thn (he pins s1 σ H1 _ I1 q1) fun iv s2 ⟨y,H2,I2,ry,q2⟩ =>
  Calls.spliced_cons (thn (hf pins s2 σ H2 _ I2 q2) fun fv s3 ⟨z,H3,I3,rz,k,ek,q3⟩=>Calls.spliced_nil ?_))))
 subst ek
 obtain ⟨f1,mp,rel⟩:=d.map (P:=X.prog) I3.kIn
 refine call_meetsIn PySem.F.slot_dict_get mp.typeIs PySem.F.entry_dict_get (PySem.F.args_dict_get_3 _ _ _) (meets_dict_get_default (mixKind X.prog X.w) a (kV_is ry) nm fv) ⟨_,mp,⟨_,H3,I3.tok _,?_,q3⟩⟩
 exact (rel k).getD rz
end
end L2
end
section
set_option maxRecDepth 100000
set_option maxHeartbeats 4000000
namespace Prg
open PySem L2
open Vanbka (Bytes Lex reserved tokenKind)
abbrev sTellKind:PySem.Stmt:=top 41
abbrev sTellTokens:PySem.Stmt:=top 40
abbrev sTokensC:PySem.Stmt:=top 47
def tkV:List (Key×V):=[(.inr "NAME",.int 1),(.inr "NUMBER",.int 3),(.inr "QUOTED",.int 4)]
def kindOf(z:Str):V:=if inV (.str z) resV then .int 2 else (valV tkV (.inr z)).getD (.int 5)
theorem kind_all:∀ l∈fixedL,kindOf (kindS l)=V.int (tokenKind l):=by decide +kernel
theorem kind_of{l:Lex}(h:Wf l):kindOf (kindS l)=V.int (tokenKind l):=by
 rcases wf_cases h with z | ⟨x,rfl,z⟩ | ⟨n,rfl⟩ | ⟨x,rfl⟩
 ·exact kind_all l z
 ·rw [kind_name z]
  show _=V.int (if reserved.contains x then 2 else 1)
  rw [z]
  decide +kernel
 ·show kindOf "NUMBER"=V.int 3
  decide +kernel
 ·show kindOf "QUOTED"=V.int 4
  decide +kernel
section
variable{P:Program}{w:World}{K:PySem.W.Frag}{mg:Str→Option Value}{base:Heap}{f CF fI CT tI:Addr}{fd fdI tdI:FuncData}
def spTellKind:Sp:=fun vs H Q _=>∃ l:Lex,vs=[.str (kindS l)]∧Wf l∧Q (.int (tokenKind l)) H
theorem scTellKind:FnScope ["kind"] ["kind"] (defScope sTellKind):=⟨rfl,rfl,rfl,by decide +kernel,rfl,by decide +kernel,by decide +kernel⟩
theorem ok_tellKind(F:Fun K "tell_kind" "tell_kind" sTellKind f fd)(R:KTup K mg "RESERVED" resV)(N:KD w K mg "TOKEN_NUMBERS" tkV)(c1:CI mg "RESERVED_WORD" 2)(c2:CI mg "SIGN" 5):FnOk P w K mg base (CXF P w) 1 f fd ["kind"] spTellKind:=by
 refine F.okF (k:=0) scTellKind (fun vs H Q E h=>?_) (fun cdv A outer s H vs Q E hr h=>?_)
 ·obtain ⟨l,rfl,_⟩:=h
  rfl
 obtain ⟨l,rfl,hw,q⟩:=h
 obtain ⟨aR,mR,hR⟩:=R
 obtain ⟨aN,mN,hN⟩:=N
 refine ⟨_,pss_cons (ps_if (pt_cmpR op_in_seq (pv 0) (pe_cr mR rfl) rfl) (pss_one (ps_ret (pe_ci c1 rfl))) pss_nil)
  (pss_one (ps_ret (pe_dgetK2 (pe_cr mN rfl) (pv 0) (pe_ci c2 rfl) ⟨rfl,rfl,rfl,rfl⟩))),?_⟩
 have k:=kind_of hw
 unfold kindOf at k
 refine ⟨_,rfl,aR,_,rfl,.inr (hR _),res_flat,rfl,_,rfl,?_⟩
 rw [if_neg Bool.false_ne_true]
 refine ite2 (fun c=>?_) (fun c=>?_)
 ·rw [if_pos c] at k
  rw [← k] at q
  exact q
 ·rw [if_neg c] at k
  rw [← k] at q
  exact ⟨aN,tkV,rfl,hN,_,rfl,.inr (kindS l),rfl,q⟩
def tokNums(ts:List Vanbka.Tok):List Int:=ts.flatMap fun k=>[tokenKind k.lex,(k.place:Int),(k.len:Int)]
theorem tokNums_snoc(ts:List Vanbka.Tok)(t:Vanbka.Tok):tokNums (ts ++ [t])=tokNums ts ++ [tokenKind t.lex,(t.place:Int),(t.len:Int)]:=by unfold tokNums;simp
theorem tokNums_len(ts:List Vanbka.Tok):(tokNums ts).length=3 * ts.length:=by
 induction ts with
 | nil=>rfl
 | cons t r ih =>
  have e:tokNums (t::r)=[tokenKind t.lex,(t.place:Int),(t.len:Int)] ++ tokNums r:=by unfold tokNums;rw [List.flatMap_cons]
  rw [e,List.length_append,ih,List.length_cons]
  simp only [List.length_cons,List.length_nil]
  omega
def spTellT(CT:Addr):Sp:=fun vs H Q _=>∃ (l:Addr) (ts:List Vanbka.Tok),vs=[.ref l]∧TokL CT H l ts∧WfL ts∧ts.length≤600∧∀ a H',Same H H'→H' a=some (.lst ((tokNums ts).map V.int))→Q (.ref a) H'
theorem scTellT:FnScope ["tokens", "told", "token"] ["tokens"] (defScope sTellTokens):=⟨rfl,rfl,rfl,by decide +kernel,rfl,by decide +kernel,by decide +kernel⟩
theorem ok_tellT(F:Fun K "tell_tokens" "tell_tokens" sTellTokens f fd)(U:TokenAt K mg CT tI tdI)(G:Has P w K mg base 1 "tell_kind" ["kind"] spTellKind):FnOk P w K mg base (CXF P w) 2 f fd ["tokens"] (spTellT CT):=by
 refine F.okF (k:=1) scTellT (fun vs H Q E h=>?_) (fun cdv A outer s H vs Q E hr h=>?_)
 ·obtain ⟨l,ts,rfl,_⟩:=h
  rfl
 obtain ⟨lt,ts,rfl,⟨xs,hx,pr⟩,wf,hlen,q⟩:=h
 have nd:=scTellT.nd
 refine ⟨_,pss_cons (ps_set (i:=1) nd rfl (Or.inl rfl) (pe_lst pa_nil))
  (pss_cons (ps_for ownF rfl (pi_list (pv 0)) (pg_name (i:=2) nd rfl (Or.inl rfl))
   (pss_one (ps_expr (pe_bm PySem.F.plainAttrs_list PySem.F.slot_list_extend PySem.F.type_list_extend mt_extend (pv 1) (pa_cons (pe_lst (pa_cons (pe_has G hr rfl (pa_cons (pe_fld (pv 2) rfl) pa_nil)) (pa_cons (pe_fld (pv 2) rfl) (pa_cons (pe_op op_sub (pe_fld (pv 2) rfl) (pe_fld (pv 2) rfl)) pa_nil)))) pa_nil)))))
  (pss_one (ps_ret (pv 1)))),?_⟩
 have pl:=Paired.len pr
 refine ⟨by decide,fun l nl=>?_⟩
 have s0:Same H (upd H l (.lst [])):=same_new nl _
 have hS:SqL K H lt (xs.map V.ref):=SqL.of hx
 refine ⟨_,rfl,lt,rfl,⟨_,s0.seq hS⟩,fun i m σ H'=>m=ts.length - i∧i≤ts.length∧Same H H'∧H' l=some (.lst ((tokNums (ts.take i)).map V.int))∧∃ v2,σ=[some (.ref lt),some (.ref l),v2],⟨_,rfl,Nat.zero_le _,s0,upd_same,none,rfl⟩,?_⟩
 rintro i m σ H' ⟨rfl,hi,sm,hl,v2,rfl⟩
 have hS':=sm.seq hS
 by_cases hlt:i < ts.length
 ·have hti:ts[i]? = some ts[i]:=List.getElem?_eq_getElem hlt
  obtain ⟨x,ex,tx⟩:=Paired.get pr hti
  have hxi:(xs.map V.ref)[i]? = some (.ref x):=by rw [List.getElem?_map,ex];rfl
  refine .inr ⟨⟨_,_,hS',hxi⟩,fun σ' H2=>∃ m',m' < ts.length - i∧(m'=ts.length - (i + 1)∧i + 1≤ts.length∧Same H H2∧H2 l=some (.lst ((tokNums (ts.take (i + 1))).map V.int))∧∃ v2,σ'=[some (.ref lt),some (.ref l),v2]),fun _ _ z=>z,?_⟩
  rintro y H2 ⟨rfl,hy⟩
  have ey:=hy _ hS'
  rw [hxi] at ey
  cases ey
  obtain ⟨dt,v,e,_⟩:=tx
  have ho:=sm _ _ e
  have wt:Wf (ts[i]).lex:=wf _ (List.getElem_mem hlt)
  refine ⟨_,rfl,.inl ⟨rfl,_,SqL.of hl⟩,_,rfl,x,CT,dt,_,_,rfl,ho,U.c.cl,U.c.no _ (.head _),rfl,(ts[i]).lex,rfl,wt,?_⟩
  refine ⟨_,rfl,x,CT,dt,_,_,rfl,ho,U.c.cl,U.c.no _ (.tail _ (.head _)),rfl,?_⟩
  refine ⟨_,rfl,x,CT,dt,_,_,rfl,ho,U.c.cl,U.c.no _ (.tail _ (.tail _ (.head _))),rfl,_,rfl,x,CT,dt,_,_,rfl,ho,U.c.cl,U.c.no _ (.tail _ (.head _)),rfl,_,_,rfl,rfl,(by show 3≤2 ^ 24;decide),fun c nc=>?_⟩
  have ll:(tokNums (ts.take i)).length=3 * i:=by rw [tokNums_len,List.length_take];omega
  refine ⟨l,c,_,_,rfl,rfl,(same_new nc _) _ _ hl,upd_same,?_,_,Nat.lt_of_lt_of_le (Nat.lt_succ_self _) (by omega),rfl,hlt,same_upd (sm.trans (same_new nc _)) nl,?_,_,rfl⟩
  ·rw [List.length_map,ll]
   show 3 * i + 3≤2 ^ 24
   omega
  ·have et:ts.take (i + 1)=ts.take i ++ [ts[i]]:=by rw [List.take_add_one,hti];rfl
   have el:(((ts[i]).place + (ts[i]).len:Nat):Int) - ((ts[i]).place:Int)=((ts[i]).len:Int):=by omega
   rw [upd_same,et,tokNums_snoc,List.map_append,← el]
   rfl
 ·have e:i=ts.length:=by omega
  subst e
  rw [List.take_length] at hl
  exact .inl ⟨⟨_,hS',by rw [List.length_map,pl];exact Nat.le_refl _⟩,_,rfl,q l H' sm hl⟩
theorem scTokC:FnScope ["text", "found"] ["text"] (defScope sTokensC):=⟨rfl,rfl,rfl,by decide +kernel,rfl,by decide +kernel,by decide +kernel⟩
theorem ok_tokC(F:Fun K "tokens" "tokens" sTokensC f fd)(T:FaultAt K mg CF fI fdI)(GL:Has P w K mg base 1 "is_too_long" ["text"] (spLong K))(G:Has P w K mg base 6 "read_tokens" ["text"] (spRToks K CF CT))(GT:Has P w K mg base 2 "tell_tokens" ["tokens"] (spTellT CT))(ml:mg "len"=none)(c2:CI mg "TOO_LONG" (-1))(c3:CI mg "NOT_GOOD" (-2)) :
  FnOk P w K mg base (CXF P w) 7 f fd ["text"] (spT K Vanbka.tokensTold):=by
 refine F.okF (k:=6) scTokC (fun vs H Q E h=>?_) (fun cdv A outer s H vs Q E hr h=>?_)
 ·obtain ⟨a,t,rfl,_⟩:=h
  rfl
 obtain ⟨a,t,rfl,hS,q⟩:=h
 have nd:=scTokC.nd
 obtain ⟨gf,gfd,gF,gb,gk,gm⟩:=G
 refine ⟨_,(pss_cons (ps_if (pt_val (pe_has GL hr rfl (pa_cons (pv 0) pa_nil))) (pss_one (ps_ret (pe_lst (pa_cons (pe_ci c2 rfl) pa_nil)))) pss_nil)
   (pss_cons (ps_tryN (tb:=fun EB=>tAsg (tCall (spRToks K CF CT) [] EB (tCons (tVar 0) tNil)) (gName 1)) (ts:=tRet (tLst (tCons (tC (.int (-2))) tNil))) rfl rfl rfl rfl T.m T.x (fun _ _ _ hp=>(pss_one (ps_set (i:=1) nd rfl (Or.inl rfl) (pe_call gF hr rfl gm gk gb .nil hp (pa_cons (pv 0) pa_nil))))) (fun _ _=>(pss_one (ps_ret (pe_lst (pa_cons (pe_ci c3 rfl) pa_nil))))))
   (pss_one (ps_ret (pe_op op_cat (pe_lst (pa_cons (pe_callB call_len_seq rfl ml PySem.boot_len (pa_cons (pv 1) pa_nil)) pa_nil)) (pe_has GT hr rfl (pa_cons (pv 1) pa_nil))))))),?_⟩
 unfold Vanbka.tokensTold at q
 refine ⟨_,rfl,a,t,rfl,hS,_,rfl,ite2 (fun c=>?_) (fun c=>?_)⟩
 ·rw [if_pos (of_decide_eq_true c)] at q
  exact ⟨(by show 1≤2 ^ 24;decide),fun l nl=>q l _ upd_same⟩
 ·have c:¬ Vanbka.LONGEST < t.length:=fun z=>c (decide_eq_true z)
  rw [if_neg c] at q
  have hlen:t.length≤600:=by unfold Vanbka.LONGEST at c;omega
  have an:(t.findIdx? (fun c => !Vanbka.allowed c)).isSome=t.any (fun c => !Vanbka.allowed c):=List.findIdx?_isSome
  cases hf:t.findIdx? (fun c => !Vanbka.allowed c) with
  | some p =>
   rw [hf] at an
   rw [if_pos (show t.any (fun c => !Vanbka.allowed c)=true from an.symm)] at q
   refine ⟨fun C' dxo H'=>∃ dx,C' = .ref CF∧dxo=some dx,⟨_,rfl,a,t,rfl,hS,by omega,?_⟩,?_⟩
   ·rw [hf]
    exact fun dx H' hx=>⟨dx,rfl,rfl⟩
   ·rintro C' dxo H' ⟨dx,rfl,rfl⟩
    exact ⟨rfl,dx,rfl,fun σ' H2 hl sm=>⟨(by show 1≤2 ^ 24;decide),fun l nl=>q l _ upd_same⟩⟩
  | none =>
   rw [hf] at an
   rw [if_neg (by rw [← an];exact Bool.false_ne_true)] at q
   cases ht:Vanbka.tokens t with
   | error p =>
    rw [ht] at q
    refine ⟨fun C' dxo H'=>∃ dx,C' = .ref CF∧dxo=some dx,⟨_,rfl,a,t,rfl,hS,by omega,?_⟩,?_⟩
    ·rw [hf,ht]
     exact fun dx H' hx=>⟨dx,rfl,rfl⟩
    ·rintro C' dxo H' ⟨dx,rfl,rfl⟩
     exact ⟨rfl,dx,rfl,fun σ' H2 hl sm=>⟨(by show 1≤2 ^ 24;decide),fun l nl=>q l _ upd_same⟩⟩
   | ok ts =>
    rw [ht] at q
    have wf:WfL ts:=tokens_wf _ _ _ _ ht
    have ln:ts.length≤t.length:=tokens_len _ _ _ _ ht
    refine ⟨fun _ _ _=>False,⟨_,rfl,a,t,rfl,hS,by omega,?_⟩,fun _ _ _ z=>z.elim⟩
    rw [hf,ht]
    intro l H1 s1 tk
    have tk:TokL CT H1 l ts:=TokL.same (fun b o e=>by
     rcases cut_cases e with z | ⟨_,_,z⟩
     ·cases z
     ·exact z) tk
    obtain ⟨xs,hx,pr⟩:=id tk
    have pl:=Paired.len pr
    refine ⟨_,rfl,l,_,rfl,.inl (SqL.of hx),(by show 1≤2 ^ 24;decide),fun l1 m1=>⟨_,rfl,l,ts,rfl,TokL.same (same_new m1 _) tk,wf,by omega,fun p H2 s2 hp=>?_⟩⟩
    refine ⟨l1,p,_,_,rfl,rfl,s2 _ _ upd_same,hp,?_,fun l2 m2=>q l2 _ ?_⟩
    ·show 1 + ((tokNums ts).map V.int).length≤2 ^ 24
     rw [List.length_map,tokNums_len]
     omega
    ·rw [upd_same,List.length_map,pl]
     show _=some (HO.lst (List.map V.int ((ts.length:Int)::tokNums ts)))
     rfl
end
end Prg
end
section
set_option maxRecDepth 100000
set_option maxHeartbeats 2000000
namespace L2
open PySem PySem.Spec PyProof.Rows
open PySem.W (WData Codec OpenSpec Well WellAll ReadsW ReadsAllW)
mutual
inductive Dw(K:PySem.W.Frag)(H:Hp):V→WData→Prop
 | non:Dw K H .non .none
 | bl (b:Bool):Dw K H (.bl b) (.bool b)
 | int (i:Int):Dw K H (.int i) (.int i)
 | str (x:Str):Dw K H (.str x) (.str x)
 | byt (b:Array UInt8):Dw K H (.byt b) (.bytes b.toList)
 | lst {a:Addr} {xs:List V} {ds:List WData}:SqL K H a xs→DwAll K H xs ds→Dw K H (.ref a) (.list ds)
 | tup {a:Addr} {xs:List V} {ds:List WData}:SqT K H a xs→DwAll K H xs ds→Dw K H (.ref a) (.tuple ds)
inductive DwAll(K:PySem.W.Frag)(H:Hp):List V→List WData→Prop
 | nil:DwAll K H [] []
 | cons {v:V} {vs:List V} {d:WData} {ds:List WData}:Dw K H v d→DwAll K H vs ds→DwAll K H (v::vs) (d::ds)
end
theorem dw_ints{K:PySem.W.Frag}{H:Hp}:∀ ns:List Int,DwAll K H (ns.map V.int) (ns.map WData.int)
 | []=>.nil
 | n::r=>.cons (.int n) (dw_ints r)
theorem ints_dw{K:PySem.W.Frag}{H:Hp}:∀ (ns:List Int) (xs:List V),DwAll K H xs (ns.map WData.int)→xs=ns.map V.int
 | [],xs,h=>by
  cases h
  rfl
 | n::r,xs,h=>by
  cases h with
  | cons h1 h2 =>
   cases h1
   rw [ints_dw r _ h2] <;> rfl
section
variable{P:Program}{w:World}{K:PySem.W.Frag}{H:Hp}{h:Heap}{R:PySem.W.WRecords}{cl:Str→Option Addr}
theorem sqL_at{a:Addr}{xs:List V}(hok:HOk P w H h)(KX:K.In h)(q:SqL K H a xs):∃ (its:List Value) (o:Obj) (n:Nat),Vals xs its∧h.get? a=some o∧o.cls = .type "list"∧o.data = .seq its.toArray n:=by
 rcases q with q | ⟨o,its,n,e,hc,_,hd,_,hv⟩
 ·obtain ⟨_,its,n,hv,e⟩:=(show ObjOk P w H h a (.lst xs) from q.ok hok)
  exact ⟨its,_,n,hv,e,rfl,rfl⟩
 ·exact ⟨its.toList,o,n,hv,KX _ _ e,hc,by simp [hd]⟩
theorem sqT_at{a:Addr}{xs:List V}(hok:HOk P w H h)(KX:K.In h)(q:SqT K H a xs):∃ (its:List Value) (o:Obj) (n:Nat),Vals xs its∧h.get? a=some o∧o.cls = .type "tuple"∧o.data = .seq its.toArray n:=by
 rcases q with q | ⟨o,its,n,e,hc,hd,_,hv⟩
 ·obtain ⟨_,its,hv,o,e,hc,n,hd⟩:=(show ObjOk P w H h a (.tup xs) from q.ok hok)
  exact ⟨its,o,n,hv,e,hc,hd⟩
 ·exact ⟨its.toList,o,n,hv,KX _ _ e,hc,by simp [hd]⟩
mutual
theorem Dw.reads(hok:HOk P w H h)(KX:K.In h):∀ (d:WData) (v:V) (u:Value),Dw K H v d→RelV v u→∃ as,ReadsW R cl h u d as
 | .none,_,_,x,r=>by
  cases x
  cases r
  exact ⟨_,ReadsW.none⟩
 | .bool b,_,_,x,r=>by
  cases x
  cases r
  exact ⟨_,ReadsW.bool b⟩
 | .int i,_,_,x,r=>by
  cases x
  obtain ⟨t,rfl⟩:=r
  exact ⟨_,ReadsW.int i t⟩
 | .str s,_,_,x,r=>by
  cases x
  obtain ⟨t,rfl⟩:=r
  exact ⟨_,ReadsW.str s t⟩
 | .bytes b,_,_,x,r=>by
  cases x
  obtain ⟨t,rfl⟩:=r
  exact ⟨_,ReadsW.bytes _ t⟩
 | .list ds,_,_,x,r=>by
  cases x with
  | lst hs ha =>
   cases r
   obtain ⟨its,o,n,rv,ho,hc,hd⟩:=sqL_at hok KX hs
   obtain ⟨as,hr⟩:=Dw.readsAll hok KX ds _ its ha rv
   exact ⟨_,ReadsW.list ho hc hd hr⟩
 | .tuple ds,_,_,x,r=>by
  cases x with
  | tup hs ha =>
   cases r
   obtain ⟨its,o,n,rv,ho,hc,hd⟩:=sqT_at hok KX hs
   obtain ⟨as,hr⟩:=Dw.readsAll hok KX ds _ its ha rv
   exact ⟨_,ReadsW.tuple ho hc hd hr⟩
 | .float _,_,_,x,_=>by cases x
 | .dict _,_,_,x,_=>by cases x
 | .bytearray _,_,_,x,_=>by cases x
 | .set _,_,_,x,_=>by cases x
 | .frozenset _,_,_,x,_=>by cases x
 | .obj _ _,_,_,x,_=>by cases x
theorem Dw.readsAll(hok:HOk P w H h)(KX:K.In h):∀ (ds:List WData) (vs:List V) (us:List Value),DwAll K H vs ds→Vals vs us→∃ as,ReadsAllW R cl h us ds as
 | [],_,_,x,r=>by
  cases x
  cases r
  exact ⟨_,ReadsAllW.nil⟩
 | d::ds,_,_,x,r=>by
  cases x with
  | cons h1 h2 =>
   cases r with
   | cons r1 r2 =>
    obtain ⟨as,q1⟩:=Dw.reads hok KX d _ _ h1 r1
    obtain ⟨bs,q2⟩:=Dw.readsAll hok KX ds _ _ h2 r2
    exact ⟨_,ReadsAllW.cons q1 q2⟩
end
end
mutual
def plW:WData→Bool
 | .none=>true
 | .bool _=>true
 | .int _=>true
 | .str _=>true
 | .bytes _=>true
 | .list xs=>plWs xs
 | .tuple xs=>plWs xs
 | _=>false
def plWs:List WData→Bool
 | []=>true
 | x::r=>plW x && plWs r
end
theorem plWs_map{α:Type}{f:α→WData}(h:∀ a,plW (f a)=true):∀ l:List α,plWs (l.map f)=true
 | []=>rfl
 | x::r=>by
  show (plW (f x) && plWs (r.map f))=true
  rw [h x,plWs_map h r] <;> rfl
theorem pl_enc:∀ (c:Codec) (a:c.denote),plW (c.enc a)=true
 | .unit,_=>rfl
 | .bool,_=>rfl
 | .int _ _,_=>rfl
 | .nat _ _,_=>rfl
 | .u8,_=>rfl
 | .bytes _ _,_=>rfl
 | .text _ _ _ _,_=>rfl
 | .list _ _ c,a=>plWs_map (fun x=>pl_enc c x) a
 | .pair c d,a=>by
  show (plW (c.enc a.1) && (plW (d.enc a.2) && true))=true
  rw [pl_enc c a.1,pl_enc d a.2] <;> rfl
 | .triple c d e,a=>by
  show (plW (c.enc a.1) && (plW (d.enc a.2.1) && (plW (e.enc a.2.2) && true)))=true
  rw [pl_enc c a.1,pl_enc d a.2.1,pl_enc e a.2.2] <;> rfl
 | .option c,none=>rfl
 | .option c,some x=>pl_enc c x
theorem pl_encAll:∀ (cs:List Codec) (a:Codec.denoteAll cs),plWs (Codec.encAll cs a)=true
 | [],_=>rfl
 | c::cs,a=>by
  show (plW (c.enc a.1) && plWs (Codec.encAll cs a.2))=true
  rw [pl_enc c a.1,pl_encAll cs a.2] <;> rfl
theorem weight_mem:∀ {xs:List WData} {d:WData},d∈xs→d.weight≤WData.weightAll xs
 | [],d,h=>absurd h (by simp)
 | x::r,d,h=>by
  show d.weight≤x.weight + 1 + WData.weightAll r
  rcases List.mem_cons.mp h with e | m
  ·rw [e]
   omega
  ·have z:=weight_mem m
   omega
def toV:Value→V
 | .none=>.non
 | .bool b=>.bl b
 | .int i _=>.int i
 | .str x _=>.str x
 | .bytes b _=>.byt b
 | .ref a=>.ref a
 | _=>.non
def OkU(A:List Addr):Value→Prop
 | .none=>True
 | .bool _=>True
 | .int _ _=>True
 | .str _ _=>True
 | .bytes _ _=>True
 | .ref a=>a∈A
 | _=>False
theorem OkU.mono{A B:List Addr}(h:∀ a∈A,a∈B):∀ {u:Value},OkU A u→OkU B u:=fun {u} x=>by
 cases u with
 | ref a=>exact h a x
 | none=>trivial
 | bool b=>trivial
 | int i t=>trivial
 | str s t=>trivial
 | bytes b t=>trivial
 | _=>exact False.elim x
theorem relV_toV{A:List Addr}{u:Value}(x:OkU A u):RelV (toV u) u:=by
 cases u with
 | ref a=>rfl
 | none=>rfl
 | bool b=>rfl
 | int i t=>exact ⟨t,rfl⟩
 | str s t=>exact ⟨t,rfl⟩
 | bytes b t=>exact ⟨t,rfl⟩
 | _=>exact False.elim x
theorem vals_toV{A:List Addr}:∀ {vs:List Value},(∀ u∈vs,OkU A u)→Vals (vs.map toV) vs
 | [],_=>.nil
 | u::r,h=>.cons (relV_toV (h u (List.mem_cons_self ..))) (vals_toV fun x hx=>h x (List.mem_cons_of_mem _ hx))
def ArgOb(h:Heap)(A:List Addr)(a:Addr):Prop:=∃ vs:List Value,vs.length≤sizeLine∧(∀ u∈vs,OkU A u)∧
 (h.get? a=some { cls:=.type "list",data:=.seq vs.toArray }∨h.get? a=some { cls:=.type "tuple",data:=.seq vs.toArray })
theorem ArgOb.mono{h:Heap}{A B:List Addr}{a:Addr}(k:∀ a∈A,a∈B)(x:ArgOb h A a):ArgOb h B a:=by
 obtain ⟨vs,h1,h2,h3⟩:=x
 exact ⟨vs,h1,fun u hu=>(h2 u hu).mono k,h3⟩
theorem wellAll_len{P:Params}{h:Heap}:∀ {vs:List Value} {ds:List WData},WellAll P h vs ds→vs.length=ds.length
 | _,_,.nil=>rfl
 | _,_,.cons _ b=>by
  show _ + 1=_ + 1
  rw [wellAll_len b]
theorem well_list{P:Params}{h:Heap}{v:Value}{ds:List WData}(x:Well P h v (.list ds)):∃ (a:Addr) (vs:List Value),v = .ref a∧h.get? a=some { cls:=.type "list",data:=.seq vs.toArray }∧WellAll P h vs ds:=by
 cases x with
 | list ho hall=>exact ⟨_,_,rfl,ho,hall⟩
theorem well_tuple{P:Params}{h:Heap}{v:Value}{ds:List WData}(x:Well P h v (.tuple ds)):∃ (a:Addr) (vs:List Value),v = .ref a∧h.get? a=some { cls:=.type "tuple",data:=.seq vs.toArray }∧WellAll P h vs ds:=by
 cases x with
 | tuple ho hall=>exact ⟨_,_,rfl,ho,hall⟩
theorem well_cons{P:Params}{h:Heap}{us:List Value}{d:WData}{ds:List WData}(x:WellAll P h us (d::ds)):∃ (v:Value) (vs:List Value),us=v::vs∧Well P h v d∧WellAll P h vs ds:=by
 cases x with
 | cons a b=>exact ⟨_,_,rfl,a,b⟩
theorem line_of{n:Nat}(h:n≤1048576):n≤sizeLine:=Nat.le_trans h (by decide)
section
variable{P:Params}{h:Heap}
mutual
theorem area_one:∀ (d:WData) (v:Value),Well P h v d→plW d=true→d.weight≤1048576→∃ A:List Addr,OkU A v∧∀ a∈A,ArgOb h A a
 | .none,_,x,_,_=>by
  cases x
  exact ⟨[],trivial,fun a m=>absurd m (by simp)⟩
 | .bool b,_,x,_,_=>by
  cases x
  exact ⟨[],trivial,fun a m=>absurd m (by simp)⟩
 | .int i,_,x,_,_=>by
  cases x
  exact ⟨[],trivial,fun a m=>absurd m (by simp)⟩
 | .str s,_,x,_,_=>by
  cases x
  exact ⟨[],trivial,fun a m=>absurd m (by simp)⟩
 | .bytes b,_,x,_,_=>by
  cases x
  exact ⟨[],trivial,fun a m=>absurd m (by simp)⟩
 | .list ds,_,x,p,z=>by
  obtain ⟨a,vs,rfl,ho,hall⟩:=well_list x
  have z2:WData.weightAll ds≤1048576:=z
  obtain ⟨A,h1,h2⟩:=area_all ds _ hall p fun d hd=>Nat.le_trans (weight_mem hd) z2
  have k:∀ b∈A,b∈a::A:=fun b hb=>List.mem_cons_of_mem _ hb
  refine ⟨a::A,List.mem_cons_self ..,fun b hb=>?_⟩
  rcases List.mem_cons.mp hb with e | m
  ·rw [e]
   exact ⟨vs,line_of (by rw [wellAll_len hall];exact Nat.le_trans (PySem.W.length_le_weightAllW ds) z2),fun u hu=>(h1 u hu).mono k,.inl ho⟩
  ·exact (h2 b m).mono k
 | .tuple ds,_,x,p,z=>by
  obtain ⟨a,vs,rfl,ho,hall⟩:=well_tuple x
  have z2:WData.weightAll ds≤1048576:=z
  obtain ⟨A,h1,h2⟩:=area_all ds _ hall p fun d hd=>Nat.le_trans (weight_mem hd) z2
  have k:∀ b∈A,b∈a::A:=fun b hb=>List.mem_cons_of_mem _ hb
  refine ⟨a::A,List.mem_cons_self ..,fun b hb=>?_⟩
  rcases List.mem_cons.mp hb with e | m
  ·rw [e]
   exact ⟨vs,line_of (by rw [wellAll_len hall];exact Nat.le_trans (PySem.W.length_le_weightAllW ds) z2),fun u hu=>(h1 u hu).mono k,.inr ho⟩
  ·exact (h2 b m).mono k
 | .float _,_,_,p,_=>Bool.noConfusion (show false=true from p)
 | .dict _,_,_,p,_=>Bool.noConfusion (show false=true from p)
 | .bytearray _,_,_,p,_=>Bool.noConfusion (show false=true from p)
 | .set _,_,_,p,_=>Bool.noConfusion (show false=true from p)
 | .frozenset _,_,_,p,_=>Bool.noConfusion (show false=true from p)
 | .obj _ _,_,_,p,_=>Bool.noConfusion (show false=true from p)
theorem area_all:∀ (ds:List WData) (vs:List Value),WellAll P h vs ds→plWs ds=true→(∀ d∈ds,d.weight≤1048576)→∃ A:List Addr,(∀ u∈vs,OkU A u)∧∀ a∈A,ArgOb h A a
 | [],_,x,_,_=>by
  cases x
  exact ⟨[],fun u m=>absurd m (by simp),fun a m=>absurd m (by simp)⟩
 | d::ds,_,x,p,z=>by
  obtain ⟨v,vs,rfl,x1,x2⟩:=well_cons x
  have q:plW d=true∧plWs ds=true:=Bool.and_eq_true_iff.mp p
  obtain ⟨A,a1,a2⟩:=area_one d v x1 q.1 (z d (List.mem_cons_self ..))
  obtain ⟨B,b1,b2⟩:=area_all ds vs x2 q.2 fun e he=>z e (List.mem_cons_of_mem _ he)
  have kA:∀ b∈A,b∈A ++ B:=fun b hb=>List.mem_append.mpr (.inl hb)
  have kB:∀ b∈B,b∈A ++ B:=fun b hb=>List.mem_append.mpr (.inr hb)
  refine ⟨A ++ B,fun u hu=>?_,fun b hb=>?_⟩
  ·rcases List.mem_cons.mp hu with e | m
   ·rw [e]
    exact a1.mono kA
   ·exact (b1 u m).mono kB
  ·rcases List.mem_append.mp hb with m | m
   ·exact (a2 b m).mono kA
   ·exact (b2 b m).mono kB
end
end
def hoOf(o:Obj):Option HO:=match o.data with
 | .seq vs _=>if (o.cls == Value.type "list")=true then some (.frz o (.lst (vs.toList.map toV))) else some (.frz o (.tup (vs.toList.map toV)))
 | _=>none
def argH(K:PySem.W.Frag)(h:Heap)(A:List Addr):Hp:=fun b=>if b∈A then (if (K.lookup b).isNone=true then (h.get? b).bind hoOf else none) else none
def OnlyF(H:Hp):Prop:=∀ b,H b=none∨∃ o u,H b=some (.frz o u)
theorem hoOf_lst(vs:List Value):hoOf { cls:=.type "list",data:=.seq vs.toArray }=some (.frz { cls:=.type "list",data:=.seq vs.toArray } (.lst (vs.map toV))):=by
 show (if (Value.type "list" == Value.type "list")=true then some (HO.frz { cls:=.type "list",data:=.seq vs.toArray } (.lst (vs.toArray.toList.map toV))) else some (HO.frz { cls:=.type "list",data:=.seq vs.toArray } (.tup (vs.toArray.toList.map toV))))=_
 rw [if_pos (beq_self_eq_true _)]
theorem hoOf_tup(vs:List Value):hoOf { cls:=.type "tuple",data:=.seq vs.toArray }=some (.frz { cls:=.type "tuple",data:=.seq vs.toArray } (.tup (vs.map toV))):=by
 show (if (Value.type "tuple" == Value.type "list")=true then some (HO.frz { cls:=.type "tuple",data:=.seq vs.toArray } (.lst (vs.toArray.toList.map toV))) else some (HO.frz { cls:=.type "tuple",data:=.seq vs.toArray } (.tup (vs.toArray.toList.map toV))))=_
 rw [if_neg (by decide)]
section
variable{P:Program}{w:World}{K:PySem.W.Frag}{h:Heap}{A:List Addr}
theorem argH_at{b:Addr}{o:Obj}(hb:b∈A)(hk:K.lookup b=none)(e:h.get? b=some o):argH K h A b=hoOf o:=by
 unfold argH
 rw [if_pos hb,hk,if_pos (show (none:Option Obj).isNone=true from rfl),e] <;> rfl
theorem of_argH{b:Addr}{u:HO}(q:argH K h A b=some u):b∈A∧K.lookup b=none:=by
 unfold argH at q
 by_cases hb:b∈A
 ·rw [if_pos hb] at q
  cases hk:K.lookup b with
  | none=>exact ⟨hb,rfl⟩
  | some o =>
   rw [hk,if_neg (by simp)] at q
   cases q
 ·rw [if_neg hb] at q
  cases q
theorem argH_is(ar:∀ a∈A,ArgOb h A a){b:Addr}{u:HO}(q:argH K h A b=some u):K.lookup b=none∧∃ vs:List Value,vs.length≤sizeLine∧(∀ u∈vs,OkU A u)∧
  ((h.get? b=some { cls:=.type "list",data:=.seq vs.toArray }∧u = .frz { cls:=.type "list",data:=.seq vs.toArray } (.lst (vs.map toV)))∨
  (h.get? b=some { cls:=.type "tuple",data:=.seq vs.toArray }∧u = .frz { cls:=.type "tuple",data:=.seq vs.toArray } (.tup (vs.map toV)))):=by
 obtain ⟨hb,hk⟩:=of_argH q
 obtain ⟨vs,h1,h2,h3⟩:=ar b hb
 refine ⟨hk,vs,h1,h2,?_⟩
 rcases h3 with e | e
 ·rw [argH_at hb hk e,hoOf_lst] at q
  exact .inl ⟨e,(Option.some.inj q).symm⟩
 ·rw [argH_at hb hk e,hoOf_tup] at q
  exact .inr ⟨e,(Option.some.inj q).symm⟩
theorem argH_only(ar:∀ a∈A,ArgOb h A a):OnlyF (argH K h A):=fun b=>by
 cases q:argH K h A b with
 | none=>exact .inl rfl
 | some u =>
  obtain ⟨_,vs,_,_,⟨_,e⟩ | ⟨_,e⟩⟩:=argH_is ar q
  ·exact .inr ⟨_,_,by rw [e]⟩
  ·exact .inr ⟨_,_,by rw [e]⟩
theorem argH_ok(ar:∀ a∈A,ArgOb h A a):HOk P w (argH K h A) h:=fun b u q=>by
 obtain ⟨_,vs,h1,h2,⟨e,rfl⟩ | ⟨e,rfl⟩⟩:=argH_is ar q
 ·exact ⟨e,by rw [List.length_map];exact h1,vs,_,vals_toV h2,e⟩
 ·exact ⟨e,by rw [List.length_map];exact h1,vs,vals_toV h2,_,e,rfl,_,rfl⟩
theorem seq_inj{c c':Value}{vs us:List Value}(e:(some { cls:=c,data:=.seq vs.toArray }:Option Obj)=some { cls:=c',data:=.seq us.toArray }):c=c'∧vs=us:=by
 have e1:=Option.some.inj e
 have e2:c=c':=congrArg Obj.cls e1
 have e3:Data.seq vs.toArray=Data.seq us.toArray:=congrArg Obj.data e1
 injection e3 with e4
 refine ⟨e2,?_⟩
 have e5:=congrArg Array.toList e4
 simpa using e5
theorem argL(KX:K.In h)(ar:∀ a∈A,ArgOb h A a){a:Addr}{vs:List Value}(ha:a∈A)(e:h.get? a=some { cls:=.type "list",data:=.seq vs.toArray }):(∀ u∈vs,OkU A u)∧SqL K (argH K h A) a (vs.map toV):=by
 obtain ⟨us,h1,h2,h3⟩:=ar a ha
 have hu:us=vs:=by
  rcases h3 with q | q
  ·rw [e] at q
   exact (seq_inj q).2.symm
  ·rw [e] at q
   exact absurd (Value.type.inj (seq_inj q).1) (by decide)
 subst hu
 refine ⟨h2,?_⟩
 cases hk:K.lookup a with
 | none=>exact .inl (.inr ⟨_,by rw [argH_at ha hk e,hoOf_lst]⟩)
 | some o =>
  have e2:=KX a o hk
  rw [e] at e2
  obtain rfl:=Option.some.inj e2
  exact .inr ⟨_,us.toArray,_,hk,rfl,rfl,rfl,by rw [List.size_toArray];exact h1,by simpa using vals_toV h2⟩
theorem argT(KX:K.In h)(ar:∀ a∈A,ArgOb h A a){a:Addr}{vs:List Value}(ha:a∈A)(e:h.get? a=some { cls:=.type "tuple",data:=.seq vs.toArray }):(∀ u∈vs,OkU A u)∧SqT K (argH K h A) a (vs.map toV):=by
 obtain ⟨us,h1,h2,h3⟩:=ar a ha
 have hu:us=vs:=by
  rcases h3 with q | q
  ·rw [e] at q
   exact absurd (Value.type.inj (seq_inj q).1) (by decide)
  ·rw [e] at q
   exact (seq_inj q).2.symm
 subst hu
 refine ⟨h2,?_⟩
 cases hk:K.lookup a with
 | none=>exact .inl (.inr ⟨_,by rw [argH_at ha hk e,hoOf_tup]⟩)
 | some o =>
  have e2:=KX a o hk
  rw [e] at e2
  obtain rfl:=Option.some.inj e2
  exact .inr ⟨_,us.toArray,_,hk,rfl,rfl,by rw [List.size_toArray];exact h1,by simpa using vals_toV h2⟩
mutual
theorem dw_one{Pm:Params}(KX:K.In h)(ar:∀ a∈A,ArgOb h A a):∀ (d:WData) (v:Value),Well Pm h v d→plW d=true→OkU A v→Dw K (argH K h A) (toV v) d
 | .none,_,x,_,_=>by
  cases x
  exact .non
 | .bool b,_,x,_,_=>by
  cases x
  exact .bl b
 | .int i,_,x,_,_=>by
  cases x
  exact .int i
 | .str s,_,x,_,_=>by
  cases x
  exact .str s
 | .bytes b,_,x,_,_=>by
  cases x
  have z:=Dw.byt (K:=K) (H:=argH K h A) b.toArray
  exact z
 | .list ds,_,x,p,hu=>by
  obtain ⟨a,vs,rfl,ho,hall⟩:=well_list x
  obtain ⟨h2,hs⟩:=argL KX ar hu ho
  exact .lst hs (dw_all KX ar ds _ hall p h2)
 | .tuple ds,_,x,p,hu=>by
  obtain ⟨a,vs,rfl,ho,hall⟩:=well_tuple x
  obtain ⟨h2,hs⟩:=argT KX ar hu ho
  exact .tup hs (dw_all KX ar ds _ hall p h2)
 | .float _,_,_,p,_=>Bool.noConfusion (show false=true from p)
 | .dict _,_,_,p,_=>Bool.noConfusion (show false=true from p)
 | .bytearray _,_,_,p,_=>Bool.noConfusion (show false=true from p)
 | .set _,_,_,p,_=>Bool.noConfusion (show false=true from p)
 | .frozenset _,_,_,p,_=>Bool.noConfusion (show false=true from p)
 | .obj _ _,_,_,p,_=>Bool.noConfusion (show false=true from p)
theorem dw_all{Pm:Params}(KX:K.In h)(ar:∀ a∈A,ArgOb h A a):∀ (ds:List WData) (vs:List Value),WellAll Pm h vs ds→plWs ds=true→(∀ u∈vs,OkU A u)→DwAll K (argH K h A) (vs.map toV) ds
 | [],_,x,_,_=>by
  cases x
  exact .nil
 | d::ds,_,x,p,hu=>by
  obtain ⟨v,vs,rfl,x1,x2⟩:=well_cons x
  have q:plW d=true∧plWs ds=true:=Bool.and_eq_true_iff.mp p
  exact .cons (dw_one KX ar d v x1 q.1 (hu _ (List.mem_cons_self ..))) (dw_all KX ar ds vs x2 q.2 fun u m=>hu u (List.mem_cons_of_mem _ m))
end
end
theorem spec_call{P:Program}{w:World}{K:PySem.W.Frag}{mg mb:Str→Option Value}{CX:CXT}{k:Nat}{fa:Addr}{fd:FuncData}{ps:List Str}{sp:Sp}{s₁:Shared}{vals:List Value}{ds:List WData}{R:PySem.W.WRecords}{cl:Str→Option Addr}{d0:WData}
  (KX:K.In s₁.heap) (hns:s₁.heap.Ns mainGlobals mg) (hb:s₁.heap.Ns builtinsNs mb) (hbb:∀ x:Str,x≠"__name__"→mb x=bootBuiltins x) (hlim:s₁.heap.NoLimit) (hg:s₁.gens = #[])
  (hwl:WellAll w.params s₁.heap vals ds) (hpl:plWs ds=true) (hwt:∀ d∈ds,d.weight≤1048576) (hr:Room k callerA)
  (F:∀ base:Heap,K.In base→base.Ns mainGlobals mg→FnOk P w K mg base CX k fa fd ps sp) (hbind:∀ (s:Shared) (us:List Value),us.length=ps.length→BindsTo s fd ⟨us,[]⟩ (ps.zip us)) (hlen:ds.length=ps.length)
  (hsp:∀ (H:Hp) (xs:List V),OnlyF H→DwAll K H xs ds→sp xs H (fun v H'=>Dw K H' v d0) fun _ _ _=>False)
  (hCX:∀ H e s',CX [] H s₁ (fun _ _ _=>False) e s'→False) :
  codeAny (model P w) callerA (.call (.ref fa) ⟨vals,[]⟩) (fun r s'=>∃ u as,r = .ok (.ret u)∧ReadsW R cl s'.heap u d0 as∧OldK s₁.heap s'.heap∧s'.os=s₁.os∧AllBare s'.gens) s₁:=by
 obtain ⟨A,ho,ar⟩:=area_all ds vals hwl hpl hwt
 have hO:OnlyF (argH K s₁.heap A):=argH_only ar
 have hok:HOk P w (argH K s₁.heap A) s₁.heap:=argH_ok ar
 have hS:=dw_all KX ar ds vals hwl hpl ho
 have hV:=vals_toV ho
 have hK:∀ b u,argH K s₁.heap A b=some u→K.lookup b=none:=fun b u q=>(argH_is ar q).1
 have noA:∀ {b:Addr} {o:Obj} {es:Array DictEntry} {ep:Nat},s₁.heap.get? b=some o→o.data = .dict es ep→argH K s₁.heap A b=none:=fun {b o es ep} e d=>by
  cases q:argH K s₁.heap A b with
  | none=>rfl
  | some u =>
   obtain ⟨_,vs,_,_,⟨e2,_⟩ | ⟨e2,_⟩⟩:=argH_is ar q
   ·rw [e2] at e
    cases e
    have d':Data.seq vs.toArray _=Data.dict es ep:=d
    cases d'
   ·rw [e2] at e
    cases e
    have d':Data.seq vs.toArray _=Data.dict es ep:=d
    cases d'
 generalize argH K s₁.heap A=H at hO hok hS hK noA
 have base_of:∀ {b:Addr} {o:Obj},s₁.heap.get? b=some o→H b=none→(hidT s₁.heap H).get? b=some o:=fun e n=>hidT_get e n
 have nsK:∀ {b:Addr} {m:Str→Option Value},s₁.heap.Ns b m→(hidT s₁.heap H).Ns b m:=fun {b m} ⟨o,es,ep,e,d,r⟩=>⟨o,es,ep,base_of e (noA e d),d,r⟩
 have nK:∀ b o,K.lookup b=some o→H b=none:=fun b o e=>by
  cases q:H b with
  | none=>rfl
  | some u =>
   rw [hK b u q] at e
   cases e
 have hKb:K.In (hidT s₁.heap H):=fun b o e=>base_of (KX b o e) (nK b o e)
 have hM:Mod K mg (hidT s₁.heap H):=⟨hKb,nsK hns,⟨mb,nsK hb,hbb⟩,let ⟨mc,h1,h2⟩:=hlim;⟨mc,nsK h1,h2⟩⟩
 have e0:Env0 P w K mg (hidT s₁.heap H) callerA [] s₁ H:=⟨rfl,hM,fun b o e=>of_hidT e,Nat.le_of_eq (hidT_size _ _),trivial,fun b hb=>absurd (show b∈([]:List Addr) from hb) (by simp),hok,.of_eq hg⟩
 have hl:vals.length=ps.length:=by rw [wellAll_len hwl];exact hlen
 refine codeAny_mono ((F _ hKb (nsK hns)).run callerA [] s₁ H ⟨vals,[]⟩ vals (vals.map toV) _ _ hr e0 (hbind s₁ vals hl) hV (hsp H _ hO hS)) fun r s' x=>?_
 cases r with
 | error e=>exact (hCX H e s' x).elim
 | ok fl =>
  cases fl with
  | next=>exact False.elim x
  | brk=>exact False.elim x
  | cont=>exact False.elim x
  | ret u =>
   obtain ⟨v,H',os,bare,un,hok',r',q⟩:=x
   have kept:∀ b o,s₁.heap.get? b=some o→s'.heap.get? b=some o:=fun b o e=>by
    cases q2:H b with
    | none=>exact un.keep b o e q2 (by intro z;exact absurd (show b∈([]:List Addr) from z) (by simp)) (by simp)
    | some u2 =>
     rcases hO b with z | ⟨ob,u3,z⟩
     ·rw [q2] at z
      cases z
     ·have z2:=un.frzs b ob _ z
      obtain ⟨e1,_⟩:=hok b _ z
      obtain ⟨e2,_⟩:=hok' b _ z2
      rw [e] at e1
      cases e1
      exact e2
   have KX':K.In s'.heap:=fun b o e=>kept b o (KX b o e)
   obtain ⟨as,hrd⟩:=Dw.reads (R:=R) (cl:=cl) hok' KX' d0 v u q r'
   exact ⟨u,as,rfl,hrd,OldK.of_keep kept,os,bare⟩
theorem layable_weight{ds:List WData}(h:WData.layableAll ds=true):∀ d∈ds,d.weight≤1048576:=fun d hd =>
 (PySem.W.layableW_iff.mp (List.all_eq_true.mp h d hd)).2.2
theorem encAll_len:∀ (cs:List Codec) (a:Codec.denoteAll cs),(Codec.encAll cs a).length=cs.length
 | [],_=>rfl
 | c::cs,a=>by
  show (Codec.encAll cs a.2).length + 1=cs.length + 1
  rw [encAll_len cs a.2]
theorem walk_spec{r:OpenSpec}{k:Nat}{q:Program}{loose:List Str}{XP:(Str→Option Value)→Heap→Prop}{YP:World→Heap→Prop}{d:DefRec}{K:Params→PySem.W.Frag}{CX:World→CXT}{ps:List Str}{sp:World→Sp}
  (hwell:r.wellSaid=true) (hdf:d.params.defaults=[]) (hlen:r.args.length=ps.length) (hr:Room k callerA)
  (hY:∀ (w:World) (h:Heap),YP w h→(K w.params).In h)
  (F:∀ (w:World) (mg:Str→Option Value) (fa:Addr) (h:Heap),YP w h→(K w.params).In h→h.Ns mainGlobals mg→mg d.name=some (.ref fa)→
   ∃ fd:FuncData,(∀ (s:Shared) (us:List Value),us.length=ps.length→BindsTo s fd ⟨us,[]⟩ (ps.zip us))∧
    ∀ base:Heap,(K w.params).In base→base.Ns mainGlobals mg→FnOk r.prog w (K w.params) mg base (CX w) k fa fd ps (sp w))
  (hsp:∀ (w:World) (H:Hp) (xs:List V) (a:Codec.denoteAll r.args),OnlyF H→Codec.withinAll r.args a=true→Codec.app r.args r.asked a=true→DwAll (K w.params) H xs (Codec.encAll r.args a)→
   sp w xs H (fun v H'=>Dw (K w.params) H' v (r.ret.enc (Codec.app r.args r.f a))) fun _ _ _=>False)
  (hCX:∀ (w:World) (H:Hp) (s:Shared) (e:Value) (s':Shared),CX w [] H s (fun _ _ _=>False) e s'→False) :
  PySem.W.WalkOS q loose XP YP r d [] (fun f vs=>PySem.call f vs):=by
 intro w s_0 s₁ mg mb G Y fa o pm cd doc dV kV ho hd hcd hD hmg hg args vals as hpre hlay hrd hwl hlo
 obtain ⟨a,e1,e2⟩:=PySem.W.os_pre_some hpre
 obtain ⟨e3,hwi⟩:=Codec.encAll_of_decAll r.args args a e1
 subst e3
 have KX:=hY w _ Y
 obtain ⟨fd,hb,hF⟩:=F w mg fa _ Y KX G.T.g hmg
 refine PySem.W.enter_call (codeAny_mono (spec_call (R:=[]) (cl:=classAt s_0.heap) (d0:=r.ret.enc (Codec.app r.args r.f a)) KX G.T.g G.T.b G.T.builtins G.T.nolimit hg hwl (pl_encAll _ _) (layable_weight hlay) hr hF hb (by rw [encAll_len];exact hlen)
  (fun H xs hO hS=>hsp w H xs a hO hwi e2 hS) fun H e s'=>hCX w H s₁ e s') fun r' s' hq=>?_)
 obtain ⟨u,as',rfl,h1,h2,h3,h4⟩:=hq
 exact ⟨.inl ⟨u,_,as',rfl,fun _=>rfl,h1,(OpenSpec.post_iff hwell hwi _ _).mpr rfl,fun z=>Bool.noConfusion (show false=true from z)⟩,h2,h3,h4⟩
end L2
end
section
set_option maxRecDepth 100000
set_option maxHeartbeats 4000000
namespace Prg
open PySem L2
open Vanbka (Bytes)
theorem vb_text{l:List Int}(h:∀ z∈l,0≤z∧z≤255):vb (VanbkaNeutral.text l)=l.map V.int:=by
 unfold vb VanbkaNeutral.text
 rw [List.map_map]
 refine List.map_congr_left fun z hz=>?_
 have:=h z hz
 show V.int (((UInt8.ofNat z.toNat).toNat:Nat):Int)=V.int z
 have e:(UInt8.ofNat z.toNat).toNat=z.toNat:=by
  rw [UInt8.toNat_ofNat']
  exact Nat.mod_eq_of_lt (by omega)
 rw [e]
 congr 1
 omega
theorem bytes_ok{l:List Int}(h:∀ z∈l,0≤z∧z≤255):NeutralIO.bytes l=true:=by
 unfold NeutralIO.bytes
 rw [List.all_eq_true]
 intro z hz
 have:=h z hz
 simp only [Bool.and_eq_true,decide_eq_true_eq]
 omega
theorem has_k{P:Program}{w:World}{K:PySem.W.Frag}{mg:Str→Option Value}{base:Heap}{k:Nat}{x:Str}{ps:List Str}{st:PySem.Stmt}{sp:Sp}(Kn:Known K mg x ps st)(ok:∀ f fd,Fun K x x st f fd→FnOk P w K mg base (CXF P w) k f fd ps sp):Has P w K mg base k x ps sp:=by
 obtain ⟨f,fd,F,b,kp,m⟩:=Kn
 exact ⟨f,fd,ok f fd F,b,kp,m⟩
section
variable{P:Program}{w:World}{K:PySem.W.Frag}{mg:Str→Option Value}{h:Heap}{f:Addr}{od an:Option Addr}{sl:Array (Option Value)}{oc kV dc pm cd ct:Value}
theorem known_mk{x:Str}{ps:List Str}{st:PySem.Stmt}(X:K.In h)(G:h.Ns mainGlobals mg)
  (hb:∀ (kV doc pm:Value) (an:Option Addr) (cdv ct:Value) (us:List Value),us.length=ps.length→bindArgs (PySem.W.fnOf x x (defArgs st) (defBody st) (defScope st) .none kV doc pm an cdv ct) ⟨us,[]⟩=pure (ps.zip us))
  (a:PySem.W.nsIn K mainGlobals x=some (some (.ref f))) (l:K.lookup f=some ⟨oc,od,.func (PySem.W.fnOf x x (defArgs st) (defBody st) (defScope st) .none kV dc pm an cd ct),sl⟩) (c:PySem.W.codeIn K cd x=true) (k:PySem.W.keepIn K (.ref f)=true):Known K mg x ps st:=by
 have F:=fun_mk (st:=st) l c k
 exact ⟨f,_,F,F.binds hb,k,PySem.W.mg_of X G a⟩
theorem ci_mk{x:Str}{i:Int}{t:PySem.Tok}(X:K.In h)(G:h.Ns mainGlobals mg)(a:PySem.W.nsIn K mainGlobals x=some (some (.int i t))):CI mg x i:=⟨t,PySem.W.mg_of X G a⟩
theorem cs_mk{x z:Str}{t:PySem.Tok}(X:K.In h)(G:h.Ns mainGlobals mg)(a:PySem.W.nsIn K mainGlobals x=some (some (.str z t))):CS mg x z:=⟨t,PySem.W.mg_of X G a⟩
theorem cls_mk{C:Addr}(pg:PySem.W.plainGet K C Str.empty=true)(hd:PySem.W.hasDictIn K C=true)(po:PySem.W.plainOver K C=true)(sa:PySem.W.findIn K (.ref C) "__setattr__"=some (some (.builtin "object.__setattr__"))):Cls K C:=⟨pg,hd,po,sa⟩
def relB:V→Value→Bool
 | .int i,.int j _=>i == j
 | .str x,.str y _=>x == y
 | .ref a,.ref b=>a == b
 | _,_=>false
theorem relB_ok{x:V}{u:Value}(h:relB x u=true):RelV x u:=by
 cases x <;> cases u <;> simp only [relB,Bool.false_eq_true,beq_iff_eq] at h
 ·subst h;exact ⟨_,rfl⟩
 ·subst h;exact ⟨_,rfl⟩
 ·subst h;rfl
def valsB:List V→List Value→Bool
 | [],[]=>true
 | x::xs,u::us=>relB x u && valsB xs us
 | _,_=>false
theorem valsB_ok:∀ {xs:List V} {us:List Value},valsB xs us=true→Vals xs us
 | [],[],_=>.nil
 | x::xs,u::us,h=>by
  have h:(relB x u && valsB xs us)=true:=h
  rw [Bool.and_eq_true] at h
  exact .cons (relB_ok h.1) (valsB_ok h.2)
theorem ktup_mk{x:Str}{a:Addr}{its:Array Value}{n:Nat}{vs:List V}(X:K.In h)(G:h.Ns mainGlobals mg)(e:PySem.W.nsIn K mainGlobals x=some (some (.ref a)))(l:K.lookup a=some ⟨.type "tuple",od,.seq its n,sl⟩)(hv:valsB vs its.toList=true)(hs:its.size≤1000):KTup K mg x vs :=
 ⟨a,PySem.W.mg_of X G e,fun H=>.inr ⟨_,its,n,l,rfl,rfl,Nat.le_trans hs (by decide),valsB_ok hv⟩⟩
def dicB(w:World):List DictEntry→List (Key×V)→Prop
 | [],[]=>True
 | e::es,kv::kvs=>(keyIs kv.1 e.key=true∧e.hash=keyH w kv.1∧relB kv.2 e.val=true)∧dicB w es kvs
 | _,_=>False
theorem dicB_ok{w:World}:∀ {es:List DictEntry} {kvs:List (Key×V)},dicB w es kvs→Paired (fun (e:DictEntry) (kv:Key×V)=>keyIs kv.1 e.key=true∧e.hash=keyH w kv.1∧RelV kv.2 e.val) es kvs
 | [],[],_=>.nil
 | e::es,kv::kvs,h=>.cons ⟨h.1.1,h.1.2.1,relB_ok h.1.2.2⟩ (dicB_ok h.2)
theorem kdic_mk{a:Addr}{es:Array DictEntry}{ep:Nat}{kvs:List (Key×V)}(l:K.lookup a=some ⟨.type "dict",none,.dict es ep,#[]⟩)(ha:(a == sysModules)=false)(hv:dicB w es.toList kvs):KDic w K a kvs :=
 ⟨ha,_,es,ep,l,⟨rfl,rfl,rfl⟩,rfl,dicB_ok hv⟩
theorem two_mk{a a1 a2 a3 a4 a5:Addr}{ep:Nat}{n1 n2 n3 n4 n5:Nat}{o1 o2 o3 o4 o5:Option Addr}{s1 s2 s3 s4 s5:Array (Option Value)}{u1 u2 u3 u4 u5 x1 x2 x3 x4 x5 y1 y2 y3 y4 y5:PySem.Tok}(X:K.In h)(G:h.Ns mainGlobals mg)(e:PySem.W.nsIn K mainGlobals "TWO_BYTE_SIGNS"=some (some (.ref a)))(ha:(a == sysModules)=false)
  (l:K.lookup a=some ⟨.type "dict",none,.dict #[⟨-3471720369269462519,.ref a1,.str "==" u1⟩,⟨1934246103329546215,.ref a2,.str "!=" u2⟩,⟨5124875052475701045,.ref a3,.str "<=" u3⟩,⟨-5908778216009708212,.ref a4,.str ">=" u4⟩,⟨3070702662433416457,.ref a5,.str "++" u5⟩] ep,#[]⟩)
  (l1:K.lookup a1=some ⟨.type "tuple",o1,.seq #[.int 61 x1,.int 61 y1] n1,s1⟩) (l2:K.lookup a2=some ⟨.type "tuple",o2,.seq #[.int 33 x2,.int 61 y2] n2,s2⟩) (l3:K.lookup a3=some ⟨.type "tuple",o3,.seq #[.int 60 x3,.int 61 y3] n3,s3⟩) (l4:K.lookup a4=some ⟨.type "tuple",o4,.seq #[.int 62 x4,.int 61 y4] n4,s4⟩) (l5:K.lookup a5=some ⟨.type "tuple",o5,.seq #[.int 43 x5,.int 43 y5] n5,s5⟩):KDT P w K mg "TWO_BYTE_SIGNS" twoV:=by
 refine ⟨a,PySem.W.mg_of X G e,ha,_,_,ep,[([.inl 61,.inl 61],a1,.str "==" u1),([.inl 33,.inl 61],a2,.str "!=" u2),([.inl 60,.inl 61],a3,.str "<=" u3),([.inl 62,.inl 61],a4,.str ">=" u4),([.inl 43,.inl 43],a5,.str "++" u5)],l,⟨rfl,rfl,rfl⟩,rfl,?_,(by show ([[.inl 61,.inl 61],[.inl 33,.inl 61],[.inl 60,.inl 61],[.inl 62,.inl 61],[.inl 43,.inl 43]]:List (List Key)).Nodup;decide),?_⟩
 ·have hh:∀ i j:Int,tupleKeyHash (mixKind P w) [Sum.inl i,Sum.inl j]=reduceHash (Builtin.Tuple.tupleHashOf [hashInt i,hashInt j]):=fun _ _=>rfl
  have e1:reduceHash (Builtin.Tuple.tupleHashOf [hashInt 61,hashInt 61]) = -3471720369269462519:=by decide +kernel
  have e2:reduceHash (Builtin.Tuple.tupleHashOf [hashInt 33,hashInt 61])=1934246103329546215:=by decide +kernel
  have e3:reduceHash (Builtin.Tuple.tupleHashOf [hashInt 60,hashInt 61])=5124875052475701045:=by decide +kernel
  have e4:reduceHash (Builtin.Tuple.tupleHashOf [hashInt 62,hashInt 61]) = -5908778216009708212:=by decide +kernel
  have e5:reduceHash (Builtin.Tuple.tupleHashOf [hashInt 43,hashInt 43])=3070702662433416457:=by decide +kernel
  show _=[⟨tupleKeyHash (mixKind P w) [Sum.inl 61,Sum.inl 61],.ref a1,.str "==" u1⟩,⟨tupleKeyHash (mixKind P w) [Sum.inl 33,Sum.inl 61],.ref a2,.str "!=" u2⟩,⟨tupleKeyHash (mixKind P w) [Sum.inl 60,Sum.inl 61],.ref a3,.str "<=" u3⟩,⟨tupleKeyHash (mixKind P w) [Sum.inl 62,Sum.inl 61],.ref a4,.str ">=" u4⟩,(⟨tupleKeyHash (mixKind P w) [Sum.inl 43,Sum.inl 43],.ref a5,.str "++" u5⟩:DictEntry)]
  rw [hh,hh,hh,hh,hh,e1,e2,e3,e4,e5]
 ·have it:∀ {i j:Int} {x y:PySem.Tok},ItemsAre (mixKind P w) [Sum.inl i,Sum.inl j] [.int i x,.int j y]:=fun {i j x y}=>.cons (keyIs_int i x) (.cons (keyIs_int j y) .nil)
  exact .cons ⟨rfl,⟨_,rfl⟩,_,_,_,l1,rfl,rfl,it⟩ (.cons ⟨rfl,⟨_,rfl⟩,_,_,_,l2,rfl,rfl,it⟩ (.cons ⟨rfl,⟨_,rfl⟩,_,_,_,l3,rfl,rfl,it⟩ (.cons ⟨rfl,⟨_,rfl⟩,_,_,_,l4,rfl,rfl,it⟩ (.cons ⟨rfl,⟨_,rfl⟩,_,_,_,l5,rfl,rfl,it⟩ .nil))))
theorem kd_mk{x:Str}{a:Addr}{es:Array DictEntry}{ep:Nat}{kvs:List (Key×V)}(X:K.In h)(G:h.Ns mainGlobals mg)(e:PySem.W.nsIn K mainGlobals x=some (some (.ref a)))(l:K.lookup a=some ⟨.type "dict",none,.dict es ep,#[]⟩)(ha:(a == sysModules)=false)(hv:dicB w es.toList kvs):KD w K mg x kvs:=⟨a,PySem.W.mg_of X G e,kdic_mk l ha hv⟩
theorem xcls_mk{C fI:Addr}{dd od2:Option Addr}{cdt:ClassData}{sl sl2:Array (Option Value)}{oc2:Value}{es:Array DictEntry}{ep:Nat}{fs:List Str}(l:K.lookup C=some ⟨.type "type",dd,.cls cdt,sl⟩)(l2:K.lookup cdt.ns=some ⟨oc2,od2,.dict es ep,sl2⟩)
  (q:(match sl.toList with
   | [_,_,_,_,some (.builtin nw),_]=>cdt.mro == .ref C::excBM && cdt.hasDict && !cdt.hasDel && nw == "Exception.__new__" && (es.toList.all keyStr && nsFind es "__init__" == some (.ref fI) && (nsFind es "__setattr__" == none && (nsFind es "__getattribute__" == none && (nsFind es "__getattr__" == none && fs.all fun f=>nsFind es f == none))))
   | _=>false)=true) (ty:PySem.W.typeIn K (.ref fI)=some (.type "function")):xcls K C fI fs=true:=by
 unfold xcls
 rw [l]
 show (match sl.toList with
  | [_,_,_,_,some (.builtin nw),_]=>cdt.mro == .ref C::excBM && cdt.hasDict && !cdt.hasDel && nw == "Exception.__new__" && (match K.lookup cdt.ns with
   | some ⟨_,_,.dict es _,_⟩=>es.toList.all keyStr && nsFind es "__init__" == some (.ref fI) && (nsFind es "__setattr__" == none && (nsFind es "__getattribute__" == none && (nsFind es "__getattr__" == none && fs.all fun f=>nsFind es f == none)))
   | _=>false) && PySem.W.typeIn K (.ref fI) == some (.type "function")
  | _=>false)=true
 rw [l2,ty]
 split at q
 ·rename_i c0 c1 c2 c3 nw c5 hs
  show (_ && (some (Value.type "function") == some (Value.type "function")))=true
  have:(some (Value.type "function") == some (Value.type "function"))=true:=by decide
  rw [this,Bool.and_true]
  exact q
 ·cases q
end
section
variable{P:Program}{w:World}{K:PySem.W.Frag}{mg:Str→Option Value}{h:Heap}{C f:Addr}{od an:Option Addr}{sl:Array (Option Value)}{oc kV dc pm cd ct:Value}
theorem token_mk(X:K.In h)(G:h.Ns mainGlobals mg)(a:PySem.W.nsIn K mainGlobals "Token"=some (some (.ref C)))(cl:Cls K C)(n1:PySem.W.findIn K (.ref C) "kind"=some none)(n2:PySem.W.findIn K (.ref C) "place"=some none)(n3:PySem.W.findIn K (.ref C) "end"=some none)(n4:PySem.W.findIn K (.ref C) "value"=some none)
  (mk:PySem.W.makesIn K C=true) (i:PySem.W.findIn K (.ref C) "__init__"=some (some (.ref f))) (fn:PySem.W.isFn K (.ref f)=true) (kc:PySem.W.keepIn K (.ref C)=true)
  (l:K.lookup f=some ⟨oc,od,.func (PySem.W.fnOf "__init__" "Token.__init__" (defArgs sTokenInit) (defBody sTokenInit) (defScope sTokenInit) .none kV dc pm an cd ct),sl⟩) (c:PySem.W.codeIn K cd "Token.__init__"=true) (k:PySem.W.keepIn K (.ref f)=true):∃ tI tdI,TokenAt K mg C tI tdI:=by
 have F:=fun_mk (st:=sTokenInit) l c k
 refine ⟨f,_,⟨cl,fun x hx=>?_,PySem.W.mg_of X G a⟩,⟨mk,i,fn,kc⟩,F,F.binds (ps:=["self", "kind", "place", "end", "value"]) fun _ _ _ _ _ _ us hl=>match us,hl with | [_,_,_,_,_],_=>rfl⟩
 simp only [List.mem_cons,List.not_mem_nil,or_false] at hx
 rcases hx with rfl | rfl | rfl | rfl
 ·exact n1
 ·exact n2
 ·exact n3
 ·exact n4
theorem fault_mk(X:K.In h)(G:h.Ns mainGlobals mg)(a:PySem.W.nsIn K mainGlobals "Fault"=some (some (.ref C)))(kc:PySem.W.keepIn K (.ref C)=true)(x:xcls K C f ["number", "told"]=true)
  (l:K.lookup f=some ⟨oc,od,.func (PySem.W.fnOf "__init__" "Fault.__init__" (defArgs sFaultInit) (defBody sFaultInit) (defScope sFaultInit) .none kV dc pm an cd ct),sl⟩) (c:PySem.W.codeIn K cd "Fault.__init__"=true) (k:PySem.W.keepIn K (.ref f)=true):∃ fI fdI,FaultAt K mg C fI fdI:=by
 have F:=fun_mk (st:=sFaultInit) l c k
 exact ⟨f,_,x,F,F.binds (ps:=["self", "number", "told"]) fun _ _ _ _ _ _ us hl=>match us,hl with | [_,_,_],_=>rfl,PySem.W.mg_of X G a,kc⟩
end
end Prg
end
section
set_option maxRecDepth 100000
set_option maxHeartbeats 4000000
namespace Prg
open PySem L2
open Vanbka (Bytes)
structure Facts(P:Program)(w:World)(K:PySem.W.Frag)(mg:Str→Option Value)(CF CT:Addr):Prop where
 kDigit:Known K mg "is_digit" ["byte"] sIsDigit
 kWordB:Known K mg "is_word_byte" ["byte"] sIsWordByte
 kPass:Known K mg "pass_over" ["text", "place"] sPassOver
 kBytes:Known K mg "check_bytes" ["text"] sCheckBytes
 kNum:Known K mg "cut_number" ["text", "place"] sCutNumber
 kWord:Known K mg "cut_word" ["text", "place"] sCutWord
 kSpell:Known K mg "spell_lower" ["word"] sSpellLower
 kQuoted:Known K mg "cut_quoted" ["text", "place"] sCutQuoted
 kSign:Known K mg "cut_sign" ["text", "place"] sCutSign
 kTok:Known K mg "cut_token" ["text", "place"] sCutToken
 kToks:Known K mg "cut_tokens" ["text"] sCutTokens
 kRToks:Known K mg "read_tokens" ["text"] sReadTokens
 kLong:Known K mg "is_too_long" ["text"] sTooLong
 c_LINE_FEED:CI mg "LINE_FEED" 10
 c_BLANK:CI mg "BLANK" 32
 c_LAST_ALLOWED:CI mg "LAST_ALLOWED" 126
 c_QUOTE:CI mg "QUOTE" 34
 c_HASH:CI mg "HASH" 35
 c_ZERO:CI mg "ZERO" 48
 c_NINE:CI mg "NINE" 57
 c_UNDERSCORE:CI mg "UNDERSCORE" 95
 c_BACKSLASH:CI mg "BACKSLASH" 92
 c_LONGEST_WORD:CI mg "LONGEST_WORD" 16
 c_LONGEST_NUMBER:CI mg "LONGEST_NUMBER" 30
 c_LOWER_A:CI mg "LOWER_A" 97
 c_FORBIDDEN_BYTE:CI mg "FORBIDDEN_BYTE" 1
 c_WRONG_TOKEN:CI mg "WRONG_TOKEN" 2
 c_LONGEST_TEXT:CI mg "LONGEST_TEXT" 600
 c_TOO_LONG:CI mg "TOO_LONG" (-1)
 c_LL:CS mg "LOWER_LETTERS" letters
 n_len:mg "len"=none
 n_tuple:mg "tuple"=none
 n_enumerate:mg "enumerate"=none
 tRes:KTup K mg "RESERVED" resV
 dEsc:KD w K mg "ESCAPED" escV
 dOne:KD w K mg "ONE_BYTE_SIGNS" oneV
 dTwo:KDT P w K mg "TWO_BYTE_SIGNS" twoV
 oFault:∃ fI fdI,FaultAt K mg CF fI fdI
 oToken:∃ tI tdI,TokenAt K mg CT tI tdI
 kTellKind:Known K mg "tell_kind" ["kind"] sTellKind
 kTellT:Known K mg "tell_tokens" ["tokens"] sTellTokens
 kCall:Known K mg "tokens" ["text"] sTokensC
 c_RESERVED_WORD:CI mg "RESERVED_WORD" 2
 c_SIGN:CI mg "SIGN" 5
 c_NOT_GOOD:CI mg "NOT_GOOD" (-2)
 dTk:KD w K mg "TOKEN_NUMBERS" tkV
section
variable{P:Program}{w:World}{K:PySem.W.Frag}{mg:Str→Option Value}{h:Heap}{CF CT:Addr}{base:Heap}
theorem has_at(A:Facts P w K mg CF CT){f:Addr}{fd:FuncData}(Fa:Fun K "tokens" "tokens" sTokensC f fd):FnOk P w K mg base (CXF P w) 7 f fd ["text"] (spT K Vanbka.tokensTold):=by
 obtain ⟨fI,fdI,TF⟩:=A.oFault
 obtain ⟨tI,tdI,U⟩:=A.oToken
 have digit:Has P w K mg base 1 "is_digit" ["byte"] spDigit:=has_k A.kDigit fun f fd F=>ok_digit F A.c_ZERO A.c_NINE
 obtain ⟨gD,gdD,okD,bD,kD,mD⟩:=id digit
 have wordB:Has P w K mg base 2 "is_word_byte" ["byte"] spWordB:=has_k A.kWordB fun f fd F=>ok_wordB F okD bD kD mD A.c_UNDERSCORE
 obtain ⟨gW,gdW,okW,bW,kW,mW⟩:=id wordB
 have pass:Has P w K mg base 1 "pass_over" ["text", "place"] (spPass K):=has_k A.kPass fun f fd F=>ok_pass F A.n_len A.c_LINE_FEED A.c_HASH A.c_BLANK
 have bytes:Has P w K mg base 3 "check_bytes" ["text"] (spBytes K CF):=has_k A.kBytes fun f fd F=>ok_bytes F TF A.n_enumerate A.c_LINE_FEED A.c_BLANK A.c_LAST_ALLOWED A.c_FORBIDDEN_BYTE
 have num:Has P w K mg base 3 "cut_number" ["text", "place"] (spCut K CF CT fun c=>Vanbka.digit c=true):=has_k A.kNum fun f fd F=>ok_num F TF U okD bD kD mD A.n_len A.c_ZERO A.c_LONGEST_NUMBER A.c_WRONG_TOKEN
 have spell:Has P w K mg base 1 "spell_lower" ["word"] (spSpell K):=has_k A.kSpell fun f fd F=>ok_spell F A.n_len A.c_LOWER_A A.c_LL
 obtain ⟨gS,gdS,okS,bS,kS,mS⟩:=id spell
 have word:Has P w K mg base 3 "cut_word" ["text", "place"] (spCut K CF CT fun c=>Vanbka.letter c=true):=has_k A.kWord fun f fd F=>ok_word F TF U okW bW kW mW okS bS kS mS A.n_len A.tRes A.c_LONGEST_WORD A.c_WRONG_TOKEN
 have quoted:Has P w K mg base 3 "cut_quoted" ["text", "place"] (spCut K CF CT fun c=>c=34):=has_k A.kQuoted fun f fd F=>ok_quoted F TF U A.n_len A.dEsc A.c_QUOTE A.c_LINE_FEED A.c_BACKSLASH A.c_WRONG_TOKEN
 have sign:Has P w K mg base 3 "cut_sign" ["text", "place"] (spCut K CF CT fun c=>Vanbka.letter c=false∧Vanbka.digit c=false∧c≠34):=has_k A.kSign fun f fd F=>ok_sign F TF U A.n_tuple A.dTwo A.dOne A.c_WRONG_TOKEN
 have tok:Has P w K mg base 4 "cut_token" ["text", "place"] (spCut K CF CT fun _=>True):=has_k A.kTok fun f fd F=>ok_tok F digit wordB num word quoted sign A.c_QUOTE
 have toks:Has P w K mg base 5 "cut_tokens" ["text"] (spTokens K CF CT):=has_k A.kToks fun f fd F=>ok_toks F U pass tok A.n_len
 have rtoks:Has P w K mg base 6 "read_tokens" ["text"] (spRToks K CF CT):=has_k A.kRToks fun f fd F=>ok_rtoks F bytes toks
 have long:Has P w K mg base 1 "is_too_long" ["text"] (spLong K):=has_k A.kLong fun f fd F=>ok_long F A.n_len A.c_LONGEST_TEXT
 have tk:Has P w K mg base 1 "tell_kind" ["kind"] spTellKind:=has_k A.kTellKind fun f fd F=>ok_tellKind F A.tRes A.dTk A.c_RESERVED_WORD A.c_SIGN
 have tt:Has P w K mg base 2 "tell_tokens" ["tokens"] (spTellT CT):=has_k A.kTellT fun f fd F=>ok_tellT F U tk
 exact ok_tokC Fa TF long rtoks tt A.n_len A.c_TOO_LONG A.c_NOT_GOOD
theorem final{fa:Addr}(hfa:mg "tokens"=some (.ref fa))(A:Facts P w K mg CF CT) :
  ∃ fd:FuncData,(∀ (s:Shared) (us:List Value),us.length=(["text"]:List Str).length→BindsTo s fd ⟨us,[]⟩ ((["text"]:List Str).zip us))∧∀ base:Heap,K.In base→base.Ns mainGlobals mg→FnOk P w K mg base (CXF P w) 7 fa fd ["text"] (spT K Vanbka.tokensTold):=by
 obtain ⟨f,fd,F,b,kp,m⟩:=A.kCall
 have e:=hfa.symm.trans m
 cases e
 refine ⟨fd,?_,fun base _ _=>has_at (base:=base) A F⟩
 obtain ⟨oc,od,kV,doc,pm,an,cdv,ct,osl,rfl,lk,hcd⟩:=F.ex
 exact fun s us hu=>match us,hu with | [_],_=>.of_eq rfl
end
theorem call_is{l:List Int}(h:∀ z∈l,0≤z∧z≤255):told (Vanbka.tokensTold (VanbkaNeutral.text l))=PyVanbka.tokens l:=by
 have e:VanbkaNeutral.callOf [[2],l]=if NeutralIO.bytes l then some (.tokens (VanbkaNeutral.text l)) else none:=rfl
 unfold PyVanbka.tokens VanbkaNeutral.step
 rw [e,bytes_ok h,if_pos rfl]
 rfl
open PySem.W in
theorem walkF{q:Program}{loose:List Str}{XP:(Str→Option Value)→Heap→Prop}{YP:World→Heap→Prop}{d:DefRec}{K:Params→PySem.W.Frag}(hdf:d.params.defaults=[])
  (hY:∀ (w:World) (h:Heap),YP w h→(K w.params).In h)
  (F:∀ (w:World) (mg:Str→Option Value) (fa:Addr) (h:Heap),YP w h→(K w.params).In h→h.Ns mainGlobals mg→mg d.name=some (.ref fa)→
   ∃ fd:FuncData,(∀ (s:Shared) (us:List Value),us.length=(["text"]:List Str).length→BindsTo s fd ⟨us,[]⟩ ((["text"]:List Str).zip us))∧
    ∀ base:Heap,(K w.params).In base→base.Ns mainGlobals mg→FnOk PySem.Challenge.rw_celltexts_s03_tokens.prog w (K w.params) mg base (CXF PySem.Challenge.rw_celltexts_s03_tokens.prog w) 7 fa fd ["text"] (spT (K w.params) Vanbka.tokensTold)) :
  PySem.W.WalkOS q loose XP YP PySem.Challenge.rw_celltexts_s03_tokens d [] (fun f vs=>PySem.call f vs):=by
 refine walk_spec (r:=PySem.Challenge.rw_celltexts_s03_tokens) (k:=7) (CX:=fun w=>CXF PySem.Challenge.rw_celltexts_s03_tokens.prog w) (ps:=["text"]) (sp:=fun w=>spT (K w.params) Vanbka.tokensTold) (by decide +kernel) hdf rfl ⟨rfl,by decide,by decide⟩ hY F ?_ ?_
 ·intro w H xs a hO hwi hask hx
  cases hx with
  | cons h1 h2 =>
   cases h2
   cases h1 with
   | lst hs ha =>
    have e:=L2.ints_dw a.1 _ ha
    subst e
    have q:((Codec.inLen 0 2000 a.1 && a.1.all (Codec.inInt 0 255)) && true)=true:=hwi
    rw [Bool.and_eq_true,Bool.and_eq_true] at q
    have rg:∀ z∈a.1,0≤z∧z≤255:=fun z hz=>by
     have:=List.all_eq_true.mp q.1.2 z hz
     simpa [Codec.inInt] using this
    refine ⟨_,VanbkaNeutral.text a.1,rfl,by rw [vb_text rg];exact hs,fun l H' hl=>?_⟩
    rw [call_is rg] at hl
    exact .lst (SqL.of hl) (L2.dw_ints _)
 ·rintro w H s e s' ⟨x,T,C,dx,H',_,_,_,_,_,_,_,_,_,_,z⟩
  exact z
end Prg
end
namespace PySem.W.Fast
def tw10106652552741463371:=0
def tw10120788624153219466:=0
def tw10121023904607049477:=0
def tw10291158744688613467:=0
def tw1036738257047692132:=0
def tw10449962824104507580:=0
def tw10464678336721538496:=0
def tw10651408879233321613:=0
def tw10736840825107428049:=0
def tw10763696623650952978:=0
def tw1077759449045615701:=0
def tw10857277241216999450:=0
def tw11017846102032019370:=0
def tw11095249820458351620:=0
def tw1125001056533619370:=0
def tw11419703808246102581:=0
def tw11467687771609427048:=0
def tw11490582032178509228:=0
def tw11529144548672755862:=0
def tw11726231263781028428:=0
def tw11881836766192516492:=0
def tw12068926964846107129:=0
def tw12125765494322013035:=0
def tw12145702409400296115:=0
def tw12296382036088377881:=0
def tw12332099781085298648:=0
def tw12339628946716631961:=0
def tw12459995189644809841:=0
def tw12469657114759632494:=0
def tw12557495999969026683:=0
def tw12717045909401133749:=0
def tw13001732077934071307:=0
def tw13014557021727337103:=0
def tw13048803890718603507:=0
def tw13206129263304569864:=0
def tw13234511623126771689:=0
def tw13237276797474778164:=0
def tw13315342146451796239:=0
def tw13413016269433094760:=0
def tw13452506328417938981:=0
def tw13749011876595575356:=0
def tw13781909964769031290:=0
def tw13989670309807544854:=0
def tw14073866208293085169:=0
def tw14310725238384108450:=0
def tw14575979973777912516:=0
def tw1462439960339790111:=0
def tw14646058453358700064:=0
def tw14923749541367532879:=0
def tw15057390098319035501:=0
def tw15165171445158860417:=0
def tw15172522556799801262:=0
def tw15239536854415774126:=0
def tw15377988135563441025:=0
def tw15426433916206693966:=0
def tw15440831990629119835:=0
def tw15517401992300120908:=0
def tw15630522365539706837:=0
def tw15741650769649050557:=0
def tw15781804712315227014:=0
def tw15840161148421607701:=0
def tw15845609340655562763:=0
def tw15928742331403341437:=0
def tw15981835681544425029:=0
def tw16128759132361793476:=0
def tw16132663779423329855:=0
def tw16580703339155280990:=0
def tw1662550898638315956:=0
def tw16642530267851459616:=0
def tw1666496135888367382:=0
def tw16753052003022401533:=0
def tw16890878778561608241:=0
def tw17005523377735009478:=0
def tw17307063229250399565:=0
def tw17442416238776715595:=0
def tw17444261805394813469:=0
def tw17505355874391822128:=0
def tw17614542564370678737:=0
def tw17754365473312905072:=0
def tw17762061051910611772:=0
def tw17946948617803268965:=0
def tw17955514647550600953:=0
def tw17971088757987431045:=0
def tw18005393707798708427:=0
def tw18085280133562459267:=0
def tw18319684504963861928:=0
def tw1950972426132203637:=0
def tw195174329326445247:=0
def tw1998272330413015617:=0
def tw2067422531474069143:=0
def tw2249229851219163880:=0
def tw2287569059594431452:=0
def tw228834795650981406:=0
def tw2506091493586252531:=0
def tw2691493597496541256:=0
def tw27336417926156410:=0
def tw2791346621214148338:=0
def tw2794497544197101965:=0
def tw2880720418018507641:=0
def tw3026814439832038646:=0
def tw3246860847403905750:=0
def tw3272804420755772357:=0
def tw3378125974722408443:=0
def tw3486769089748813674:=0
def tw3522273580215598043:=0
def tw3936914120301769082:=0
def tw3997863558597314136:=0
def tw4138274525088640720:=0
def tw4252391118788676290:=0
def tw4277902894254493254:=0
def tw4364588721164224044:=0
def tw4401244058278693467:=0
def tw4413326716264542412:=0
def tw4729984808956659810:=0
def tw4747628141131448769:=0
def tw4926648836475490095:=0
def tw4984386634680574238:=0
def tw5140635801658098381:=0
def tw5159312373068103194:=0
def tw5219700674304133550:=0
def tw5228206595464630946:=0
def tw526272413469674736:=0
def tw5302498706507972059:=0
def tw5309751933534021721:=0
def tw5317343280616896536:=0
def tw5321822373608021964:=0
def tw5359291456725243091:=0
def tw5476819749740882796:=0
def tw5589620489224224743:=0
def tw5643277577619346889:=0
def tw5648226094450262417:=0
def tw5664024331241149733:=0
def tw573555514807410759:=0
def tw5796790959473275405:=0
def tw5850720089241676996:=0
def tw5922307405700267873:=0
def tw6181077001745659145:=0
def tw6409934099056915216:=0
def tw6647822609406688600:=0
def tw6794622495167428596:=0
def tw6819587530700071316:=0
def tw6836132305171567131:=0
def tw6904968472680564460:=0
def tw6937356864480393834:=0
def tw7221535365793425183:=0
def tw7258987309939645742:=0
def tw7266904606371749354:=0
def tw7417777015955575828:=0
def tw7535590557977690990:=0
def tw7599740649650934037:=0
def tw7713821311474656127:=0
def tw7952184372322733359:=0
def tw8025722529826725053:=0
def tw8061530599568176454:=0
def tw8494246377110463615:=0
def tw8494806725536876869:=0
def tw8545404875247213144:=0
def tw863554199269413379:=0
def tw8753678711902802801:=0
def tw8797636354459257130:=0
def tw8886217381634768842:=0
def tw8955752032651542081:=0
def tw9061521208434222820:=0
def tw9138496831434183728:=0
def tw9149261402794068669:=0
def tw9218140128969893305:=0
def tw9361193983827187865:=0
def tw9369045385068231381:=0
def tw9417432602908325545:=0
def tw9437537321025009947:=0
def tw9511541586820604838:=0
def tw9515963325322146373:=0
def tw9795198841813900392:=0
def tw9890006605786795686:=0
def tw9949874173988560029:=0
def tw17717554358683018623:=0
def tw12805662592836424305:=0
def tw17355809427043527289:=0
def tw5268619646283330152:=0
def tw12865704190750369083:=0
def tw9189333737353363184:=0
def tw11115880868749172616:=0
def tw14292376566650579605:=0
def tw3928963323285921549:=0
def tw8363838484037079760:=0
def tw1720203747371051460:=0
def tw325868892165897044:=0
def tw13103969654581555145:=0
def tw17447910593504248877:=0
def tw5798346923006326148:=0
def tw5874856031370838943:=0
def tw14952453138880276672:=0
def tw7536824866432995138:=0
def tw18334620924490208021:=0
def tw1980358545071793925:=0
def tw1625031918321375937:=0
def tw1282414384594845804:=0
def tw792440702951013520:=0
def tw12456207450642233442:=0
def tw8240122539427960850:=0
def tw6491298235648479359:=0
def tw16393434933258166595:=0
def tw15955320394328336988:=0
def tw17618699592848234128:=0
def tw8943622795163916980:=0
def tw6337983000647061626:=0
def tw6786116271237968219:=0
def tw1196320750832625033:=0
def tw7739172402242538155:=0
def tw15143947179013950397:=0
def tw4853634852612576566:=0
def tw10337309445663537185:=0
def tw580820251907724589:=0
def tw5403464092128541674:=0
def tw6573106106120664247:=0
def tw8620750167563279259:=0
def tw18209880185039295332:=0
def tw6497237324655587012:=0
def tw12963649650609002575:=0
def tw11154690492729142580:=0
end PySem.W.Fast
open PySem PySem.W PyProof.Rows
set_option maxRecDepth 100000 in
set_option maxHeartbeats 0 in
theorem PySem.Challenge.cw_celltexts_s03_tokens_holds : PySem.Challenge.rw_celltexts_s03_tokens.Holds := by
 w_on;k_headS;(case hw=>exact ⟨[.list []],by decide +kernel,by decide +kernel⟩)
 k_fillS
 refine Prg.walkF rfl (fun w h Y=>PySem.W.kIn_of Y) ?F
 case F =>
  intro w mg fa h Y KX G hmg
  refine' Prg.final (CF:=31) (CT:=61) hmg ⟨?kDigit,?kWordB,?kPass,?kBytes,?kNum,?kWord,?kSpell,?kQuoted,?kSign,?kTok,?kToks,?kRToks,?kLong,?c_LINE_FEED,?c_BLANK,?c_LAST_ALLOWED,?c_QUOTE,?c_HASH,?c_ZERO,?c_NINE,?c_UNDERSCORE,?c_BACKSLASH,?c_LONGEST_WORD,?c_LONGEST_NUMBER,?c_LOWER_A,?c_FORBIDDEN_BYTE,?c_WRONG_TOKEN,?c_LONGEST_TEXT,?c_TOO_LONG,?c_LL,?n_len,?n_tuple,?n_enumerate,?tRes,?dEsc,?dOne,?dTwo,?oFault,?oToken,?kTellKind,?kTellT,?kCall,?c_RESERVED_WORD,?c_SIGN,?c_NOT_GOOD,?dTk⟩
  case kDigit | kWordB | kBytes | kSpell | kToks | kRToks | kLong | kTellKind | kTellT | kCall=>refine' Prg.known_mk KX G (fun _ _ _ _ _ _ us hl=>match us,hl with | [_],_=>rfl) ?a ?l ?c ?k;(case a=>k_is);(case l=>k_is);(case c=>k_is);(case k=>k_is)
  case kPass | kNum | kWord | kQuoted | kSign | kTok=>refine' Prg.known_mk KX G (fun _ _ _ _ _ _ us hl=>match us,hl with | [_,_],_=>rfl) ?a ?l ?c ?k;(case a=>k_is);(case l=>k_is);(case c=>k_is);(case k=>k_is)
  case c_LINE_FEED | c_BLANK | c_LAST_ALLOWED | c_QUOTE | c_HASH | c_ZERO | c_NINE | c_UNDERSCORE | c_BACKSLASH | c_LONGEST_WORD | c_LONGEST_NUMBER | c_LOWER_A | c_FORBIDDEN_BYTE | c_WRONG_TOKEN | c_LONGEST_TEXT | c_TOO_LONG | c_RESERVED_WORD | c_SIGN | c_NOT_GOOD=>refine' Prg.ci_mk KX G ?a;(case a=>k_is)
  case c_LL=>refine' Prg.cs_mk KX G ?a;(case a=>k_is)
  case n_len | n_tuple | n_enumerate=>refine' PySem.W.mg_none_of KX G ?a;(case a=>k_is)
  case tRes=>refine' Prg.ktup_mk KX G ?e ?l ?hv ?hs;(case e=>k_is);(case l=>k_is);(case hv=>decide +kernel);(case hs=>decide +kernel)
  case dEsc | dTk=>refine' Prg.kd_mk KX G ?e ?l ?ha ?hv;(case e=>k_is);(case l=>k_is);(case ha=>rfl);(case hv=>exact (And.intro (And.intro rfl (And.intro rfl rfl)) (And.intro (And.intro rfl (And.intro rfl rfl)) (And.intro (And.intro rfl (And.intro rfl rfl)) trivial))))
  case dOne=>refine' Prg.kd_mk KX G ?e ?l ?ha ?hv;(case e=>k_is);(case l=>k_is);(case ha=>rfl);(case hv=>exact (And.intro (And.intro rfl (And.intro rfl rfl)) (And.intro (And.intro rfl (And.intro rfl rfl)) (And.intro (And.intro rfl (And.intro rfl rfl)) (And.intro (And.intro rfl (And.intro rfl rfl)) (And.intro (And.intro rfl (And.intro rfl rfl)) (And.intro (And.intro rfl (And.intro rfl rfl)) (And.intro (And.intro rfl (And.intro rfl rfl)) (And.intro (And.intro rfl (And.intro rfl rfl)) (And.intro (And.intro rfl (And.intro rfl rfl)) (And.intro (And.intro rfl (And.intro rfl rfl)) (And.intro (And.intro rfl (And.intro rfl rfl)) (And.intro (And.intro rfl (And.intro rfl rfl)) (And.intro (And.intro rfl (And.intro rfl rfl)) (And.intro (And.intro rfl (And.intro rfl rfl)) (And.intro (And.intro rfl (And.intro rfl rfl)) (And.intro (And.intro rfl (And.intro rfl rfl)) (And.intro (And.intro rfl (And.intro rfl rfl)) (And.intro (And.intro rfl (And.intro rfl rfl)) (And.intro (And.intro rfl (And.intro rfl rfl)) trivial))))))))))))))))))))
  case dTwo=>refine' Prg.two_mk KX G ?e ?ha ?l ?l1 ?l2 ?l3 ?l4 ?l5;(case e=>k_is);(case l=>k_is);(case ha=>rfl);(case l1=>k_is);(case l2=>k_is);(case l3=>k_is);(case l4=>k_is);(case l5=>k_is)
  case oFault=>refine' Prg.fault_mk (C:=31) (f:=28) KX G ?a ?kc ?x ?l ?c ?k;(case a=>k_is);(case kc=>k_is);(case l=>k_is);(case c=>k_is);(case k=>k_is);(case x=>refine' Prg.xcls_mk ?l ?l2 ?zq ?ty;(case l=>k_is);(case l2=>k_is);(case zq=>rfl);(case ty=>k_is))
  case oToken=>refine' Prg.token_mk (C:=61) KX G ?a ?cl ?n1 ?n2 ?n3 ?n4 ?mk ?i ?fn ?kc ?l ?c ?k;(case a=>k_is);(case n1=>k_is);(case n2=>k_is);(case n3=>k_is);(case n4=>k_is);(case mk=>k_is);(case i=>k_is);(case fn=>k_is);(case kc=>k_is);(case l=>k_is);(case c=>k_is);(case k=>k_is);(case cl=>refine' Prg.cls_mk (C:=61) ?pg ?hd ?po ?sa;(case pg=>k_is);(case hd=>k_is);(case po=>k_is);(case sa=>k_is))
