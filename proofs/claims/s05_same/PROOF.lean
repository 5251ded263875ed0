import PyProof.Rows.All
import Wide.All
import OpenK.AllK
import Wide.FinOn
import PyProof.EqAt
import PyProof.EqKinds
import PyProof.TupleCall
import KE.BitLaws
import PyProof.StationsW
import PyProof.InstStoreFacts
import PyProof.ExcInit
import PyProof.ExcArgsOwn
import PyProof.InstLoad
import PyProof.ExcAttrAll.Exception
import PyProof.ExcBaseAll.Exception
import PyProof.RulesAs
import KE.KMinKey
import Open.SpecLaws
import KE.OsHead
import KE.OsGo
import KE.SpHead
import KE.OsShapes
import PySem.Challenge.RW_celltexts_s05_same
set_option Elab.async false
set_option linter.all false
section
set_option maxRecDepth 100000
namespace L2
open PySem PySem.Spec PyProof.Rows
abbrev Key:=Sum Int Str
def keyIs:Key→Value→Bool
 | .inl k,v=>Value.isInt k v
 | .inr x,v=>Value.isStrOf x v
def keyH(w:World):Key→Int
 | .inl k=>hashInt k
 | .inr x=>hashStr w x
theorem keyIs_shape:∀ {k:Key} {v:Value},keyIs k v=true→(∃ i t,k=Sum.inl i∧v=Value.int i t)∨(∃ x t,k=Sum.inr x∧v=Value.str x t)
 | .inl i,v,h=>by
  obtain ⟨t,e⟩:=Value.isInt_shape (k:=i) (v:=v) h
  exact .inl ⟨i,t,rfl,e⟩
 | .inr x,v,h=>by
  obtain ⟨t,e⟩:=Value.isStrOf_shape (x:=x) (v:=v) h
  exact .inr ⟨x,t,rfl,e⟩
theorem keyIs_int(i:Int)(t:Tok):keyIs (.inl i) (.int i t)=true:=by simp [keyIs,Value.isInt]
theorem keyIs_str(x:Str)(t:Tok):keyIs (.inr x) (.str x t)=true:=by simp [keyIs,Value.isStrOf]
theorem key_ll(a b:Int):decide ((Sum.inl a:Key)=Sum.inl b)=(a == b):=by
 by_cases e:a=b
 ·subst e;simp
 ·have h:¬ (Sum.inl a:Key)=Sum.inl b:=fun q=>e (Sum.inl.inj q)
  rw [decide_eq_false h]
  exact (beq_eq_false_iff_ne.mpr e).symm
theorem key_rr(a b:Str):decide ((Sum.inr a:Key)=Sum.inr b)=decide (a=b):=by
 by_cases e:a=b
 ·subst e;simp
 ·have h:¬ (Sum.inr a:Key)=Sum.inr b:=fun q=>e (Sum.inr.inj q)
  rw [decide_eq_false h,decide_eq_false e]
theorem key_lr(a:Int)(b:Str):decide ((Sum.inl a:Key)=Sum.inr b)=false:=decide_eq_false (fun q=>nomatch q)
theorem key_rl(a:Str)(b:Int):decide ((Sum.inr a:Key)=Sum.inl b)=false:=decide_eq_false (fun q=>nomatch q)
def mixKind(prog:Program)(w:World):PySem.KeyKind prog w Key where
 is:=keyIs
 hash:=keyH w
 inj:=fun v a b ha hb=>by
  rcases keyIs_shape ha with ⟨i,t,rfl,rfl⟩ | ⟨x,t,rfl,rfl⟩
  ·rcases keyIs_shape hb with ⟨j,u,rfl,e⟩ | ⟨y,u,rfl,e⟩
   ·injection e with e1 _;rw [e1]
   ·exact nomatch e
  ·rcases keyIs_shape hb with ⟨j,u,rfl,e⟩ | ⟨y,u,rfl,e⟩
   ·exact nomatch e
   ·injection e with e1 _;rw [e1]
 byValue:=fun k v h=>by
  rcases keyIs_shape h with ⟨i,t,rfl,rfl⟩ | ⟨x,t,rfl,rfl⟩ <;> rfl
 pyHash:=fun hv h=>by
  rcases keyIs_shape hv with ⟨i,t,rfl,rfl⟩ | ⟨x,t,rfl,rfl⟩
  ·exact wpAny_pyHash_int h
  ·exact wpAny_pyHash_str h
 eqBool:=fun hu hv h=>by
  rcases keyIs_shape hu with ⟨i,t,rfl,rfl⟩ | ⟨x,t,rfl,rfl⟩
  ·rcases keyIs_shape hv with ⟨j,u,rfl,rfl⟩ | ⟨y,u,rfl,rfl⟩
   ·rw [key_ll] at h;exact wpAny_eqBool_int h
   ·rw [key_lr] at h;exact SeqAt.EqAt.int_str i t y u _ _ _ _ h
  ·rcases keyIs_shape hv with ⟨j,u,rfl,rfl⟩ | ⟨y,u,rfl,rfl⟩
   ·rw [key_rl] at h;exact SeqAt.EqAt.str_int x t j u _ _ _ _ h
   ·rw [key_rr] at h;exact wpAny_eqBool_str h
 «strs»:=fun k x t v h=>by
  rcases keyIs_shape h with ⟨i,u,rfl,e⟩ | ⟨y,u,rfl,e⟩
  ·exact nomatch e
  ·injection e with e1 _
   subst e1
   cases v <;> rfl
theorem mixKind_int(prog:Program)(w:World)(i:Int)(t:Tok):(mixKind prog w).is (.inl i) (.int i t)=true:=keyIs_int i t
theorem mixKind_str(prog:Program)(w:World)(x:Str)(t:Tok):(mixKind prog w).is (.inr x) (.str x t)=true:=keyIs_str x t
end L2
namespace L2
open PySem PySem.Spec PyProof.Rows
inductive V where
 | non | bl (b:Bool) | int (i:Int) | str (x:Str) | byt (b:Array UInt8) | flt (b:UInt64) | ref (a:Addr) | ty (n:String)
 deriving DecidableEq
def RelV:V→Value→Prop
 | .non,u=>u=Value.none
 | .bl b,u=>u=Value.bool b
 | .int i,u=>∃ t,u=Value.int i t
 | .str x,u=>∃ t,u=Value.str x t
 | .byt b,u=>∃ t,u=Value.bytes b t
 | .flt b,u=>∃ t,u=Value.float b t
 | .ref a,u=>u=Value.ref a
 | .ty n,u=>u=Value.type n
abbrev Vals:List V→List Value→Prop:=Paired RelV
theorem Vals.length{xs:List V}{us:List Value}(r:Vals xs us):xs.length=us.length:=Paired.length r
theorem Vals.get:∀ {xs:List V} {us:List Value} {i:Nat} {x:V},Vals xs us→xs[i]? = some x→∃ u,us[i]? = some u∧RelV x u
 | _,_,_,_,.nil,e=>by simp at e
 | _,_,0,_,.cons r _,e=>by simp at e;subst e;exact ⟨_,rfl,r⟩
 | _,_,i + 1,x,.cons _ t,e=>by
  obtain ⟨u,h1,h2⟩:=Vals.get (i:=i) (x:=x) t (by simpa using e)
  exact ⟨u,by simpa using h1,h2⟩
theorem Vals.append:∀ {xs ys:List V} {us ws:List Value},Vals xs us→Vals ys ws→Vals (xs ++ ys) (us ++ ws)
 | _,_,_,_,.nil,s=>s
 | _,_,_,_,.cons r t,s=>.cons r (Vals.append t s)
theorem Vals.take:∀ {xs:List V} {us:List Value} (n:Nat),Vals xs us→Vals (xs.take n) (us.take n)
 | _,_,0,_=>.nil
 | _,_,_ + 1,.nil=>.nil
 | _,_,n + 1,.cons r t=>.cons r (Vals.take n t)
theorem Vals.drop:∀ {xs:List V} {us:List Value} (n:Nat),Vals xs us→Vals (xs.drop n) (us.drop n)
 | _,_,0,r=>r
 | _,_,_ + 1,.nil=>.nil
 | _,_,n + 1,.cons _ t=>Vals.drop n t
def RelO:Option V→Option Value→Prop
 | some v,some u=>RelV v u
 | none,none=>True
 | _,_=>False
def KV{κ:Type}:List (κ×V)→List (κ×Value)→Prop:=Paired fun (p:κ×V) (q:κ×Value)=>p.1=q.1∧RelV p.2 q.2
def kV:Key→V
 | .inl i=>.int i
 | .inr x=>.str x
inductive HO where
 | lst (xs:List V)
 | tup (xs:List V)
 | dK (kvs:List (Key×V)) | dT (kvs:List (List Key×V))
 | set (S:Int→Bool) (n:Nat)
 | ins (C dx:Addr) (fs:List (Str×V))
 | own (x:Addr)
 | xd (fs:List (Str×V))
 | met (f x:Addr)
 | rng (lo hi:Int)
 | frz (o:Obj) (u:HO)
 | tbl (ps:Array Value)
 | ext (φ:Heap→Prop)
abbrev Hp:=Addr→Option HO
def upd(H:Hp)(a:Addr)(o:HO):Hp:=fun b=>if b=a then some o else H b
theorem upd_same{H:Hp}{a:Addr}{o:HO}:upd H a o a=some o:=by unfold upd;rw [if_pos rfl]
theorem upd_ne{H:Hp}{a b:Addr}{o:HO}(h:b≠a):upd H a o b=H b:=by unfold upd;rw [if_neg h]
theorem upd_upd{H:Hp}{a:Addr}{o u:HO}:upd (upd H a o) a u=upd H a u:=by
 funext b;unfold upd;split <;> rfl
theorem ne_of_none{H:Hp}{a b:Addr}{o:HO}(h:H a=some o)(h':H b=none):a≠b:=by
 intro e;subst e;rw [h] at h';cases h'
section
variable(P:Program)(w:World)
def ObjOk(H:Hp)(h:Heap)(a:Addr):HO→Prop
 | .lst xs=>xs.length≤sizeLine∧∃ (its:List Value) (n:Nat),Vals xs its∧h.get? a=some { cls:=.type "list",data:=.seq its.toArray n }
 | .tup xs=>xs.length≤sizeLine∧∃ its:List Value,Vals xs its∧IsTup h a its.toArray
 | .dK kvs=>kvs.length≤sizeLine∧(a == sysModules)=false∧∃ vs,KV kvs vs∧h.DictOf (mixKind P w) a vs
 | .dT kvs=>kvs.length≤sizeLine∧(a == sysModules)=false∧∃ xs:List (List Key×Addr×Value),
   Paired (fun (p:List Key×V) (q:List Key×Addr×Value)=>p.1=q.1∧H q.2.1=some (.tup (p.1.map kV))∧RelV p.2 q.2.2) kvs xs∧
   ∃ o es ep,h.get? a=some o∧o.ExactDict∧o.data = .dict es ep∧es.toList=xs.map (entryOfKey (tupleKind (mixKind P w)))∧(xs.map (·.1)).Nodup
 | .set S n=>h.SetOf (intKind P w) a S n
 | .ins C dx fs=>H dx=some (.own a)∧fs.length≤1000∧dx≠a∧h.get? a=some (PySem.W.instObj C dx)∧
   ∃ mA,h.Ns1 dx mA∧(∀ f,RelO (fs.lookup f) (mA f))∧PySem.Within mA (fs.map (·.1))
 | .own _=>∃ o,h.get? a=some o
 | .xd fs=>∃ mA,h.Ns1 a mA∧∀ f,RelO (fs.lookup f) (mA f)
 | .rng lo hi=>∃ t u v,h.get? a=some { cls:=.type "range",data:=.fields #[.int lo t,.int hi u,.int 1 v] }
 | .frz o u=>h.get? a=some o∧ObjOk H h a u
 | .tbl ps=>h.get? a=some { cls:=.none,data:=.fields ps }
 | .met f x=>h.get? a=some (PySem.W.methodObj (.ref f) (.ref x))
 | .ext φ=>φ h∧(∃ o,h.get? a=some o)∧∀ h1 h2:Heap,φ h1→(∀ o,h1.get? a=some o→h2.get? a=some o)→φ h2
def HOk(H:Hp)(h:Heap):Prop:=∀ a o,H a=some o→ObjOk P w H h a o
end
section
variable{P:Program}{w:World}{H H':Hp}{h h':Heap}{a:Addr}{o:HO}
theorem ObjOk.lt(x:ObjOk P w H h a o):a < h.objs.size:=by
 cases o with
 | lst xs=>obtain ⟨_,_,_,_,e⟩:=x;exact Heap.lt_size e
 | tup xs=>obtain ⟨_,_,_,p⟩:=x;exact p.lt
 | dK kvs=>obtain ⟨_,_,_,_,o,_,_,e,_⟩:=x;exact Heap.lt_size e
 | dT kvs=>obtain ⟨_,_,_,_,o,_,_,e,_⟩:=x;exact Heap.lt_size e
 | set S n=>obtain ⟨o,_,_,_,e,_⟩:=x;exact Heap.lt_size e
 | ins C dx fs=>obtain ⟨_,_,_,e,_⟩:=x;exact Heap.lt_size e
 | own y=>obtain ⟨_,e⟩:=x;exact Heap.lt_size e
 | xd fs=>obtain ⟨_,⟨_,_,_,e,_⟩,_⟩:=x;exact Heap.lt_size e
 | rng lo hi=>obtain ⟨_,_,_,e⟩:=x;exact Heap.lt_size e
 | frz ob u=>obtain ⟨e,_⟩:=x;exact Heap.lt_size e
 | tbl ps=>exact Heap.lt_size (show h.get? a=some _ from x)
 | met f y=>exact Heap.lt_size (show h.get? a=some _ from x)
 | ext φ=>obtain ⟨_,⟨_,e⟩,_⟩:=x;exact Heap.lt_size e
theorem Paired.mapP{α β:Type}{F G:α→β→Prop}:∀ {l₁:List α} {l₂:List β},Paired F l₁ l₂→(∀ a b,F a b→G a b)→Paired G l₁ l₂
 | _,_,.nil,_=>.nil
 | _,_,.cons r t,f=>.cons (f _ _ r) (Paired.mapP t f)
theorem ObjOk.stay(x:ObjOk P w H h a o)(k:∀ b u,(b=a∨H b=some (.own a))→h.get? b=some u→h'.get? b=some u)
  (ho:∀ b,H b=some (.own a)→H' b=some (.own a)) (ht:∀ b xs,H b=some (.tup xs)→H' b=some (.tup xs)):ObjOk P w H' h' a o:=by
 induction o with
 | lst xs=>obtain ⟨z,its,n,r,e⟩:=x;exact ⟨z,its,n,r,k _ _ (.inl rfl) e⟩
 | tup xs=>obtain ⟨z,its,r,ob,e,c⟩:=x;exact ⟨z,its,r,ob,k _ _ (.inl rfl) e,c⟩
 | dK kvs=>obtain ⟨z,y,vs,r,ob,es,ep,e,c⟩:=x;exact ⟨z,y,vs,r,ob,es,ep,k _ _ (.inl rfl) e,c⟩
 | dT kvs =>
  obtain ⟨z,y,xs,r,ob,es,ep,e,c⟩:=x
  exact ⟨z,y,xs,Paired.mapP r fun p q z=>⟨z.1,ht _ _ z.2.1,z.2.2⟩,ob,es,ep,k _ _ (.inl rfl) e,c⟩
 | set S n=>obtain ⟨ob,es,ep,t,e,c⟩:=x;exact ⟨ob,es,ep,t,k _ _ (.inl rfl) e,c⟩
 | ins C dx fs =>
  obtain ⟨d,z,ne,e,mA,⟨od,es,ep,e2,c⟩,r⟩:=x
  exact ⟨ho _ d,z,ne,k _ _ (.inl rfl) e,mA,⟨od,es,ep,k _ _ (.inr d) e2,c⟩,r⟩
 | own y=>obtain ⟨ob,e⟩:=x;exact ⟨ob,k _ _ (.inl rfl) e⟩
 | xd fs=>obtain ⟨mA,⟨od,es,ep,e,c⟩,r⟩:=x;exact ⟨mA,⟨od,es,ep,k _ _ (.inl rfl) e,c⟩,r⟩
 | rng lo hi=>obtain ⟨t,u,v,e⟩:=x;exact ⟨t,u,v,k _ _ (.inl rfl) e⟩
 | frz ob u ih=>obtain ⟨e,q⟩:=x;exact ⟨k _ _ (.inl rfl) e,ih q⟩
 | tbl ps =>
  have e:h.get? a=some { cls:=.none,data:=.fields ps }:=x
  show h'.get? a=some { cls:=.none,data:=.fields ps }
  exact k a _ (.inl rfl) e
 | met f y =>
  have e:h.get? a=some (PySem.W.methodObj (.ref f) (.ref y)):=x
  show h'.get? a=some (PySem.W.methodObj (.ref f) (.ref y))
  exact k a _ (.inl rfl) e
 | ext φ=>obtain ⟨p,⟨o,e⟩,st⟩:=x;exact ⟨st _ _ p fun o q=>k _ _ (.inl rfl) q,⟨o,k _ _ (.inl rfl) e⟩,st⟩
theorem HOk.lt(x:HOk P w H h)(e:H a=some o):a < h.objs.size:=(x a o e).lt
theorem HOk.fresh(x:HOk P w H h)(e:h.objs.size≤a):H a=none:=by
 cases q:H a with
 | none=>rfl
 | some u=>exact absurd (Nat.lt_of_lt_of_le (x.lt q) e) (Nat.lt_irrefl _)
theorem HOk.kept(x:HOk P w H h)(k:∀ b u,h.get? b=some u→h'.get? b=some u):HOk P w H h':=fun a o e =>
 (x a o e).stay (fun b u _ q=>k b u q) (fun _ q=>q) fun _ _ q=>q
theorem HOk.laid(x:HOk P w H h)(k:∀ b u,h.get? b=some u→h'.get? b=some u)(hp:h.objs.size≤a)(new:ObjOk P w (upd H a o) h' a o):HOk P w (upd H a o) h':=fun b u e=>by
 have hn:=x.fresh hp
 by_cases hb:b=a
 ·subst hb;rw [upd_same] at e;cases e;exact new
 ·rw [upd_ne hb] at e
  exact (x b u e).stay (fun c v _ q=>k c v q) (fun c q=>by rw [upd_ne (ne_of_none q hn)];exact q) fun c xs q=>by rw [upd_ne (ne_of_none q hn)];exact q
end
def Rd(H:Hp)(a:Addr)(u:HO):Prop:=H a=some u∨∃ o,H a=some (.frz o u)
theorem Rd.ok{P:Program}{w:World}{H:Hp}{h:Heap}{a:Addr}{u:HO}(r:Rd H a u)(x:HOk P w H h):ObjOk P w H h a u:=by
 rcases r with r | ⟨o,r⟩
 ·exact x a u r
 ·obtain ⟨_,q⟩:=x a _ r
  exact q
def Mut:Option HO→Prop
 | some (.lst _)=>True
 | some (.dK _)=>True
 | some (.dT _)=>True
 | some (.set _ _)=>True
 | some (.ins _ _ _)=>True
 | some (.ext _)=>True
 | _=>False
section
variable{P:Program}{w:World}{H:Hp}{h h':Heap}{x e:Addr}{o':HO}
theorem HOk.write(ok:HOk P w H h)(mu:Mut (H x))(he:e=x∨H e=some (.own x))(k:∀ b u,b≠e→h.get? b=some u→h'.get? b=some u)(heo:∃ u,h'.get? e=some u)
  (new:ObjOk P w (upd H x o') h' x o'):HOk P w (upd H x o') h':=fun b u q=>by
 have nown:∀ c y,H c=some (.own y)→c≠x:=fun c y r z=>by subst z;rw [r] at mu;exact mu
 have ntup:∀ c xs,H c=some (.tup xs)→c≠x:=fun c xs r z=>by subst z;rw [r] at mu;exact mu
 by_cases hb:b=x
 ·subst hb;rw [upd_same] at q;cases q;exact new
 ·rw [upd_ne hb] at q
  by_cases hbe:b=e
  ·have q':H b=some (.own x):=by
    rcases he with z | z
    ·exact absurd (hbe.trans z) hb
    ·rw [hbe];exact z
   rw [q] at q';cases q'
   obtain ⟨v,hv⟩:=heo
   exact ⟨v,by rw [hbe];exact hv⟩
  ·refine (ok b u q).stay (fun c v hc r=>k c v ?_ r) (fun c r=>by rw [upd_ne (nown c b r)];exact r) fun c xs r=>by rw [upd_ne (ntup c xs r)];exact r
   rcases hc with rfl | hc
   ·exact hbe
   ·rintro rfl
    rcases he with z | z
    ·exact nown c b hc z
    ·rw [hc] at z;cases z;exact hb rfl
end
structure Un(fs ex:List Addr)(H H':Hp)(h h':Heap):Prop where
 keep:∀ b o,h.get? b=some o→H b=none→b∉fs→b∉ex→h'.get? b=some o
 slot:∀ b o,h.get? b=some o→H b=none→b∈fs→b∉ex→∃ sl,h'.get? b=some { o with slots:=sl }
 free:∀ b o,h.get? b=some o→H b=none→b∉ex→H' b=none
 there:∀ b o,h.get? b=some o→b∉ex→∃ o',h'.get? b=some o'
 tups:∀ b xs,H b=some (.tup xs)→H' b=some (.tup xs)
 frzs:∀ b o u,H b=some (.frz o u)→H' b=some (.frz o u)
 tbls:∀ b ps,H b=some (.tbl ps)→∃ more,H' b=some (.tbl (ps ++ more))
section
variable{fs fs' ex ex':List Addr}{H H1 H2:Hp}{h h1 h2 h':Heap}{a x e:Addr}{o:HO}
theorem Un.any(u:Un fs ex H H1 h h1){b:Addr}{ob:Obj}(q:h.get? b=some ob)(n:H b=none)(hx:b∉ex):∃ sl,h1.get? b=some { ob with slots:=sl }:=by
 by_cases hb:b∈fs
 ·exact u.slot b ob q n hb hx
 ·exact ⟨ob.slots,u.keep b ob q n hb hx⟩
theorem Un.kept(k:∀ b u,h.get? b=some u→h'.get? b=some u):Un fs ex H H h h' :=
 ⟨fun b ob q _ _ _=>k b ob q,fun b ob q _ _ _=>⟨ob.slots,k b ob q⟩,fun _ _ _ n _=>n,fun b ob q _=>⟨ob,k b ob q⟩,fun _ _ q=>q,fun _ _ _ q=>q,fun _ ps q=>⟨#[],by rw [q];simp⟩⟩
theorem Un.refl:Un fs ex H H h h:=Un.kept fun _ _ q=>q
theorem Un.laid(k:∀ b u,h.get? b=some u→h'.get? b=some u)(hp:h.objs.size≤a)(hn:H a=none):Un fs ex H (upd H a o) h h' where
 keep:=fun b u q _ _ _=>k b u q
 slot:=fun b u q _ _ _=>⟨u.slots,k b u q⟩
 free:=fun b u q n _=>by rw [upd_ne (Nat.ne_of_lt (Nat.lt_of_lt_of_le (Heap.lt_size q) hp))];exact n
 there:=fun b u q _=>⟨u,k b u q⟩
 tups:=fun b xs q=>by rw [upd_ne (ne_of_none q hn)];exact q
 frzs:=fun b u xs q=>by rw [upd_ne (ne_of_none q hn)];exact q
 tbls:=fun b ps q=>⟨#[],by rw [upd_ne (ne_of_none q hn),q];simp⟩
theorem Un.write(mu:Mut (H x))(he:e=x∨H e=some (.own x))(k:∀ b u,b≠e→h.get? b=some u→h'.get? b=some u)(heo:∃ u,h'.get? e=some u):Un fs ex H (upd H x o) h h':=by
 have hx:∀ b,H b=none→b≠x:=fun b n z=>by subst z;rw [n] at mu;exact mu
 have hb:∀ b,H b=none→b≠e:=fun b n z=>by
  subst z
  rcases he with r | r
  ·exact hx b n r
  ·rw [n] at r;cases r
 have hm:∀ b u,H b=some u→¬ Mut (some u)→b≠x:=fun b u q nm z=>by subst z;rw [q] at mu;exact nm mu
 refine ⟨fun b u q n _ _=>k b u (hb b n) q,fun b u q n _ _=>⟨u.slots,k b u (hb b n) q⟩,fun b u q n _=>by rw [upd_ne (hx b n)];exact n,fun b u q _=>?_,
  fun b xs q=>by rw [upd_ne (hm b _ q fun z=>z)];exact q,fun b u xs q=>by rw [upd_ne (hm b _ q fun z=>z)];exact q,fun b ps q=>⟨#[],by rw [upd_ne (hm b _ q fun z=>z),q];simp⟩⟩
 by_cases hbe:b=e
 ·subst hbe;exact heo
 ·exact ⟨u,k b u hbe q⟩
end
def trk(h:Heap)(H:Hp):List Addr:=(List.range h.objs.size).filter fun a=>(H a).isSome
def hidT(h:Heap)(H:Hp):Heap:=PySem.W.hideAll h (trk h H)
theorem hidT_size(h:Heap)(H:Hp):(hidT h H).objs.size=h.objs.size:=PySem.W.hideAll_size _ _
theorem hidT_get{h:Heap}{H:Hp}{b:Addr}{o:Obj}(e:h.get? b=some o)(n:H b=none):(hidT h H).get? b=some o :=
 PySem.W.hideAll_get _ e fun hm=>by
  have q:(H b).isSome=true:=(List.mem_filter.mp hm).2
  rw [n] at q;simp at q
theorem of_hidT{h:Heap}{H:Hp}{b:Addr}{o:Obj}(e:(hidT h H).get? b=some o):h.get? b=some o∧H b=none:=by
 have e':h.get? b=some o:=PySem.W.of_hideAll (trk h H) e
 refine ⟨e',?_⟩
 cases q:H b with
 | none=>rfl
 | some x =>
  have hm:b∈trk h H:=List.mem_filter.mpr ⟨List.mem_range.mpr (Heap.lt_size e'),by simp [q]⟩
  have z:(hidT h H).get? b=none:=PySem.W.hideAll_none (trk h H) hm
  rw [z] at e;cases e
end L2
namespace L2
open PySem PySem.Spec PyProof.Rows
structure Mod(K:PySem.W.Frag)(mg:Str→Option Value)(base:Heap):Prop where
 kin:K.In base
 glob:base.Ns mainGlobals mg
 blt:∃ mb,base.Ns builtinsNs mb∧∀ x:Str,x≠"__name__"→mb x=bootBuiltins x
 nolimit:base.NoLimit
structure Cx where
 prog:Program
 w:World
 K:PySem.W.Frag
 mg:Str→Option Value
 base:Heap
 A:Around
 N:List Str
 s_0:Shared
 H_0:Hp
 env:Env
 outer:List Env
 stack:List Env
 ex:List Addr
 fn:Str→Bool
 calm:Bool
 pn:List (Addr×Obj)
 xe:Value→Shared→Prop
def frs(l:List Env):List Addr:=l.filterMap (·.frame)
abbrev Cx.fs(X:Cx):List Addr:=frs X.outer
def Vis(sc:Scope)(x:Str):Prop:=sc.names.lookup x=some .local∨sc.names.lookup x=some .cell∨sc.names.lookup x=some .free
def Loc(sc:Scope)(x:Str):Prop:=sc.names.lookup x=some .local∨sc.names.lookup x=some .cell
def Look(env:Env)(h:Heap)(m:Str→Option Value)(x:Str)(u:Value):Prop :=
 (env.kindOf x=some .local∧m x=some u)∨((env.kindOf x=some .cell∨env.kindOf x=some .free)∧∃ c,env.cells.lookup x=some c∧h.IsCell c (some u))
structure Cx.Ok(X:Cx):Prop where
 mod:Mod X.K X.mg X.base
 kind:X.env.scope.kind = .function
 glob:X.env.globals=mainGlobals
 blt:X.env.builtins=builtinsNs
 above:X.s_0.heap.objs.size≤X.env.locals
 inj:∀ x y c,X.env.cells.lookup x=some c→X.env.cells.lookup y=some c→x=y
 has:∀ x,(X.env.kindOf x=some .cell∨X.env.kindOf x=some .free)→∃ c,X.env.cells.lookup x=some c
 cab:∀ x c,X.fn x=true→X.env.cells.lookup x=some c→X.s_0.heap.objs.size≤c
 hd:X.calm=true→X.A.handled=none
 frames:X.A.frames=some X.stack
 stk:X.stack=X.outer∨(X.stack=X.env::X.outer∧X.env.frame=some X.env.locals)
 exf:∀ b∈X.ex,b≠X.env.locals∧∀ x c,X.env.cells.lookup x=some c→c≠b
 bs:∀ b o,X.base.get? b=some o→X.s_0.heap.get? b=some o∧X.H_0 b=none
 bsz:X.base.objs.size≤X.s_0.heap.objs.size
 noex:∀ b o,X.base.get? b=some o→b∉X.ex
 exfs:∀ b∈X.ex,b∉X.fs
 funs:X.s_0.heap.FunFrames X.base X.outer
 frf:∀ b∈X.fs,X.H_0 b=none
structure Inv(X:Cx)(pins:List (Addr×Obj))(σ:List (Option V))(H:Hp)(s:Shared):Prop where
 ok:X.Ok
 os:s.os=X.s_0.os
 bare:AllBare s.gens
 base:Un X.fs X.ex X.H_0 H X.s_0.heap s.heap
 loc:∃ m,s.heap.Ns X.env.locals m∧∀ (i:Nat) (x:Str) (v:V),X.N[i]? = some x→σ[i]? = some (some v)→Vis X.env.scope x→∃ u,RelV v u∧Look X.env s.heap m x u
 cell:∀ x c,X.env.cells.lookup x=some c→∃ v,s.heap.IsCell c v
 free:H X.env.locals=none
 freeC:∀ x c,X.env.cells.lookup x=some c→H c=none
 pin:∀ p∈X.pn ++ pins,s.heap.get? p.1=some p.2∧H p.1=none∧p.1≠X.env.locals∧p.1∉X.fs∧∀ v,p.2.data≠.cell v
 hok:HOk X.prog X.w H s.heap
 len:σ.length=X.N.length
section
variable{X:Cx}{pins:List (Addr×Obj)}{σ:List (Option V)}{H H':Hp}{s:Shared}{h':Heap}
theorem Cx.Ok.nofr(ok:X.Ok){b:Addr}{o:Obj}(e:X.base.get? b=some o):b∉X.fs:=fun hb=>by
 have:=(ok.funs.mem hb).1
 rw [e] at this;cases this
theorem Inv.bs(I:Inv X pins σ H s):∀ b o,X.base.get? b=some o→s.heap.get? b=some o∧H b=none:=fun b o e =>
 ⟨I.base.keep b o (I.ok.bs b o e).1 (I.ok.bs b o e).2 (I.ok.nofr e) (I.ok.noex b o e),I.base.free b o (I.ok.bs b o e).1 (I.ok.bs b o e).2 (I.ok.noex b o e)⟩
theorem Inv.bk(I:Inv X pins σ H s):∀ b o,X.base.get? b=some o→s.heap.get? b=some o:=fun b o e=>(I.bs b o e).1
theorem Inv.mod(I:Inv X pins σ H s):Mod X.K X.mg X.base:=I.ok.mod
theorem Inv.kIn(I:Inv X pins σ H s):X.K.In s.heap:=I.ok.mod.kin.keeps I.bk
theorem Inv.fr(I:Inv X pins σ H s):∃ m,Fr X.base X.env.locals s.heap m :=
 let ⟨m,hn,_⟩:=I.loc
 ⟨m,hn,I.bk,Nat.le_trans I.ok.bsz I.ok.above⟩
theorem Inv.lt(I:Inv X pins σ H s):X.env.locals < s.heap.objs.size:=let ⟨_,hn,_⟩:=I.loc;hn.lt
theorem Inv.sz(I:Inv X pins σ H s):X.s_0.heap.objs.size≤s.heap.objs.size:=Nat.le_trans I.ok.above (Nat.le_of_lt I.lt)
theorem Inv.nofs(I:Inv X pins σ H s){a:Addr}(h:s.heap.objs.size≤a):a∉X.fs:=fun hb=>by
 obtain ⟨_,o,ho,_⟩:=I.ok.funs.mem hb
 exact absurd (Nat.lt_of_lt_of_le (Heap.lt_size ho) (Nat.le_trans I.sz h)) (Nat.lt_irrefl _)
theorem Inv.cne(I:Inv X pins σ H s):∀ x c,X.env.cells.lookup x=some c→c≠X.env.locals:=fun x c e z=>by
 obtain ⟨v,o,ho,hd⟩:=I.cell x c e
 obtain ⟨m,⟨o',es,ep,ho',hd',_⟩,_⟩:=I.loc
 rw [z,ho'] at ho;cases ho;rw [hd'] at hd;cases hd
theorem Inv.funs(I:Inv X pins σ H s):s.heap.FunFrames X.base X.outer:=by
 have all:∀ (l:List Env),(∀ b∈frs l,b∈X.fs)→X.s_0.heap.FunFrames X.base l→s.heap.FunFrames X.base l:=by
  intro l
  induction l with
  | nil=>intro _ _;trivial
  | cons env r ih =>
   intro hs hl
   obtain ⟨hk,⟨L,o,hf,hn,ho,hd⟩,hr⟩:=hl
   have hL:L∈X.fs:=hs L (by unfold frs;rw [List.filterMap_cons,hf];exact List.mem_cons_self)
   obtain ⟨sl,e⟩:=I.base.slot L o ho (I.ok.frf L hL) hL fun z=>I.ok.exfs L z hL
   exact ⟨hk,⟨L,_,hf,hn,e,hd⟩,ih (fun b hb=>hs b (by unfold frs;rw [List.filterMap_cons,hf];exact List.mem_cons_of_mem _ hb)) hr⟩
 exact all X.outer (fun _ hb=>hb) I.ok.funs
theorem Inv.stack(I:Inv X pins σ H s):s.heap.FunFrames X.base X.stack:=by
 rcases I.ok.stk with e | ⟨e,hf⟩
 ·rw [e];exact I.funs
 ·rw [e]
  obtain ⟨m,hn,_⟩:=I.loc
  refine .cons (by rw [I.ok.kind];decide) hf hn ?_ I.funs
  exact Heap.get?_none_of_le (Nat.le_trans I.ok.bsz I.ok.above)
theorem Inv.stkSub(I:Inv X pins σ H s):∀ b∈frs X.stack,b∈X.env.locals::X.fs:=fun b hb=>by
 rcases I.ok.stk with e | ⟨e,hf⟩
 ·rw [e] at hb;exact List.mem_cons_of_mem _ hb
 ·rw [e] at hb
  unfold frs at hb
  rw [List.filterMap_cons,hf] at hb
  exact hb
theorem Inv.stkFree(I:Inv X pins σ H s):∀ b∈frs X.stack,H b=none:=fun b hb=>by
 rcases List.mem_cons.mp (I.stkSub b hb) with e | hb
 ·rw [e];exact I.free
 ·obtain ⟨_,o,ho,_⟩:=I.ok.funs.mem hb
  exact I.base.free b o ho (I.ok.frf b hb) fun z=>I.ok.exfs b z hb
theorem Inv.step{g':Array GenState}{t':Nat}{d':Drawn}{ch:List Addr}(I:Inv X pins σ H s)
  (hch:∀ b∈ch,(b∈X.ex∨X.s_0.heap.objs.size≤b)∧b≠X.env.locals∧(∀ x c,X.env.cells.lookup x=some c→c≠b)∧∀ p∈X.pn ++ pins,p.1≠b)
  (keep:∀ b o,b≠X.env.locals→b∉X.fs→b∉ch→s.heap.get? b=some o→H b=none→h'.get? b=some o)
  (slot:∀ b o,b≠X.env.locals→b∈X.fs→b∉ch→s.heap.get? b=some o→H b=none→∃ sl,h'.get? b=some { o with slots:=sl }) (free:∀ b o,b∉ch→s.heap.get? b=some o→H b=none→H' b=none)
  (there:∀ b o,b∉ch→s.heap.get? b=some o→∃ o',h'.get? b=some o')
  (tups:∀ b xs,H b=some (.tup xs)→H' b=some (.tup xs)) (frzs:∀ b o u,H b=some (.frz o u)→H' b=some (.frz o u)) (tbls:∀ b ps,H b=some (.tbl ps)→∃ more,H' b=some (.tbl (ps ++ more)))
  (ns:∀ m,s.heap.Ns X.env.locals m→h'.Ns X.env.locals m) (hok:HOk X.prog X.w H' h') (hg:AllBare g') :
  Inv X pins σ H' { s with heap:=h',gens:=g',drawn:=d',toks:=t' }:=by
 have neL:∀ b o,X.s_0.heap.get? b=some o→b≠X.env.locals:=fun b o e=>Nat.ne_of_lt (Nat.lt_of_lt_of_le (Heap.lt_size e) I.ok.above)
 have neC:∀ b o,X.s_0.heap.get? b=some o→b∉X.ex→b∉ch:=fun b o e hx hb=>by
  rcases (hch b hb).1 with z | z
  ·exact hx z
  ·exact absurd (Nat.lt_of_lt_of_le (Heap.lt_size e) z) (Nat.lt_irrefl _)
 have cellK:∀ x c,X.env.cells.lookup x=some c→∀ v,s.heap.IsCell c v→h'.IsCell c v:=fun x c e v ⟨o,ho,hd⟩=>by
  have nch:c∉ch:=fun z=>(hch c z).2.2.1 x c e rfl
  by_cases hc:c∈X.fs
  ·obtain ⟨sl,q⟩:=slot c o (I.cne x c e) hc nch ho (I.freeC x c e)
   exact ⟨_,q,hd⟩
  ·exact ⟨o,keep c o (I.cne x c e) hc nch ho (I.freeC x c e),hd⟩
 refine ⟨I.ok,I.os,hg,⟨fun b o e n hb hx=>?_,fun b o e n hb hx=>?_,fun b o e n hx=>?_,fun b o e hx=>?_,fun b xs e=>tups b xs (I.base.tups b xs e),fun b o xs e=>frzs b o xs (I.base.frzs b o xs e),fun b ps e=>?_⟩,?_,fun x c e=>?_,?_,fun x c e=>?_,fun p hp=>?_,hok,I.len⟩
 ·exact keep b o (neL b o e) hb (neC b o e hx) (I.base.keep b o e n hb hx) (I.base.free b o e n hx)
 ·obtain ⟨sl,e1⟩:=I.base.slot b o e n hb hx
  obtain ⟨sl',e2⟩:=slot b _ (neL b o e) hb (neC b o e hx) e1 (I.base.free b o e n hx)
  exact ⟨sl',e2⟩
 ·obtain ⟨o',e1⟩:=I.base.there b o e hx
  exact free b o' (neC b o e hx) e1 (I.base.free b o e n hx)
 ·obtain ⟨o',e1⟩:=I.base.there b o e hx
  exact there b o' (neC b o e hx) e1
 ·obtain ⟨m1,e1⟩:=I.base.tbls b ps e
  obtain ⟨m2,e2⟩:=tbls b _ e1
  exact ⟨m1 ++ m2,by rw [e2,Array.append_assoc]⟩
 ·obtain ⟨m,hn,hl⟩:=I.loc
  refine ⟨m,ns m hn,fun i x v e1 e2 e3=>?_⟩
  obtain ⟨u,r,l⟩:=hl i x v e1 e2 e3
  refine ⟨u,r,?_⟩
  rcases l with l | ⟨k,c,e,z⟩
  ·exact .inl l
  ·exact .inr ⟨k,c,e,cellK x c e _ z⟩
 ·obtain ⟨v,z⟩:=I.cell x c e
  exact ⟨v,cellK x c e v z⟩
 ·obtain ⟨m,⟨o,_,_,ho,_⟩,_⟩:=I.loc
  exact free _ o (fun z=>(hch _ z).2.1 rfl) ho I.free
 ·obtain ⟨v,o,ho,hd⟩:=I.cell x c e
  exact free c o (fun z=>(hch c z).2.2.1 x c e rfl) ho (I.freeC x c e)
 ·obtain ⟨e,n,ne,nf,d⟩:=I.pin p hp
  have nch:p.1∉ch:=fun z=>(hch p.1 z).2.2.2 p hp rfl
  exact ⟨keep p.1 p.2 ne nf nch e n,free p.1 p.2 nch e n,ne,nf,d⟩
theorem Inv.un{t':Nat}(I:Inv X pins σ H s)(u:Un X.fs [] H H' s.heap h')(hok:HOk X.prog X.w H' h'):Inv X pins σ H' { s with heap:=h',toks:=t' }:=by
 obtain ⟨m,⟨o,es,ep,ho,r⟩,_⟩:=id I.loc
 obtain ⟨sl,hL⟩:=u.any ho I.free (by simp)
 exact I.step (g':=s.gens) (d':=s.drawn) (ch:=[]) (fun _ z=>nomatch z) (fun b o _ hb _ e n=>u.keep b o e n hb (by simp)) (fun b o _ hb _ e n=>u.slot b o e n hb (by simp)) (fun b o _ e n=>u.free b o e n (by simp)) (fun b o _ e=>u.there b o e (by simp)) u.tups u.frzs u.tbls (fun m' hm=>by
  obtain ⟨o',es',ep',ho',r'⟩:=hm
  rw [ho] at ho';cases ho'
  exact ⟨_,es',ep',hL,r'⟩) hok I.bare
theorem Inv.call{g':Array GenState}{t':Nat}{d':Drawn}{ch:List Addr}(I:Inv X pins σ H s)(u:Un (frs X.stack) ch H H' s.heap h')(hok:HOk X.prog X.w H' h')(hg:AllBare g')
  (hch:∀ b∈ch,(b∈X.ex∨X.s_0.heap.objs.size≤b)∧b≠X.env.locals∧(∀ x c,X.env.cells.lookup x=some c→c≠b)∧∀ p∈X.pn ++ pins,p.1≠b) :
  Inv X pins σ H' { s with heap:=h',gens:=g',drawn:=d',toks:=t' }:=by
 obtain ⟨m,⟨o,es,ep,ho,r⟩,_⟩:=id I.loc
 obtain ⟨sl,hL⟩:=u.any ho I.free fun z=>(hch _ z).2.1 rfl
 exact I.step (ch:=ch) hch (fun b o hL hb hc e n=>u.keep b o e n (fun z=>(List.mem_cons.mp (I.stkSub b z)).elim hL hb) hc) (fun b o _ _ hc e n=>u.any e n hc) (fun b o hc e n=>u.free b o e n hc) (fun b o hc e=>u.there b o e hc) u.tups u.frzs u.tbls (fun m' hm=>by
  obtain ⟨o',es',ep',ho',r'⟩:=hm
  rw [ho] at ho';cases ho'
  exact ⟨_,es',ep',hL,r'⟩) hok hg
theorem Inv.turned{t':Nat}{it:Addr}(I:Inv X pins σ H s)(k:∀ b o,b≠it→s.heap.get? b=some o→h'.get? b=some o)(hn:H it=none)(hL:it≠X.env.locals)
  (h1:it∈X.ex∨X.s_0.heap.objs.size≤it) (h2:∀ x c,X.env.cells.lookup x=some c→c≠it) (h3:∀ p∈X.pn ++ pins,p.1≠it):Inv X pins σ H { s with heap:=h',toks:=t' }:=by
 have nit:∀ b u,H b=some u→b≠it:=fun b u e z=>by rw [z,hn] at e;cases e
 refine I.step (g':=s.gens) (d':=s.drawn) (ch:=[it]) (fun b hb=>?_) (fun b o _ _ hc e _=>k b o (fun z=>hc (by simp [z])) e) (fun b o _ _ hc e _=>⟨o.slots,k b o (fun z=>hc (by simp [z])) e⟩) (fun _ _ _ _ n=>n)
  (fun b o hc e=>⟨o,k b o (fun z=>hc (by simp [z])) e⟩) (fun _ _ e=>e) (fun _ _ _ e=>e) (fun b ps e=>⟨#[],by rw [e];simp⟩) (fun m hm=>?_) (fun b u e=>?_) I.bare
 ·have e:b=it:=by simpa using hb
  subst e
  exact ⟨h1,hL,h2,h3⟩
 ·obtain ⟨o,es,ep,ho,r⟩:=hm
  exact ⟨o,es,ep,k _ o (Ne.symm hL) ho,r⟩
 ·refine (I.hok b u e).stay (fun c v hc q=>k c v ?_ q) (fun _ q=>q) fun _ _ q=>q
  rcases hc with z | z
  ·rw [z];exact nit b u e
  ·exact nit c _ z
theorem Inv.tok(I:Inv X pins σ H s)(t:Nat):Inv X pins σ H { s with toks:=t }:=I.un (h':=s.heap) (t':=t) Un.refl I.hok
theorem Inv.kept{t':Nat}(I:Inv X pins σ H s)(k:∀ b u,s.heap.get? b=some u→h'.get? b=some u):Inv X pins σ H { s with heap:=h',toks:=t' }:=I.un (Un.kept k) (I.hok.kept k)
theorem Inv.laid{a:Addr}{o:HO}{t':Nat}(I:Inv X pins σ H s)(k:∀ b u,s.heap.get? b=some u→h'.get? b=some u)(hp:s.heap.objs.size≤a)(new:ObjOk X.prog X.w (upd H a o) h' a o) :
  Inv X pins σ (upd H a o) { s with heap:=h',toks:=t' }:=I.un (Un.laid k hp (I.hok.fresh hp)) (I.hok.laid k hp new)
theorem Inv.write{x e:Addr}{o:HO}{t':Nat}(I:Inv X pins σ H s)(mu:Mut (H x))(he:e=x∨H e=some (.own x))(k:∀ b u,b≠e→s.heap.get? b=some u→h'.get? b=some u)(heo:∃ u,h'.get? e=some u)
  (new:ObjOk X.prog X.w (upd H x o) h' x o):Inv X pins σ (upd H x o) { s with heap:=h',toks:=t' }:=I.un (Un.write mu he k heo) (I.hok.write mu he k heo new)
theorem Inv.weak{σ':List (Option V)}(I:Inv X pins σ H s)(hl:σ'.length=σ.length)(w:∀ (i:Nat) v,σ'[i]? = some (some v)→σ[i]? = some (some v)):Inv X pins σ' H s :=
 ⟨I.ok,I.os,I.bare,I.base,let ⟨m,hn,hl'⟩:=I.loc;⟨m,hn,fun i x v e1 e2 e3=>hl' i x v e1 (w i v e2) e3⟩,I.cell,I.free,I.freeC,I.pin,I.hok,hl.trans I.len⟩
theorem Inv.pins_of{pins':List (Addr×Obj)}(I:Inv X pins σ H s)(h:∀ p∈pins',s.heap.get? p.1=some p.2∧H p.1=none∧p.1≠X.env.locals∧p.1∉X.fs∧∀ v,p.2.data≠.cell v):Inv X pins' σ H s :=
 ⟨I.ok,I.os,I.bare,I.base,I.loc,I.cell,I.free,I.freeC,fun p hp=>(List.mem_append.mp hp).elim (fun z=>I.pin p (List.mem_append_left _ z)) (h p),I.hok,I.len⟩
theorem nodup_ix{N:List Str}(hN:N.Nodup){i j:Nat}{x:Str}(a:N[i]? = some x)(b:N[j]? = some x):i=j:=by
 obtain ⟨h1,e1⟩:=List.getElem?_eq_some_iff.mp a
 obtain ⟨h2,e2⟩:=List.getElem?_eq_some_iff.mp b
 exact (List.getElem_inj hN).mp (e1.trans e2.symm)
theorem store_ok2{M:Model}{A:Around}{E:Value→Shared→Prop}{i:Nat}{x:Str}{v:V}{u:Value}{Q:Unit→Shared→Prop}(I:Inv X pins σ H s)(hN:X.N.Nodup)(hi:X.N[i]? = some x)(hx:Loc X.env.scope x)(r:RelV v u)
  (h:∀ s',Inv X pins (σ.set i (some v)) H s'→(∃ a,Heap.SameBut a s.heap s'.heap∧(a=X.env.locals∨X.env.cells.lookup x=some a))→Q () s') (hf:X.fn x=true∨X.env.scope.names.lookup x=some .local:=by first | exact .inl rfl | exact .inr rfl | assumption):wpAny M A (storeName X.env x u) Q E s:=by
 obtain ⟨m,hn,hl⟩:=id I.loc
 have hcls:(X.env.scope.kind == .class || (X.env.scope.kind == .module && X.env.locals != X.env.globals))=false:=by rw [I.ok.kind];rfl
 have hiσ:i < σ.length:=by rw [I.len];exact (List.getElem?_eq_some_iff.mp hi).1
 have cne:=I.cne
 have tracked:∀ {a:Addr} {h':Heap},(∃ o,s.heap.get? a=some o∧H a=none)→Heap.SameBut a s.heap h'→HOk X.prog X.w H h':=fun {a h'} ha hs b ob e=>by
  obtain ⟨_,_,hfree⟩:=ha
  refine (I.hok b ob e).stay (fun c w' hc q=>(hs.2 c ?_).trans q) (fun _ q=>q) fun _ _ q=>q
  rintro rfl
  rcases hc with rfl | hc
  ·rw [hfree] at e;cases e
  ·rw [hfree] at hc;cases hc
 rcases hx with hk | hk
 ·refine wpAny_storeName_local hk hn (fun h' hn' hs=>?_) hcls
  obtain ⟨oL,_,_,hoL,_⟩:=id hn
  refine h _ ⟨I.ok,I.os,I.bare,⟨fun b o e n hb hx=>?_,fun b o e n hb hx=>?_,I.base.free,fun b o e hx=>?_,I.base.tups,I.base.frzs,I.base.tbls⟩,⟨_,hn',fun j y v' e1 e2 e3=>?_⟩,fun y c e=>?_,I.free,I.freeC,fun p hp=>?_,tracked ⟨oL,hoL,I.free⟩ hs,by simpa using I.len⟩ ⟨_,hs,.inl rfl⟩
  ·exact (hs.2 b (Nat.ne_of_lt (Nat.lt_of_lt_of_le (Heap.lt_size e) I.ok.above))).trans (I.base.keep b o e n hb hx)
  ·obtain ⟨sl,e1⟩:=I.base.slot b o e n hb hx
   exact ⟨sl,(hs.2 b (Nat.ne_of_lt (Nat.lt_of_lt_of_le (Heap.lt_size e) I.ok.above))).trans e1⟩
  ·obtain ⟨o',e1⟩:=I.base.there b o e hx
   exact ⟨o',(hs.2 b (Nat.ne_of_lt (Nat.lt_of_lt_of_le (Heap.lt_size e) I.ok.above))).trans e1⟩
  ·by_cases hj:j=i
   ·subst hj
    rw [hi] at e1;cases e1
    rw [List.getElem?_set_self hiσ] at e2
    cases e2
    exact ⟨u,r,.inl ⟨hk,by simp⟩⟩
   ·rw [List.getElem?_set_ne (Ne.symm hj)] at e2
    obtain ⟨u',r',q⟩:=hl j y v' e1 e2 e3
    refine ⟨u',r',?_⟩
    rcases q with ⟨k,e⟩ | ⟨k,c,e,z⟩
    ·refine .inl ⟨k,?_⟩
     have:y≠x:=fun e=>hj (nodup_ix hN e1 (e▸hi))
     simp [this,e]
    ·exact .inr ⟨k,c,e,z.sameBut hs (cne y c e)⟩
  ·obtain ⟨w',z⟩:=I.cell y c e
   exact ⟨w',z.sameBut hs (cne y c e)⟩
  ·obtain ⟨e,n,ne,nf,d⟩:=I.pin p hp
   exact ⟨(hs.2 p.1 ne).trans e,n,ne,nf,d⟩
 ·have hfn:X.fn x=true:=by
   rcases hf with z | z
   ·exact z
   ·rw [z] at hk;cases hk
  obtain ⟨c,hc⟩:=I.ok.has x (.inl hk)
  obtain ⟨w',z⟩:=I.cell x c hc
  refine wpAny_storeName_cell I.ok.kind hk hc z (fun h' hc' hs=>?_)
  obtain ⟨oc,hoc,hocd⟩:=id z
  refine h { s with heap:=h' } ⟨I.ok,I.os,I.bare,⟨fun b o e n hb hx=>?_,fun b o e n hb hx=>?_,I.base.free,fun b o e hx=>?_,I.base.tups,I.base.frzs,I.base.tbls⟩,⟨m,hn.sameBut hs (Ne.symm (cne x c hc)),fun j y v' e1 e2 e3=>?_⟩,fun y c' e=>?_,I.free,I.freeC,fun p hp=>?_,tracked ⟨oc,hoc,I.freeC x c hc⟩ hs,by simpa using I.len⟩ ⟨c,hs,.inr hc⟩
  ·exact (hs.2 b (Nat.ne_of_lt (Nat.lt_of_lt_of_le (Heap.lt_size e) (I.ok.cab x c hfn hc)))).trans (I.base.keep b o e n hb hx)
  ·obtain ⟨sl,e1⟩:=I.base.slot b o e n hb hx
   exact ⟨sl,(hs.2 b (Nat.ne_of_lt (Nat.lt_of_lt_of_le (Heap.lt_size e) (I.ok.cab x c hfn hc)))).trans e1⟩
  ·obtain ⟨o',e1⟩:=I.base.there b o e hx
   exact ⟨o',(hs.2 b (Nat.ne_of_lt (Nat.lt_of_lt_of_le (Heap.lt_size e) (I.ok.cab x c hfn hc)))).trans e1⟩
  ·by_cases hj:j=i
   ·subst hj
    rw [hi] at e1;cases e1
    rw [List.getElem?_set_self hiσ] at e2
    cases e2
    exact ⟨u,r,.inr ⟨.inl hk,c,hc,hc'⟩⟩
   ·rw [List.getElem?_set_ne (Ne.symm hj)] at e2
    obtain ⟨u',r',q⟩:=hl j y v' e1 e2 e3
    refine ⟨u',r',?_⟩
    rcases q with q | ⟨k,c',e,z'⟩
    ·exact .inl q
    ·refine .inr ⟨k,c',e,z'.sameBut hs ?_⟩
     rintro rfl
     exact hj (nodup_ix hN e1 (I.ok.inj _ _ _ e hc▸hi))
  ·by_cases hcc:c'=c
   ·subst hcc;exact ⟨_,hc'⟩
   ·obtain ⟨w2,z2⟩:=I.cell y c' e
    exact ⟨w2,z2.sameBut hs hcc⟩
  ·obtain ⟨e,n,ne,nf,d⟩:=I.pin p hp
   refine ⟨(hs.2 p.1 ?_).trans e,n,ne,nf,d⟩
   intro q
   rw [q,hoc] at e
   have q':oc=p.2:=Option.some.inj e
   exact d w' (by rw [← q'];exact hocd)
theorem store_ok{M:Model}{A:Around}{E:Value→Shared→Prop}{i:Nat}{x:Str}{v:V}{u:Value}{Q:Unit→Shared→Prop}(I:Inv X pins σ H s)(hN:X.N.Nodup)(hi:X.N[i]? = some x)(hx:Loc X.env.scope x)(r:RelV v u)
  (h:∀ s',Inv X pins (σ.set i (some v)) H s'→Q () s') (hf:X.fn x=true∨X.env.scope.names.lookup x=some .local:=by first | exact .inl rfl | exact .inr rfl | assumption):wpAny M A (storeName X.env x u) Q E s :=
 store_ok2 I hN hi hx r (fun s' I' _=>h s' I') hf
theorem Inv.call'{s':Shared}{ch:List Addr}(I:Inv X pins σ H s)(ho:s'.os=s.os)(u:Un (frs X.stack) ch H H' s.heap s'.heap)(hok:HOk X.prog X.w H' s'.heap)(hg:AllBare s'.gens)
  (hch:∀ b∈ch,(b∈X.ex∨X.s_0.heap.objs.size≤b)∧b≠X.env.locals∧(∀ x c,X.env.cells.lookup x=some c→c≠b)∧∀ p∈X.pn ++ pins,p.1≠b):Inv X pins σ H' s':=by
 obtain ⟨h',g',d',t',o'⟩:=s'
 have e:o'=s.os:=ho
 subst e
 exact I.call (g':=g') (t':=t') (d':=d') u hok hg hch
end
abbrev XK:=Value→Option Addr→Hp→Prop
abbrev St:=List (Option V)
abbrev VK:=V→Hp→Prop
abbrev TE:=St→Hp→VK→Prop
abbrev TT:=St→Hp→(Bool→Hp→Prop)→Prop
abbrev TA:=St→Hp→(List V→Hp→Prop)→Prop
structure Ends where
 nx:St→Hp→Prop
 rt:VK
 bk:St→Hp→Prop:=fun _ _=>False
 ct:St→Hp→Prop:=fun _ _=>False
abbrev TS:=Ends→St→Hp→Prop
def EP(X:Cx)(pins:List (Addr×Obj))(σ:St)(Q:VK)(u:Value)(s':Shared):Prop:=∃ v H',Inv X pins σ H' s'∧RelV v u∧Q v H'
def TP(X:Cx)(pins:List (Addr×Obj))(σ:St)(Q:Bool→Hp→Prop)(b:Bool)(s':Shared):Prop:=∃ H',Inv X pins σ H' s'∧Q b H'
def AP(X:Cx)(pins:List (Addr×Obj))(σ:St)(Q:List V→Hp→Prop)(us:List Value)(s':Shared):Prop:=∃ vs H',Inv X pins σ H' s'∧Vals vs us∧Q vs H'
def SP(X:Cx)(pins:List (Addr×Obj))(D:Ends)(f:Flow)(s':Shared):Prop :=
 match f with
 | .next=>∃ σ' H',Inv X pins σ' H' s'∧D.nx σ' H'
 | .brk=>∃ σ' H',Inv X pins σ' H' s'∧D.bk σ' H'
 | .cont=>∃ σ' H',Inv X pins σ' H' s'∧D.ct σ' H'
 | .ret u=>∃ v σ' H',Inv X pins σ' H' s'∧RelV v u∧D.rt v H'
def PE(X:Cx)(e:Expr)(t:TE):Prop :=
 ∀ (pins:List (Addr×Obj)) (s:Shared) (σ:St) (H:Hp) (Q:VK),Inv X pins σ H s→t σ H Q→wpAny (model X.prog X.w) X.A (eval e X.env) (EP X pins σ Q) X.xe s
def PT(X:Cx)(e:Expr)(t:TT):Prop :=
 ∀ (pins:List (Addr×Obj)) (s:Shared) (σ:St) (H:Hp) (Q:Bool→Hp→Prop),Inv X pins σ H s→t σ H Q→wpAny (model X.prog X.w) X.A (isTrue e X.env (eval e X.env)) (TP X pins σ Q) X.xe s
def PW(X:Cx)(e:Expr)(t:TT):Prop :=
 ∀ (whole:Sem Value) (pins:List (Addr×Obj)) (s:Shared) (σ:St) (H:Hp) (Q:Bool→Hp→Prop),Inv X pins σ H s→t σ H Q→wpAny (model X.prog X.w) X.A (isTrue e X.env whole) (TP X pins σ Q) X.xe s
theorem PW.pt{X:Cx}{e:Expr}{t:TT}(h:PW X e t):PT X e t:=h _
def PA(X:Cx)(es:List Expr)(t:TA):Prop :=
 ∀ (pos:Pos) (pins:List (Addr×Obj)) (s:Shared) (σ:St) (H:Hp) (Q:List V→Hp→Prop),Inv X pins σ H s→t σ H Q→wpAny (model X.prog X.w) X.A (spliced (backTo pos (starEach es X.env))) (AP X pins σ Q) X.xe s
def PS(X:Cx)(st:Stmt)(t:TS):Prop :=
 ∀ (pins:List (Addr×Obj)) (s:Shared) (σ:St) (H:Hp) (D:Ends),Inv X pins σ H s→t D σ H→wpAny (model X.prog X.w) X.A (exec st X.env) (SP X pins D) X.xe s
def PSs(X:Cx)(st:List Stmt)(t:TS):Prop :=
 ∀ (pins:List (Addr×Obj)) (s:Shared) (σ:St) (H:Hp) (D:Ends),Inv X pins σ H s→t D σ H→wpAny (model X.prog X.w) X.A (execs st X.env) (SP X pins D) X.xe s
theorem thn{α:Type}{t:Sem α}{Q Q':α→Shared→Prop}{M:Model}{A:Around}{E:Value→Shared→Prop}{s:Shared}(h:wpAny M A t Q E s)(hQ:∀ a s,Q a s→Q' a s):wpAny M A t Q' E s:=wpAny_mono h hQ fun _ _ x=>x
end L2
namespace L2
open PySem PySem.Spec PyProof.Rows
section
variable{X:Cx}
theorem bin{a b:Expr}{ta tb:TE}(ha:PE X a ta)(hb:PE X b tb){pins:List (Addr×Obj)}{s:Shared}{σ:St}{H:Hp}{R:V→V→Hp→Prop}(I:Inv X pins σ H s)(h:ta σ H fun x H1=>tb σ H1 fun y H2=>R x y H2)
  {α:Type} {Q:α→Shared→Prop} {f:Value→Value→Sem α}
  (hf:∀ v u s2 x y H2,Inv X pins σ H2 s2→RelV x v→RelV y u→R x y H2→wpAny (model X.prog X.w) X.A (f v u) Q X.xe s2) :
  wpAny (model X.prog X.w) X.A (eval a X.env) (fun v s₁=>wpAny (model X.prog X.w) X.A (eval b X.env) (fun u s₂=>wpAny (model X.prog X.w) X.A (f v u) Q X.xe s₂) X.xe s₁) X.xe s:=by
 refine thn (ha pins s σ H _ I h) fun v s1 ⟨x,H1,I1,r1,q1⟩=>?_
 refine thn (hb pins s1 σ H1 _ I1 q1) fun u s2 ⟨y,H2,I2,r2,q2⟩=>?_
 exact hf v u s2 x y H2 I2 r1 r2 q2
def tVar(i:Nat):TE:=fun σ H Q=>∃ v,σ[i]? = some (some v)∧Q v H
def tC(v:V):TE:=fun _ H Q=>Q v H
theorem pe_var{i:Nat}{x:Str}{pos:Pos}(hN:X.N[i]? = some x)(hv:Vis X.env.scope x)(hd:(x == ("__debug__":Str))=false:=by decide)(hcd:(x == ("__classdict__":Str))=false:=by decide):PE X (.Name x pos) (tVar i):=by
 intro pins s σ H Q I h
 obtain ⟨v,e,h⟩:=h
 obtain ⟨m,hn,hl⟩:=I.loc
 obtain ⟨u,r,l⟩:=hl i x v hN e hv
 have fin:EP X pins σ Q u s:=⟨v,H,I,r,h⟩
 rcases l with ⟨hk,hm⟩ | ⟨hk,c,hc,hcell⟩
 ·exact wpAny_Name (wpAny_loadName_local I.ok.kind hk hn hm fin) hd
 ·rcases hk with hk | hk
  ·exact wpAny_Name (wpAny_loadName_cell I.ok.kind hk hc hcell fin) hd
  ·exact wpAny_Name (wpAny_loadName_free I.ok.kind hk hc hcell fin hcd) hd
theorem pe_int{i j pos}:PE X (.Constant (.int i) j pos) (tC (.int i)):=fun _ _ _ H _ I h=>wpAny_Constant_int ⟨.int i,H,I.tok _,⟨_,rfl⟩,h⟩
theorem pe_bl{b j pos}:PE X (.Constant (.bool b) j pos) (tC (.bl b)):=fun _ _ _ H _ I h=>Constant_bool ⟨.bl b,H,I,rfl,h⟩
theorem pe_non{j pos}:PE X (.Constant .none j pos) (tC .non):=fun _ _ _ H _ I h=>Constant_none ⟨.non,H,I,rfl,h⟩
theorem pe_str{x j pos}:PE X (.Constant (.str x) j pos) (tC (.str x)):=fun _ _ _ H _ I h=>Calls.Constant_str ⟨.str x,H,I.tok _,⟨_,rfl⟩,h⟩
def Gl(X:Cx)(x:Str):Prop:=X.env.kindOf x=some .globalImplicit
theorem ld_glob{E:Value→Shared→Prop}{pins:List (Addr×Obj)}{s:Shared}{σ:St}{H:Hp}{x:Str}{u:Value}{pos:Pos}{Q:Value→Shared→Prop}(I:Inv X pins σ H s)(hg:Gl X x)(hm:X.mg x=some u)(h:Q u s)
  (hd:(x == ("__debug__":Str))=false:=by decide):wpAny (model X.prog X.w) X.A (eval (.Name x pos) X.env) Q E s :=
 Calls.Name_function_global I.ok.kind hg (Calls.loadGlobal_global (by rw [I.ok.glob];exact I.mod.glob.keeps I.bk) hm h) hd
theorem ld_blt{E:Value→Shared→Prop}{pins:List (Addr×Obj)}{s:Shared}{σ:St}{H:Hp}{x:Str}{u:Value}{pos:Pos}{Q:Value→Shared→Prop}(I:Inv X pins σ H s)(hg:Gl X x)(hm:X.mg x=none)(hv:bootBuiltins x=some u)(h:Q u s)
  (hn:x≠"__name__":=by decide) (hd:(x == ("__debug__":Str))=false:=by decide):wpAny (model X.prog X.w) X.A (eval (.Name x pos) X.env) Q E s:=by
 obtain ⟨mb,h1,h2⟩:=I.mod.blt
 exact Calls.Name_function_global I.ok.kind hg (Calls.loadGlobal_builtin (by rw [I.ok.glob];exact I.mod.glob.keeps I.bk) hm (by rw [I.ok.blt];exact h1.keeps I.bk) ((h2 x hn).trans hv) h) hd
theorem pe_glob{x:Str}{v:V}{u:Value}{pos:Pos}(hg:Gl X x)(hm:X.mg x=some u)(r:RelV v u)(hd:(x == ("__debug__":Str))=false:=by decide):PE X (.Name x pos) (tC v) :=
 fun _ _ _ H _ I h=>ld_glob I hg hm ⟨v,H,I,r,h⟩ hd
variable{a b:Expr}{ta tb:TE}{pos:Pos}
def PC(X:Cx)(op:CmpOp)(a b:Expr)(t:TE):Prop :=
 ∀ (pins:List (Addr×Obj)) (s:Shared) (σ:St) (H:Hp) (Q:VK),Inv X pins σ H s→t σ H Q→
  wpAny (model X.prog X.w) X.A (eval a X.env) (fun v s₁=>wpAny (model X.prog X.w) X.A (eval b X.env) (fun u s₂=>wpAny (model X.prog X.w) X.A (compareOp op v u) (EP X pins σ Q) X.xe s₂) X.xe s₁) X.xe s
def tB(t:TE):TT:=fun σ H Q=>t σ H fun x H1=>∃ c,x = .bl c∧Q c H1
theorem pt_cmp{op:CmpOp}{t:TE}(h:PC X op a b t)(h1:behindInMarks op b=false:=by first | exact nobehind _ (by decide) (by decide) | rfl):PT X (.Compare a [op] [b] pos) (tB t):=by
 intro pins s σ H Q I hw
 refine wpAny_isTrue_Compare1 (thn (h pins s σ H _ I hw) fun v s1 h1=>thn h1 fun u s2 h2=>thn h2 fun c s3 ⟨x,H1,I1,r1,q1⟩=>?_) h1
 obtain ⟨d,rfl,q⟩:=q1
 cases r1
 exact wpAny_truthy_bool ⟨H1,I1,q⟩
theorem pt_val{e:Expr}{t:TE}(h:PE X e t)(he:∀ whole,isTrue e X.env whole=(do let v ← whole;standAt e.pos;holding [v] (truthy v)):=by intro _;rfl):PT X e (tB t):=by
 intro pins s σ H Q I hw
 refine isTrue_plain (thn (h pins s σ H _ I hw) fun v s1 ⟨x,H1,I1,r1,q1⟩=>?_) (he _)
 obtain ⟨d,rfl,q⟩:=q1
 cases r1
 exact wpAny_truthy_bool ⟨H1,I1,q⟩
variable{tA tB':TT}{rest:List Expr}
def tAnd(t u:TT):TT:=fun σ H Q=>t σ H fun c H1=>if c=true then u σ H1 Q else Q false H1
def tOr(t u:TT):TT:=fun σ H Q=>t σ H fun c H1=>if c=true then Q true H1 else u σ H1 Q
def tNot(t:TT):TT:=fun σ H Q=>t σ H fun c H1=>Q (!c) H1
theorem pw_and1(ha:PT X a tA):PW X (.BoolOp .And [a] pos) tA:=by
 intro wh pins s σ H Q I h
 refine isTrue_and (thn (ha pins s σ H Q I h) fun c s1 e=>?_)
 cases c with
 | true=>exact isTrue_and_nil e
 | false=>exact e
theorem pw_or1(ha:PT X a tA):PW X (.BoolOp .Or [a] pos) tA:=by
 intro wh pins s σ H Q I h
 refine isTrue_or (thn (ha pins s σ H Q I h) fun c s1 e=>?_)
 cases c with
 | false=>exact isTrue_or_nil e
 | true=>exact e
theorem pw_and(ha:PT X a tA)(hb:PW X (.BoolOp .And (b::rest) pos) tB'):PW X (.BoolOp .And (a::b::rest) pos) (tAnd tA tB'):=by
 intro wh pins s σ H Q I h
 refine isTrue_and (thn (ha pins s σ H _ I h) fun c s1 ⟨H1,I1,q1⟩=>?_)
 cases c with
 | true=>exact hb wh pins s1 σ H1 Q I1 q1
 | false=>exact ⟨H1,I1,q1⟩
theorem pw_or(ha:PT X a tA)(hb:PW X (.BoolOp .Or (b::rest) pos) tB'):PW X (.BoolOp .Or (a::b::rest) pos) (tOr tA tB'):=by
 intro wh pins s σ H Q I h
 refine isTrue_or (thn (ha pins s σ H _ I h) fun c s1 ⟨H1,I1,q1⟩=>?_)
 cases c with
 | true=>exact ⟨H1,I1,q1⟩
 | false=>exact hb wh pins s1 σ H1 Q I1 q1
theorem pt_not(ha:PT X a tA):PT X (.UnaryOp .Not a pos) (tNot tA):=by
 intro pins s σ H Q I h
 exact isTrue_not (ha pins s σ H (fun c H1=>Q (!c) H1) I h)
def tAndV(ta tb:TE):TE:=fun σ H Q=>ta σ H fun x H1=>∃ c,x = .bl c∧if c=true then tb σ H1 Q else Q (.bl false) H1
def tOrV(ta tb:TE):TE:=fun σ H Q=>ta σ H fun x H1=>∃ c,x = .bl c∧if c=true then Q (.bl true) H1 else tb σ H1 Q
theorem pe_one{op}{t:TE}(h:PE X a t):PE X (.BoolOp op [a] pos) t:=fun pins s σ H Q I hw=>BoolOp_one (h pins s σ H Q I hw)
theorem pe_and(ha:PE X a ta)(hb:PE X (.BoolOp .And (b::rest) pos) tb):PE X (.BoolOp .And (a::b::rest) pos) (tAndV ta tb):=by
 intro pins s σ H Q I h
 refine BoolOp_and (thn (ha pins s σ H _ I h) fun v s1 ⟨x,H1,I1,r1,q1⟩=>?_)
 obtain ⟨c,rfl,q1⟩:=q1
 cases r1
 refine wpAny_truthy_bool ?_
 cases c with
 | true=>exact hb pins s1 σ H1 Q I1 q1
 | false=>exact ⟨.bl false,H1,I1,rfl,q1⟩
theorem pe_or(ha:PE X a ta)(hb:PE X (.BoolOp .Or (b::rest) pos) tb):PE X (.BoolOp .Or (a::b::rest) pos) (tOrV ta tb):=by
 intro pins s σ H Q I h
 refine BoolOp_or (thn (ha pins s σ H _ I h) fun v s1 ⟨x,H1,I1,r1,q1⟩=>?_)
 obtain ⟨c,rfl,q1⟩:=q1
 cases r1
 refine wpAny_truthy_bool ?_
 cases c with
 | false=>exact hb pins s1 σ H1 Q I1 q1
 | true=>exact ⟨.bl true,H1,I1,rfl,q1⟩
end
end L2
namespace L2
open PySem PySem.Spec PyProof.Rows
def SqL(K:PySem.W.Frag)(H:Hp)(a:Addr)(xs:List V):Prop :=
 Rd H a (.lst xs)∨
  ∃ (o:Obj) (its:Array Value) (n:Nat),K.lookup a=some o∧o.cls = .type "list"∧o.dict=none∧o.data = .seq its n∧its.size≤sizeLine∧Vals xs its.toList
def SqT(K:PySem.W.Frag)(H:Hp)(a:Addr)(xs:List V):Prop :=
 Rd H a (.tup xs)∨
  ∃ (o:Obj) (its:Array Value) (n:Nat),K.lookup a=some o∧o.cls = .type "tuple"∧o.data = .seq its n∧its.size≤sizeLine∧Vals xs its.toList
def absV:Value→Option V
 | .none=>some .non
 | .bool b=>some (.bl b)
 | .int i _=>some (.int i)
 | .str x _=>some (.str x)
 | .bytes b _=>some (.byt b)
 | .float b _=>some (.flt b)
 | .ref a=>some (.ref a)
 | .type n=>some (.ty n)
 | _=>none
theorem RelV.abs{x:V}{u:Value}(r:RelV x u):absV u=some x:=by
 cases x with
 | non=>cases r;rfl
 | bl _=>cases r;rfl
 | int _=>obtain ⟨t,rfl⟩:=r;rfl
 | str _=>obtain ⟨t,rfl⟩:=r;rfl
 | byt _=>obtain ⟨t,rfl⟩:=r;rfl
 | flt _=>obtain ⟨t,rfl⟩:=r;rfl
 | ref _=>cases r;rfl
 | ty _=>cases r;rfl
theorem RelV.inj{x y:V}{u:Value}(r:RelV x u)(q:RelV y u):x=y:=Option.some.inj (r.abs.symm.trans q.abs)
theorem Vals.inj:∀ {xs ys:List V} {us:List Value},Vals xs us→Vals ys us→xs=ys
 | _,_,_,.nil,.nil=>rfl
 | _,_,_,.cons r t,.cons r' t'=>by rw [r.inj r',Vals.inj t t']
section
variable{X:Cx}{pins:List (Addr×Obj)}{σ:St}{H:Hp}{s:Shared}{a:Addr}{xs ys:List V}
theorem SqL.of{K:PySem.W.Frag}(h:H a=some (.lst xs)):SqL K H a xs:=.inl (.inl h)
theorem SqT.of{K:PySem.W.Frag}(h:H a=some (.tup xs)):SqT K H a xs:=.inl (.inl h)
theorem Inv.list(I:Inv X pins σ H s)(h:SqL X.K H a xs):∃ its:List Value,Vals xs its∧PlainL s.heap a its.toArray∧xs.length≤sizeLine:=by
 rcases h with h | ⟨o,its,n,hk,hc,hd,hs,hz,r⟩
 ·obtain ⟨z,its,n,r,e⟩:=h.ok I.hok
  exact ⟨its,r,⟨_,n,e,rfl,rfl,rfl⟩,z⟩
 ·refine ⟨its.toList,r,⟨o,n,I.kIn a o hk,hc,hd,by simpa using hs⟩,?_⟩
  have e:=r.length
  simp only [Array.length_toList] at e
  omega
theorem Inv.tuple(I:Inv X pins σ H s)(h:SqT X.K H a xs):∃ its:List Value,Vals xs its∧IsTup s.heap a its.toArray∧xs.length≤sizeLine:=by
 rcases h with h | ⟨o,its,n,hk,hc,hs,hz,r⟩
 ·obtain ⟨z,its,r,p⟩:=h.ok I.hok
  exact ⟨its,r,p,z⟩
 ·refine ⟨its.toList,r,⟨o,I.kIn a o hk,hc,n,by simpa using hs⟩,?_⟩
  have e:=r.length
  simp only [Array.length_toList] at e
  omega
theorem Inv.list_inj(I:Inv X pins σ H s)(h:SqL X.K H a xs)(h':SqL X.K H a ys):xs=ys:=by
 obtain ⟨its,r,⟨o,n,e,_,_,d⟩,_⟩:=I.list h
 obtain ⟨its',r',⟨o',n',e',_,_,d'⟩,_⟩:=I.list h'
 rw [e] at e';cases e'
 rw [d] at d'
 injection d' with d1 _
 have:its=its':=by simpa using congrArg Array.toList d1
 subst this
 exact r.inj r'
theorem Inv.tuple_inj(I:Inv X pins σ H s)(h:SqT X.K H a xs)(h':SqT X.K H a ys):xs=ys:=by
 obtain ⟨its,r,⟨o,e,_,n,d⟩,_⟩:=I.tuple h
 obtain ⟨its',r',⟨o',e',_,n',d'⟩,_⟩:=I.tuple h'
 rw [e] at e';cases e'
 rw [d] at d'
 injection d' with d1 _
 have:its=its':=by simpa using congrArg Array.toList d1
 subst this
 exact r.inj r'
end
section
variable{X:Cx}{st:Stmt}{rest:List Stmt}{t u:TS}{e:Expr}{te:TE}{pos:Pos}
def tNext:TS:=fun D σ H=>D.nx σ H
def tSeq(t u:TS):TS:=fun D σ H=>t { D with nx:=u D } σ H
theorem pss_nil:PSs X [] tNext:=fun _ _ σ H _ I h=>wpAny_execs_nil ⟨σ,H,I,h⟩
theorem pss_cons(h1:PS X st t)(h2:PSs X rest u):PSs X (st::rest) (tSeq t u):=by
 intro pins s σ H D I h
 refine wpAny_execs_cons (thn (h1 pins s σ H { D with nx:=u D } I h) fun f s1 q=>?_)
 cases f with
 | next =>
  obtain ⟨σ',H',I',q⟩:=q
  exact h2 pins s1 σ' H' D I' q
 | ret v=>exact q
 | brk=>exact q
 | cont=>exact q
theorem pss_one(h1:PS X st t):PSs X [st] t:=by
 intro pins s σ H D I h
 refine wpAny_execs_cons (thn (h1 pins s σ H D I h) fun f s1 q=>?_)
 cases f with
 | next=>exact wpAny_execs_nil q
 | ret v=>exact q
 | brk=>exact q
 | cont=>exact q
theorem Inv.quiet{pins:List (Addr×Obj)}{σ:St}{H:Hp}{s:Shared}(I:Inv X pins σ H s):interactive X.env=false:=by simp [interactive,I.ok.kind]
def tDrop(te:TE):TS:=fun D σ H=>te σ H fun _ H1=>D.nx σ H1
theorem ps_expr(he:PE X e te)(hs:swapsWith e none pos.line X.env=pure false:=by rfl):PS X (.Expr e pos) (tDrop te):=by
 intro pins s σ H D I h
 exact wpAny_Expr_any (thn (he pins s σ H _ I h) fun v s1 ⟨x,H1,I1,r1,q1⟩=>⟨σ,H1,I1,q1⟩) I.quiet hs
def tRet(te:TE):TS:=fun D σ H=>te σ H D.rt
theorem ps_ret(he:PE X e te):PS X (.Return (some e) pos) (tRet te):=by
 intro pins s σ H D I h
 exact wpAny_Return_some (thn (he pins s σ H _ I h) fun v s1 ⟨x,H1,I1,r1,q1⟩=>⟨x,σ,H1,I1,r1,q1⟩)
def tIfS(c:TT)(t u:TS):TS:=fun D σ H=>c σ H fun b H1=>if b=true then t D σ H1 else u D σ H1
theorem ps_if{c:Expr}{a b:List Stmt}{tc:TT}(hc:PT X c tc)(ha:PSs X a t)(hb:PSs X b u):PS X (.If c a b pos) (tIfS tc t u):=by
 intro pins s σ H D I h
 refine wpAny_If (thn (hc pins s σ H _ I h) fun d s1 ⟨H1,I1,q1⟩=>?_)
 cases d with
 | true=>exact ha pins s1 σ H1 D I1 q1
 | false=>exact hb pins s1 σ H1 D I1 q1
end
abbrev TG:=V→St→Hp→(St→Hp→Prop)→Prop
abbrev TGs:=List V→St→Hp→(St→Hp→Prop)→Prop
def PG(X:Cx)(target:Expr)(t:TG):Prop :=
 ∀ (pins:List (Addr×Obj)) (s:Shared) (σ:St) (H:Hp) (v:V) (u:Value) (Q:St→Hp→Prop),Inv X pins σ H s→RelV v u→t v σ H Q→
  wpAny (model X.prog X.w) X.A (assign target X.env u) (fun _ s'=>∃ σ' H',Inv X pins σ' H' s'∧Q σ' H') X.xe s
def PGs(X:Cx)(ts:List Expr)(t:TGs):Prop :=
 ∀ (pins:List (Addr×Obj)) (s:Shared) (σ:St) (H:Hp) (vs:List V) (us:List Value) (Q:St→Hp→Prop),Inv X pins σ H s→Vals vs us→t vs σ H Q→
  wpAny (model X.prog X.w) X.A (assignInOrder ((assignEach ts X.env).map (·.2)) us) (fun _ s'=>∃ σ' H',Inv X pins σ' H' s'∧Q σ' H') X.xe s
abbrev TIp:=V→V→Hp→VK→Prop
def PIp(X:Cx)(op:Operator)(t:TIp):Prop :=
 ∀ (pins:List (Addr×Obj)) (s:Shared) (σ:St) (H:Hp) (x y:V) (v u:Value) (Q:VK),Inv X pins σ H s→RelV x v→RelV y u→t x y H Q→
  wpAny (model X.prog X.w) X.A (inplaceOp op v u) (EP X pins σ Q) X.xe s
section
variable{X:Cx}{pos:Pos}
def gName(i:Nat):TG:=fun v σ H Q=>Q (σ.set i (some v)) H
theorem pg_name{i:Nat}{x:Str}(hN:X.N.Nodup)(hi:X.N[i]? = some x)(hx:Loc X.env.scope x)(hf:X.fn x=true∨X.env.scope.names.lookup x=some .local:=by first | exact .inl rfl | exact .inr rfl | assumption):PG X (.Name x pos) (gName i):=by
 intro pins s σ H v u Q I r h
 exact wpAny_assign_Name (store_ok I hN hi hx r (fun s' I'=>⟨_,H,I',h⟩) hf)
def gNil:TGs:=fun vs σ H Q=>vs=[]∧Q σ H
def gCons(t:TG)(u:TGs):TGs:=fun vs σ H Q=>∃ v r,vs=v::r∧t v σ H fun σ' H'=>u r σ' H' Q
theorem pgs_nil:PGs X [] gNil:=by
 intro pins s σ H vs us Q I r h
 obtain ⟨e,h⟩:=h
 subst e
 cases r
 exact assignInOrder_nil ⟨σ,H,I,h⟩
theorem pgs_cons{e:Expr}{es:List Expr}{t:TG}{u:TGs}(h1:PG X e t)(h2:PGs X es u)
  (hs:(assignEach (e::es) X.env).map (·.2)=assign e X.env::(assignEach es X.env).map (·.2):=by rfl):PGs X (e::es) (gCons t u):=by
 intro pins s σ H vs us Q I r h
 obtain ⟨v,vr,e1,h⟩:=h
 subst e1
 cases r with
 | cons r rr =>
  rw [hs]
  refine assignInOrder_cons (thn (h1 pins s σ H _ _ _ I r h) fun _ s1 ⟨σ1,H1,I1,q1⟩=>?_)
  exact h2 pins s1 σ1 H1 _ _ Q I1 rr q1
def gTup(K:PySem.W.Frag)(n:Nat)(t:TGs):TG:=fun v σ H Q=>∃ a xs,v = .ref a∧SqT K H a xs∧xs.length=n∧t xs σ H Q
theorem pg_tup{es:List Expr}{k:Nat}{t:TGs}{n:Nat}(hc:X.calm=true)(h:PGs X es t)
  (hn:(assignEach es X.env).length=n:=by rfl) (hst:(assignEach es X.env).findIdx? (·.1)=none:=by rfl):PG X (.Tuple es k pos) (gTup X.K n t):=by
 intro pins s σ H v u Q I r hw
 obtain ⟨a,xs,e1,hq,hl,hw⟩:=hw
 subst e1
 cases r
 obtain ⟨its,rv,ht,hz⟩:=I.tuple hq
 refine assign_Tuple_tuple (I.ok.hd hc) ht (by simp [hn,← hl,rv.length]) hst fun h' hx=>?_
 have I1:Inv X pins σ H { s with heap:=h' }:=I.kept (t':=s.toks) fun b o e=>hx b o (Nat.ne_of_lt (Heap.lt_size e)) e
 exact h pins _ σ H xs _ Q I1 (by simpa using rv) hw
def tAsg(te:TE)(g:TG):TS:=fun D σ H=>te σ H fun x H1=>g x σ H1 D.nx
theorem ps_set{i:Nat}{x:Str}{e:Expr}{te:TE}{pos':Pos}(hN:X.N.Nodup)(hi:X.N[i]? = some x)(hx:Loc X.env.scope x)(he:PE X e te)(hs:swapsWith e (some (.Name x pos')) pos.line X.env=pure false:=by rfl)(hf:X.fn x=true∨X.env.scope.names.lookup x=some .local:=by first | exact .inl rfl | exact .inr rfl | assumption) :
  PS X (.Assign [.Name x pos'] e pos) (tAsg te (gName i)):=by
 intro pins s σ H D I h
 refine wpAny_Assign_Name (thn (he pins s σ H _ I h) fun v s1 ⟨y,H1,I1,r1,q1⟩=>?_) hs
 exact store_ok I1 hN hi hx r1 (fun s2 I2=>⟨_,H1,I2,q1⟩) hf
def tAug(i:Nat)(te:TE)(ti:TIp):TS:=fun D σ H=>∃ x,σ[i]? = some (some x)∧te σ H fun y H1=>ti x y H1 fun z H2=>D.nx (σ.set i (some z)) H2
theorem ps_aug{i:Nat}{x:Str}{e:Expr}{te:TE}{op:Operator}{ti:TIp}{pos':Pos}(hN:X.N.Nodup)(hi:X.N[i]? = some x)(hx:Loc X.env.scope x)(he:PE X e te)(ho:PIp X op ti)(hf:X.fn x=true∨X.env.scope.names.lookup x=some .local:=by first | exact .inl rfl | exact .inr rfl | assumption) :
  PS X (.AugAssign (.Name x pos') op e pos) (tAug i te ti):=by
 intro pins s σ H D I h
 obtain ⟨v,e1,h⟩:=h
 obtain ⟨m,hn,hl⟩:=I.loc
 have vis:Vis X.env.scope x:=by rcases hx with k | k;exact .inl k;exact .inr (.inl k)
 obtain ⟨u,r,l⟩:=hl i x v hi e1 vis
 refine wpAny_AugAssign_Name ?_
 have go:wpAny (model X.prog X.w) X.A (eval e X.env) (fun w s₂=>wpAny (model X.prog X.w) X.A (inplaceOp op u w) (fun r s₃=>wpAny (model X.prog X.w) X.A (storeName X.env x r) (fun _=>SP X pins D .next) X.xe s₃) X.xe s₂) X.xe s:=by
  refine thn (he pins s σ H _ I h) fun w s1 ⟨y,H1,I1,r1,q1⟩=>?_
  refine thn (ho pins s1 σ H1 v y u w _ I1 r r1 q1) fun z s2 ⟨zv,H2,I2,r2,q2⟩=>?_
  exact store_ok I2 hN hi hx r2 (fun s3 I3=>⟨_,H2,I3,q2⟩) hf
 rcases l with ⟨hk,hm⟩ | ⟨hk,c,hc,hcell⟩
 ·exact wpAny_loadName_local I.ok.kind hk hn hm go
 ·rcases hk with hk | hk
  ·exact wpAny_loadName_cell I.ok.kind hk hc hcell go
  ·rcases hx with k | k
   ·have:X.env.scope.names.lookup x=some .free:=hk
    rw [k] at this;cases this
   ·have:X.env.scope.names.lookup x=some .free:=hk
    rw [k] at this;cases this
def ipI(f:Int→Int→Int):TIp:=fun x y H Q=>∃ i j,x = .int i∧y = .int j∧Q (.int (f i j)) H
theorem ip_add:PIp X .Add (ipI fun i j=>i + j):=by
 intro pins s σ H x y v u Q I r1 r2 h
 obtain ⟨i,j,e1,e2,q⟩:=h
 subst e1;subst e2
 obtain ⟨t,rfl⟩:=r1
 obtain ⟨t',rfl⟩:=r2
 exact iadd_int ⟨.int _,H,I.tok _,⟨_,rfl⟩,q⟩
theorem ip_sub:PIp X .Sub (ipI fun i j=>i - j):=by
 intro pins s σ H x y v u Q I r1 r2 h
 obtain ⟨i,j,e1,e2,q⟩:=h
 subst e1;subst e2
 obtain ⟨t,rfl⟩:=r1
 obtain ⟨t',rfl⟩:=r2
 exact isub_int ⟨.int _,H,I.tok _,⟨_,rfl⟩,q⟩
end
section
variable{X:Cx}{pos:Pos}
def tWhile(c:TT)(tb:TS):TS:=fun D σ H=>∃ W:Nat→St→Hp→Prop,(∃ m,W m σ H)∧∀ m σ H,W m σ H→
 c σ H fun b H1=>if b=true then ∃ N:St→Hp→Prop,(∀ σ' H',N σ' H'→∃ m',m' < m∧W m' σ' H')∧tb { D with nx:=N,ct:=N,bk:=D.nx } σ H1 else D.nx σ H1
theorem ps_while{c:Expr}{body:List Stmt}{tc:TT}{tb:TS}(hp:PassesOwn (model X.prog X.w) X.A X.env X.xe)(hc:PT X c tc)(hb:PSs X body tb):PS X (.While c body [] pos) (tWhile tc tb):=by
 intro pins s σ H D I h
 obtain ⟨W,⟨m0,w0⟩,turn⟩:=h
 refine wpAny_While (codeAny_whileLoop (fun n s'=>∃ σ' H',Inv X pins σ' H' s'∧W n σ' H') ?_ m0 ⟨σ,H,I,w0⟩)
 rintro n s1 ⟨σ1,H1,I1,w1⟩
 refine wpAny_passesOwn hp (thn (hc pins s1 σ1 H1 _ I1 (turn n σ1 H1 w1)) fun b s2 ⟨H2,I2,q2⟩=>?_)
 cases b with
 | true =>
  obtain ⟨N,hN,q2⟩:=q2
  rw [if_pos rfl]
  refine wpAny_passesOwn hp (thn (hb pins s2 σ1 H2 _ I2 q2) fun f s3 q3=>?_)
  cases f with
  | next =>
   obtain ⟨σ3,H3,I3,n3⟩:=q3
   obtain ⟨m',hm,w3⟩:=hN σ3 H3 n3
   exact ⟨m',hm,σ3,H3,I3,w3⟩
  | cont =>
   obtain ⟨σ3,H3,I3,n3⟩:=q3
   obtain ⟨m',hm,w3⟩:=hN σ3 H3 n3
   exact ⟨m',hm,σ3,H3,I3,w3⟩
  | brk=>exact q3
  | ret v=>exact q3
 | false =>
  rw [if_neg Bool.false_ne_true]
  exact wpAny_execs_nil ⟨σ1,H2,I2,q2⟩
end
structure It where
 go:Nat→Hp→Prop
 yld:Nat→Hp→V→Hp→Prop
 stop:Nat→Hp→Prop
def FpOk(X:Cx)(pins:List (Addr×Obj))(H:Hp)(b:Addr):Prop :=
 H b=none∧b≠X.env.locals∧b∉X.fs∧(b∈X.ex∨X.s_0.heap.objs.size≤b)∧(∀ x c,X.env.cells.lookup x=some c→c≠b)∧∀ p∈X.pn ++ pins,p.1≠b
theorem Inv.fpOk{X:Cx}{pins:List (Addr×Obj)}{σ:St}{H H':Hp}{s:Shared}{b:Addr}(I:Inv X pins σ H s)(hb:s.heap.objs.size≤b)(hn:H' b=none):FpOk X pins H' b:=by
 refine ⟨hn,Nat.ne_of_gt (Nat.lt_of_lt_of_le I.lt hb),I.nofs hb,.inr (Nat.le_trans I.sz hb),fun x c e z=>?_,fun p hp z=>?_⟩
 ·obtain ⟨v,q⟩:=I.cell x c e
  exact absurd (Nat.lt_of_lt_of_le q.lt (by rw [z];exact hb)) (Nat.lt_irrefl _)
 ·exact absurd (Nat.lt_of_lt_of_le (Heap.lt_size (I.pin p hp).1) (by rw [z];exact hb)) (Nat.lt_irrefl _)
structure Turn(P:Program)(w:World)(K:PySem.W.Frag)(tg:Expr)(J:It)(fp:List Addr)(it:Addr)(tn:Nat→Heap→Prop):Prop where
 mem:it∈fp
 obj:∀ i h,tn i h→∀ b∈fp,∃ o,h.get? b=some o∧∀ v,o.data≠.cell v
 keep:∀ i h h',tn i h→(∀ b∈fp,∀ o,h.get? b=some o→h'.get? b=some o)→tn i h'
 item:∀ (X:Cx),X.prog=P→X.w=w→X.K=K→X.calm=true→∀ (i:Nat) (pins:List (Addr×Obj)) (s:Shared) (σ:St) (H:Hp) (E:Value→Shared→Prop),Inv X pins σ H s→(∀ b∈fp,FpOk X pins H b)→tn i s.heap→J.go i H→
  wpAny (model P w) X.A (pyNext (.ref it)) (fun r s1=>∃ u,r=some u∧
   wpAny (model P w) X.A (letOwnedTupleGo tg (.ref it) u) (fun _ s2=>∃ x H',Inv X pins σ H' s2∧RelV x u∧J.yld i H x H'∧tn (i + 1) s2.heap∧∀ b∈fp,H' b=none) E s1) E s
 done:∀ (X:Cx),X.prog=P→X.w=w→X.K=K→X.calm=true→∀ (i:Nat) (pins:List (Addr×Obj)) (s:Shared) (σ:St) (H:Hp) (E:Value→Shared→Prop),Inv X pins σ H s→(∀ b∈fp,FpOk X pins H b)→tn i s.heap→J.stop i H→
  wpAny (model P w) X.A (pyNext (.ref it)) (fun r s1=>r=none∧Inv X pins σ H s1) E s
 self:∀ (A:Around) (i:Nat) (s:Shared) (Q:Value→Shared→Prop) (E:Value→Shared→Prop),tn i s.heap→Q (.ref it) s→wpAny (model P w) A (pyIter (.ref it)) Q E s
abbrev TI:=St→Hp→(It→Hp→Prop)→Prop
def PIE(X:Cx)(pins:List (Addr×Obj))(σ:St)(tg:Expr)(R:It→Hp→Prop)(itv:Value)(s2:Shared):Prop :=
 ∃ (it:Addr) (fp:List Addr) (tn:Nat→Heap→Prop) (J:It) (H':Hp),itv = .ref it∧Inv X pins σ H' s2∧Turn X.prog X.w X.K tg J fp it tn∧tn 0 s2.heap∧(∀ b∈fp,FpOk X pins H' b)∧R J H'
def PI(X:Cx)(tg iter:Expr)(wi:TI):Prop :=
 ∀ (pins:List (Addr×Obj)) (s:Shared) (σ:St) (H:Hp) (R:It→Hp→Prop),Inv X pins σ H s→wi σ H R→
  wpAny (model X.prog X.w) X.A (eval iter X.env) (fun v s1=>wpAny (model X.prog X.w) X.A (pyIter v) (PIE X pins σ tg R) X.xe s1) X.xe s
theorem go_of{M:Model}{A:Around}{E:Value→Shared→Prop}{s:Shared}{tg:Expr}{it:Addr}{u:Value}{o:Obj}{n:String}{vs:Array Value}{Q:Unit→Shared→Prop}(ho:s.heap.get? it=some o)(hc:o.cls = .type n)(hd:o.data = .fields vs)
  (hn:["enumerate", "zip", "dict_itemiterator", "dict_reverseitemiterator", "odict_iterator", "itertools.zip_longest", "itertools.pairwise"].contains n=false) (hQ:Q () s):wpAny M A (letOwnedTupleGo tg (.ref it) u) Q E s:=by
 unfold letOwnedTupleGo
 cases tg <;> first
  | exact wpAny_pure hQ
  | (cases u <;> first
    | exact wpAny_pure hQ
    | (refine wpAny_bind (wpAny_load ho ?_)
       rw [hc,hd]
       show wpAny M A (if (["enumerate", "zip", "dict_itemiterator", "dict_reverseitemiterator", "odict_iterator", "itertools.zip_longest", "itertools.pairwise"].contains n && vs[0]? == some (rawInt _))=true then _ else _) Q E s
       rw [if_neg (by intro h;rw [hn,Bool.false_and] at h;cases h)]
       exact wpAny_pure hQ))
def Itl(K:PySem.W.Frag)(a:Addr):It :=
 ⟨fun i H=>∃ xs x,SqL K H a xs∧xs[i]? = some x,fun i H x H'=>H'=H∧∀ xs,SqL K H a xs→xs[i]? = some x,fun i H=>∃ xs,SqL K H a xs∧xs.length≤i⟩
def Itt(K:PySem.W.Frag)(a:Addr):It :=
 ⟨fun i H=>∃ xs x,SqT K H a xs∧xs[i]? = some x,fun i H x H'=>H'=H∧∀ xs,SqT K H a xs→xs[i]? = some x,fun i H=>∃ xs,SqT K H a xs∧xs.length≤i⟩
theorem turn_list{P:Program}{w:World}{K:PySem.W.Frag}{tg:Expr}(a it:Addr):Turn P w K tg (Itl K a) [it] it (fun i h=>h.IsListIter it a i) where
 mem:=by simp
 obj:=fun i h st b hb=>by
  have e:b=it:=by simpa using hb
  subst e
  obtain ⟨o,e,c,d⟩:=st
  exact ⟨o,e,fun v z=>by rw [d] at z;cases z⟩
 keep:=fun i h h' st k=>st.at fun o e=>k it (by simp) o e
 item:=by
  intro X hP hw hK hc i pins s σ H E I hf st hg
  subst hP hw hK
  obtain ⟨xs,x,hq,hx⟩:=hg
  obtain ⟨its,rv,p,hz⟩:=I.list hq
  obtain ⟨u,hu,ru⟩:=rv.get hx
  obtain ⟨f0,f1,f2,f3,f4,f5⟩:=hf it (by simp)
  refine wpAny_pyNext_list_item st p.isList (x:=u) (by simpa using hu) fun h' st' sb=>?_
  have I1:Inv X pins σ H { s with heap:=h' }:=I.turned (t':=s.toks) (fun b o hb e=>(sb.2 b hb).trans e) f0 f1 f3 f4 f5
  obtain ⟨o,e,c,d⟩:=id st'
  exact ⟨u,rfl,go_of (s:={ s with heap:=h' }) e c d (by decide) ⟨x,H,I1,ru,⟨rfl,fun ys hy=>by rw [I.list_inj hy hq];exact hx⟩,st',fun b hb=>(hf b hb).1⟩⟩
 done:=by
  intro X hP hw hK hc i pins s σ H E I hf st hg
  subst hP hw hK
  obtain ⟨xs,hq,hx⟩:=hg
  obtain ⟨its,rv,p,hz⟩:=I.list hq
  obtain ⟨f0,f1,f2,f3,f4,f5⟩:=hf it (by simp)
  have hl:=rv.length
  exact wpAny_pyNext_list_end (I.ok.hd hc) st p.isList (by simp;omega) fun h' eb=>⟨rfl,I.turned (t':=s.toks) (fun b o hb e=>eb b o hb e) f0 f1 f3 f4 f5⟩
 self:=fun _ _ _ _ _ st h=>wpAny_pyIter_listiter st h
theorem turn_tuple{P:Program}{w:World}{K:PySem.W.Frag}{tg:Expr}(a it:Addr):Turn P w K tg (Itt K a) [it] it (fun i h=>h.IsTupleIter it a i) where
 mem:=by simp
 obj:=fun i h st b hb=>by
  have e:b=it:=by simpa using hb
  subst e
  obtain ⟨o,e,c,d⟩:=st
  exact ⟨o,e,fun v z=>by rw [d] at z;cases z⟩
 keep:=fun i h h' st k=>st.at fun o e=>k it (by simp) o e
 item:=by
  intro X hP hw hK hc i pins s σ H E I hf st hg
  subst hP hw hK
  obtain ⟨xs,x,hq,hx⟩:=hg
  obtain ⟨its,rv,p,hz⟩:=I.tuple hq
  obtain ⟨u,hu,ru⟩:=rv.get hx
  obtain ⟨f0,f1,f2,f3,f4,f5⟩:=hf it (by simp)
  refine wpAny_pyNext_tuple_item st (show s.heap.IsTuple a its.toArray from p) (x:=u) (by simpa using hu) fun h' st' sb=>?_
  have I1:Inv X pins σ H { s with heap:=h' }:=I.turned (t':=s.toks) (fun b o hb e=>(sb.2 b hb).trans e) f0 f1 f3 f4 f5
  obtain ⟨o,e,c,d⟩:=id st'
  exact ⟨u,rfl,go_of (s:={ s with heap:=h' }) e c d (by decide) ⟨x,H,I1,ru,⟨rfl,fun ys hy=>by rw [I.tuple_inj hy hq];exact hx⟩,st',fun b hb=>(hf b hb).1⟩⟩
 done:=by
  intro X hP hw hK hc i pins s σ H E I hf st hg
  subst hP hw hK
  obtain ⟨xs,hq,hx⟩:=hg
  obtain ⟨its,rv,p,hz⟩:=I.tuple hq
  obtain ⟨f0,f1,f2,f3,f4,f5⟩:=hf it (by simp)
  have hl:=rv.length
  exact wpAny_pyNext_tuple_end (I.ok.hd hc) st (show s.heap.IsTuple a its.toArray from p) (by simp;omega) fun h' eb=>⟨rfl,I.turned (t':=s.toks) (fun b o hb e=>eb b o hb e) f0 f1 f3 f4 f5⟩
 self:=fun _ _ _ _ _ st h=>wpAny_pyIter_tupleiter st h
end L2
namespace L2
open PySem PySem.Spec PyProof.Rows
section
variable{X:Cx}{tg:Expr}
def iList(K:PySem.W.Frag)(tl:TE):TI:=fun σ H R=>tl σ H fun x H1=>∃ a,x = .ref a∧(∃ xs,SqL K H1 a xs)∧R (Itl K a) H1
def iTup(K:PySem.W.Frag)(tl:TE):TI:=fun σ H R=>tl σ H fun x H1=>∃ a,x = .ref a∧(∃ xs,SqT K H1 a xs)∧R (Itt K a) H1
theorem pi_list{l:Expr}{tl:TE}(hl:PE X l tl):PI X tg l (iList X.K tl):=by
 intro pins s σ H R I h
 refine thn (hl pins s σ H _ I h) fun v s1 ⟨x,H1,I1,r1,q1⟩=>?_
 obtain ⟨a,e,⟨xs,hq⟩,q⟩:=q1
 subst e
 cases r1
 obtain ⟨its,rv,p,hz⟩:=I1.list hq
 refine wpAny_pyIter_list p.isList ?_
 refine ⟨s1.heap.objs.size,[s1.heap.objs.size],_,_,H1,rfl,I1.kept (t':=s1.toks) fun b o e=>Heap.get?_push_of_some _ e,turn_list a _,⟨_,Heap.get?_push_size _ rfl,rfl,rfl⟩,fun b hb=>?_,q⟩
 have e:b=s1.heap.objs.size:=by simpa using hb
 subst e
 exact I1.fpOk (Nat.le_refl _) (I1.hok.fresh (Nat.le_refl _))
theorem pi_tup{l:Expr}{tl:TE}(hl:PE X l tl):PI X tg l (iTup X.K tl):=by
 intro pins s σ H R I h
 refine thn (hl pins s σ H _ I h) fun v s1 ⟨x,H1,I1,r1,q1⟩=>?_
 obtain ⟨a,e,⟨xs,hq⟩,q⟩:=q1
 subst e
 cases r1
 obtain ⟨its,rv,p,hz⟩:=I1.tuple hq
 refine wpAny_pyIter_tuple (show s1.heap.IsTuple a its.toArray from p) ?_
 refine ⟨s1.heap.objs.size,[s1.heap.objs.size],_,_,H1,rfl,I1.kept (t':=s1.toks) fun b o e=>Heap.get?_push_of_some _ e,turn_tuple a _,⟨_,Heap.get?_push_size _ rfl,rfl,rfl⟩,fun b hb=>?_,q⟩
 have e:b=s1.heap.objs.size:=by simpa using hb
 subst e
 exact I1.fpOk (Nat.le_refl _) (I1.hok.fresh (Nat.le_refl _))
def tFor(wi:TI)(g:TG)(tb:TS):TS:=fun D σ H=>wi σ H fun J H1=>∃ W:Nat→Nat→St→Hp→Prop,(∃ m,W 0 m σ H1)∧∀ i m σ H,W i m σ H→
 (J.stop i H∧D.nx σ H)∨(J.go i H∧∃ N:St→Hp→Prop,(∀ σ' H',N σ' H'→∃ m',m' < m∧W (i + 1) m' σ' H')∧∀ x H',J.yld i H x H'→g x σ H' fun σ2 H2=>tb { D with nx:=N,ct:=N,bk:=D.nx } σ2 H2)
def pinsAt(fp:List Addr)(h:Heap):List (Addr×Obj):=fp.filterMap fun b=>(h.get? b).map fun o=>(b,o)
theorem mem_pinsAt{fp:List Addr}{h:Heap}{b:Addr}{o:Obj}(hb:b∈fp)(e:h.get? b=some o):(b,o)∈pinsAt fp h:=List.mem_filterMap.mpr ⟨b,hb,by rw [e];rfl⟩
theorem of_pinsAt{fp:List Addr}{h:Heap}{p:Addr×Obj}(hp:p∈pinsAt fp h):p.1∈fp∧h.get? p.1=some p.2:=by
 obtain ⟨b,hb,e⟩:=List.mem_filterMap.mp hp
 cases q:h.get? b with
 | none=>rw [q] at e;cases e
 | some o =>
  rw [q] at e
  have e':(b,o)=p:=Option.some.inj e
  subst e'
  exact ⟨hb,q⟩
theorem Inv.pinned{pins:List (Addr×Obj)}{σ:St}{H:Hp}{s:Shared}{fp:List Addr}(I:Inv X pins σ H s)(hf:∀ b∈fp,FpOk X pins H b)(ho:∀ b∈fp,∃ o,s.heap.get? b=some o∧∀ v,o.data≠.cell v):Inv X (pins ++ pinsAt fp s.heap) σ H s :=
 I.pins_of fun p hp=>(List.mem_append.mp hp).elim (fun z=>I.pin p (List.mem_append_right _ z)) fun z=>by
  obtain ⟨hb,e⟩:=of_pinsAt z
  obtain ⟨f0,f1,f2,_⟩:=hf p.1 hb
  obtain ⟨o,e',d⟩:=ho p.1 hb
  rw [e] at e';cases e'
  exact ⟨e,f0,f1,f2,d⟩
theorem Inv.unpinned{pins pl:List (Addr×Obj)}{σ:St}{H:Hp}{s:Shared}(I:Inv X (pins ++ pl) σ H s):Inv X pins σ H s:=I.pins_of fun p hp=>I.pin p (List.mem_append_right _ (List.mem_append_left _ hp))
theorem ps_for{iter:Expr}{body:List Stmt}{wi:TI}{g:TG}{tb:TS}{pos:Pos}(hp:PassesOwn (model X.prog X.w) X.A X.env X.xe)(hc:X.calm=true)(hi:PI X tg iter wi)(hg:PG X tg g)(hb:PSs X body tb)
  (hs:∀ x,foldedSetIterable iter X.env x=pure x:=by intro _;rfl):PS X (.For tg iter body [] pos) (tFor wi g tb):=by
 intro pins s σ H D I h
 refine wpAny_For (thn (hi pins s σ H _ I h) fun v s1 h1=>thn h1 fun itv s2 h2=>?_) hs
 obtain ⟨it,fp,tn,J,H2,e,I2,T,st2,f2,W,⟨m0,w0⟩,turn⟩:=h2
 subst e
 have stat:∀ {H':Hp},(∀ b∈fp,H' b=none)→∀ b∈fp,FpOk X pins H' b:=fun hn b hb=>⟨hn b hb,(f2 b hb).2⟩
 refine codeAny_forLoop_any (fun n s'=>∃ i σ' H',Inv X pins σ' H' s'∧tn i s'.heap∧(∀ b∈fp,H' b=none)∧W i n σ' H') ?_ m0 ⟨0,σ,H2,I2,st2,fun b hb=>(f2 b hb).1,w0⟩
 rintro n s3 ⟨i,σ3,H3,I3,st3,fr3,w3⟩
 rcases turn i n σ3 H3 w3 with ⟨stop,qn⟩ | ⟨go,N,hN,step⟩
 ·refine wpAny_passesOwn hp (thn (T.done X rfl rfl rfl hc i pins s3 σ3 H3 X.xe I3 (stat fr3) st3 stop) fun r s4 ⟨hr,I4⟩=>?_)
  subst hr
  exact wpAny_execs_nil ⟨σ3,H3,I4,qn⟩
 ·refine wpAny_passesOwn hp (thn (T.item X rfl rfl rfl hc i pins s3 σ3 H3 X.xe I3 (stat fr3) st3 go) fun r s4 ⟨u,hr,h4⟩=>?_)
  subst hr
  refine wpAny_passesOwn hp (thn h4 fun _ s5 ⟨x,H5,I5,r5,y5,st5,fr5⟩=>?_)
  have I5':=I5.pinned (stat fr5) (T.obj _ _ st5)
  refine wpAny_passesOwn hp (thn (hg _ s5 σ3 H5 x u _ I5' r5 (step x H5 y5)) fun _ s6 ⟨σ6,H6,I6,q6⟩=>?_)
  refine wpAny_passesOwn hp (thn (hb _ s6 σ6 H6 _ I6 q6) fun f s7 q7=>?_)
  have again:∀ {σ7:St} {H7:Hp},Inv X (pins ++ pinsAt fp s5.heap) σ7 H7 s7→N σ7 H7→∃ m,m < n∧∃ i σ' H',Inv X pins σ' H' s7∧tn i s7.heap∧(∀ b∈fp,H' b=none)∧W i m σ' H':=fun {σ7 H7} I7 n7=>by
   obtain ⟨m',hm,w7⟩:=hN σ7 H7 n7
   refine ⟨m',hm,i + 1,σ7,H7,I7.unpinned,T.keep _ _ _ st5 fun b hb o e=>(I7.pin (b,o) (List.mem_append_right _ (List.mem_append_right _ (mem_pinsAt hb e)))).1,fun b hb=>?_,w7⟩
   obtain ⟨o,e,d⟩:=T.obj _ _ st5 b hb
   exact (I7.pin (b,o) (List.mem_append_right _ (List.mem_append_right _ (mem_pinsAt hb e)))).2.1
  cases f with
  | next=>obtain ⟨σ7,H7,I7,n7⟩:=q7;exact again I7 n7
  | cont=>obtain ⟨σ7,H7,I7,n7⟩:=q7;exact again I7 n7
  | brk=>obtain ⟨σ7,H7,I7,q7⟩:=q7;exact ⟨σ7,H7,I7.unpinned,q7⟩
  | ret v=>obtain ⟨x7,σ7,H7,I7,r7,q7⟩:=q7;exact ⟨x7,σ7,H7,I7.unpinned,r7,q7⟩
end
end L2
namespace L2
open PySem PySem.Spec PyProof.Rows
abbrev R2:=V→V→Hp→VK→Prop
def OpR(X:Cx)(f:Value→Value→Sem Value)(r:R2):Prop :=
 ∀ (pins:List (Addr×Obj)) (s:Shared) (σ:St) (H:Hp) (x y:V) (v u:Value) (Q:VK),Inv X pins σ H s→RelV x v→RelV y u→r x y H Q→
  wpAny (model X.prog X.w) X.A (f v u) (EP X pins σ Q) X.xe s
def UnR(X:Cx)(f:Value→Sem Value)(r:V→Hp→VK→Prop):Prop :=
 ∀ (pins:List (Addr×Obj)) (s:Shared) (σ:St) (H:Hp) (x:V) (v:Value) (Q:VK),Inv X pins σ H s→RelV x v→r x H Q→
  wpAny (model X.prog X.w) X.A (f v) (EP X pins σ Q) X.xe s
def CallR(X:Cx)(f:Value)(r:List V→Hp→VK→Prop):Prop :=
 ∀ (pins:List (Addr×Obj)) (s:Shared) (σ:St) (H:Hp) (xs:List V) (us:List Value) (Q:VK),Inv X pins σ H s→Vals xs us→r xs H Q→
  wpAny (model X.prog X.w) X.A (call f us) (EP X pins σ Q) X.xe s
def tOp(r:R2)(ta tb:TE):TE:=fun σ H Q=>ta σ H fun x H1=>tb σ H1 fun y H2=>r x y H2 Q
def tUn(r:V→Hp→VK→Prop)(ta:TE):TE:=fun σ H Q=>ta σ H fun x H1=>r x H1 Q
def rI(C:Int→Int→Prop)(g:Int→Int→V):R2:=fun x y H Q=>∃ i j,x = .int i∧y = .int j∧C i j∧Q (g i j) H
def rI0(g:Int→Int→V):R2:=fun x y H Q=>∃ i j,x = .int i∧y = .int j∧Q (g i j) H
def rU(g:Int→V):V→Hp→VK→Prop:=fun x H Q=>∃ i,x = .int i∧Q (g i) H
section
variable{X:Cx}{a b c:Expr}{ta tb tc:TE}{pos:Pos}
theorem binT(ha:PE X a ta)(hb:PE X b tb){pins:List (Addr×Obj)}{s:Shared}{σ:St}{H:Hp}{R:V→V→Hp→Prop}(I:Inv X pins σ H s)
  (h:ta σ H fun x H1=>tb σ H1 fun y H2=>R x y H2) {Q:Value→Shared→Prop} {f:Value→Value→Sem Value}
  (hf:∀ v u s2 x y H2,Inv X pins σ H2 s2→RelV x v→RelV y u→R x y H2→wpAny (model X.prog X.w) X.A (f v u) Q X.xe s2) :
  wpAny (model X.prog X.w) X.A (eval a X.env) (fun v s₁=>wpAny (model X.prog X.w) X.A (eval b X.env) (fun u s₂=>wpAny (model X.prog X.w) X.A (f v u) Q X.xe s₂) X.xe s₁) X.xe s:=by
 refine thn (ha pins s σ H _ I h) fun v s1 ⟨x,H1,I1,r1,q1⟩=>?_
 refine thn (hb pins s1 σ H1 _ I1 q1) fun u s2 ⟨y,H2,I2,r2,q2⟩=>?_
 exact hf v u s2 x y H2 I2 r1 r2 q2
theorem pe_op{op:Operator}{r:R2}(ho:OpR X (binaryOp op) r)(ha:PE X a ta)(hb:PE X b tb):PE X (.BinOp a op b pos) (tOp r ta tb):=by
 intro pins s σ H Q I h
 exact wpAny_BinOp (binT ha hb I h fun v u s2 x y H2 I2 rx ry q=>ho pins s2 σ H2 x y v u Q I2 rx ry q)
theorem pe_un{op:UnaryOp}{r:V→Hp→VK→Prop}(ho:UnR X (unaryOp op) r)(ha:PE X a ta):PE X (.UnaryOp op a pos) (tUn r ta):=by
 intro pins s σ H Q I h
 exact UnaryOp_ (thn (ha pins s σ H _ I h) fun v s1 ⟨x,H1,I1,r1,q1⟩=>ho pins s1 σ H1 x v Q I1 r1 q1)
theorem opI{f:Value→Value→Sem Value}{C:Int→Int→Prop}{g:Int→Int→Int}
  (rule:∀ (i j:Int) (t u:Tok) (s:Shared) (Q:Value→Shared→Prop) (E:Value→Shared→Prop),C i j→Q (.int (g i j) s.toks) { s with toks:=s.toks + 1 }→wpAny (model X.prog X.w) X.A (f (.int i t) (.int j u)) Q E s) :
  OpR X f (rI C fun i j=>.int (g i j)):=by
 intro pins s σ H x y v u Q I rx ry h
 obtain ⟨i,j,rfl,rfl,hc,q⟩:=h
 obtain ⟨t,rfl⟩:=rx
 obtain ⟨t',rfl⟩:=ry
 exact rule i j t t' s _ _ hc ⟨.int (g i j),H,I.tok _,⟨_,rfl⟩,q⟩
theorem opI0{f:Value→Value→Sem Value}{g:Int→Int→Int}
  (rule:∀ (i j:Int) (t u:Tok) (s:Shared) (Q:Value→Shared→Prop) (E:Value→Shared→Prop),Q (.int (g i j) s.toks) { s with toks:=s.toks + 1 }→wpAny (model X.prog X.w) X.A (f (.int i t) (.int j u)) Q E s) :
  OpR X f (rI0 fun i j=>.int (g i j)):=by
 intro pins s σ H x y v u Q I rx ry h
 obtain ⟨i,j,rfl,rfl,q⟩:=h
 obtain ⟨t,rfl⟩:=rx
 obtain ⟨t',rfl⟩:=ry
 exact rule i j t t' s _ _ ⟨.int (g i j),H,I.tok _,⟨_,rfl⟩,q⟩
theorem opB0{f:Value→Value→Sem Value}{g:Int→Int→Bool}
  (rule:∀ (i j:Int) (t u:Tok) (s:Shared) (Q:Value→Shared→Prop) (E:Value→Shared→Prop),Q (.bool (g i j)) s→wpAny (model X.prog X.w) X.A (f (.int i t) (.int j u)) Q E s) :
  OpR X f (rI0 fun i j=>.bl (g i j)):=by
 intro pins s σ H x y v u Q I rx ry h
 obtain ⟨i,j,rfl,rfl,q⟩:=h
 obtain ⟨t,rfl⟩:=rx
 obtain ⟨t',rfl⟩:=ry
 exact rule i j t t' s _ _ ⟨.bl (g i j),H,I,rfl,q⟩
def CMul(i j:Int):Prop:=(-(2 ^ 64) < i∧i < 2 ^ 64)∨(-(2 ^ 64) < j∧j < 2 ^ 64)
theorem CMul.ok{i j:Int}(h:CMul i j):IntMulOk i j:=by
 rcases h with ⟨h1,h2⟩ | ⟨h1,h2⟩
 ·exact .of_left (intBits_le_64 h1 h2)
 ·exact .of_right (intBits_le_64 h1 h2)
theorem op_add:OpR X (binaryOp .Add) (rI0 fun i j=>.int (i + j)):=opI0 fun _ _ _ _ _ _ _ q=>add_int q
theorem op_sub:OpR X (binaryOp .Sub) (rI0 fun i j=>.int (i - j)):=opI0 fun _ _ _ _ _ _ _ q=>sub_int q
theorem op_mul:OpR X (binaryOp .Mult) (rI CMul fun i j=>.int (i * j)):=opI fun _ _ _ _ _ _ _ hc q=>mul_int q hc.ok
theorem unI{f:Value→Sem Value}{g:Int→Int}
  (rule:∀ (i:Int) (t:Tok) (s:Shared) (Q:Value→Shared→Prop) (E:Value→Shared→Prop),Q (.int (g i) s.toks) { s with toks:=s.toks + 1 }→wpAny (model X.prog X.w) X.A (f (.int i t)) Q E s) :
  UnR X f (rU fun i=>.int (g i)):=by
 intro pins s σ H x v Q I rx h
 obtain ⟨i,rfl,q⟩:=h
 obtain ⟨t,rfl⟩:=rx
 exact rule i t s _ _ ⟨.int (g i),H,I.tok _,⟨_,rfl⟩,q⟩
theorem un_neg:UnR X (unaryOp .USub) (rU fun i=>.int (-i)):=unI fun _ _ _ _ _ q=>neg_int q
end
def scal:V→V→Bool
 | .non,.non=>true | .non,.int _=>true | .int _,.non=>true | .non,.bl _=>true | .bl _,.non=>true | .non,.str _=>true | .str _,.non=>true
 | .int _,.int _=>true | .bl _,.bl _=>true | .str _,.str _=>true | .byt _,.byt _=>true
 | .int _,.str _=>true | .str _,.int _=>true | .bl _,.str _=>true | .str _,.bl _=>true
 | _,_=>false
def rEq:R2:=fun x y H Q=>scal x y=true∧Q (.bl (decide (x=y))) H
def rNe:R2:=fun x y H Q=>scal x y=true∧Q (.bl (!decide (x=y))) H
theorem dec_int{i j:Int}:decide (V.int i=V.int j)=(i == j):=by
 rw [Bool.eq_iff_iff]
 simp
theorem dec_bl{i j:Bool}:decide (V.bl i=V.bl j)=(i == j):=by
 rw [Bool.eq_iff_iff]
 simp
theorem dec_str{i j:Str}:decide (V.str i=V.str j)=(i == j):=by
 rw [Bool.eq_iff_iff]
 simp
theorem dec_byt{i j:Array UInt8}:decide (V.byt i=V.byt j)=(i.toList == j.toList):=by
 rw [Bool.eq_iff_iff]
 cases i
 cases j
 simp
section
variable{X:Cx}{a b c:Expr}{ta tb tc:TE}{pos:Pos}
theorem fin_bl{pins:List (Addr×Obj)}{σ:St}{H:Hp}{s:Shared}{Q:VK}{k k':Bool}(I:Inv X pins σ H s)(q:Q (.bl k) H)(e:k=k'):EP X pins σ Q (.bool k') s:=by
 subst e
 exact ⟨.bl k,H,I,rfl,q⟩
theorem op_eq:OpR X (compareOp .Eq) rEq:=by
 intro pins s σ H x y v u Q I rx ry h
 obtain ⟨hs,q⟩:=h
 cases x with
 | non =>
  cases rx
  cases y with
  | non=>cases ry;exact PySem.EqNone.eq_none_none (fin_bl I q (by simp))
  | bl j=>cases ry;exact PySem.EqNone.eq_none_bool (fin_bl I q (by simp))
  | int j=>obtain ⟨t',rfl⟩:=ry;exact PySem.EqNone.eq_none_int (fin_bl I q (by simp))
  | str j=>obtain ⟨t',rfl⟩:=ry;exact PySem.EqNone.eq_none_str (fin_bl I q (by simp))
  | _=>exact absurd (show false=true from hs) Bool.false_ne_true
 | bl i =>
  cases rx
  cases y with
  | non=>cases ry;exact PySem.EqNone.eq_bool_none (fin_bl I q (by simp))
  | bl j=>cases ry;exact eq_bool (fin_bl I q dec_bl)
  | str j=>obtain ⟨t',rfl⟩:=ry;exact PySem.EqMixed.eq_bool_str (fin_bl I q (by simp))
  | _=>exact absurd (show false=true from hs) Bool.false_ne_true
 | int i =>
  obtain ⟨t,rfl⟩:=rx
  cases y with
  | non=>cases ry;exact PySem.EqNone.eq_int_none (fin_bl I q (by simp))
  | int j=>obtain ⟨t',rfl⟩:=ry;exact eq_int (fin_bl I q dec_int)
  | str j=>obtain ⟨t',rfl⟩:=ry;exact PySem.EqMixed.eq_int_str (fin_bl I q (by simp))
  | _=>exact absurd (show false=true from hs) Bool.false_ne_true
 | str i =>
  obtain ⟨t,rfl⟩:=rx
  cases y with
  | non=>cases ry;exact PySem.EqNone.eq_str_none (fin_bl I q (by simp))
  | bl j=>cases ry;exact PySem.EqMixed.eq_str_bool (fin_bl I q (by simp))
  | int j=>obtain ⟨t',rfl⟩:=ry;exact PySem.EqMixed.eq_str_int (fin_bl I q (by simp))
  | str j=>obtain ⟨t',rfl⟩:=ry;exact eq_str (fin_bl I q dec_str)
  | _=>exact absurd (show false=true from hs) Bool.false_ne_true
 | byt i =>
  obtain ⟨t,rfl⟩:=rx
  cases y with
  | byt j=>obtain ⟨t',rfl⟩:=ry;exact PySem.W.eq_bytes (fin_bl I q dec_byt)
  | _=>exact absurd (show false=true from hs) Bool.false_ne_true
 | _=>cases y <;> exact absurd (show false=true from hs) Bool.false_ne_true
theorem op_ne:OpR X (compareOp .NotEq) rNe:=by
 intro pins s σ H x y v u Q I rx ry h
 obtain ⟨hs,q⟩:=h
 cases x with
 | non =>
  cases rx
  cases y with
  | non=>cases ry;exact PySem.EqNone.ne_none_none (fin_bl I q (by simp))
  | bl j=>cases ry;exact PySem.EqNone.ne_none_bool (fin_bl I q (by simp))
  | int j=>obtain ⟨t',rfl⟩:=ry;exact PySem.EqNone.ne_none_int (fin_bl I q (by simp))
  | str j=>obtain ⟨t',rfl⟩:=ry;exact PySem.EqNone.ne_none_str (fin_bl I q (by simp))
  | _=>exact absurd (show false=true from hs) Bool.false_ne_true
 | bl i =>
  cases rx
  cases y with
  | non=>cases ry;exact PySem.EqNone.ne_bool_none (fin_bl I q (by simp))
  | bl j=>cases ry;exact ne_bool (fin_bl I q (congrArg not dec_bl))
  | str j=>obtain ⟨t',rfl⟩:=ry;exact PySem.EqMixed.ne_bool_str (fin_bl I q (by simp))
  | _=>exact absurd (show false=true from hs) Bool.false_ne_true
 | int i =>
  obtain ⟨t,rfl⟩:=rx
  cases y with
  | non=>cases ry;exact PySem.EqNone.ne_int_none (fin_bl I q (by simp))
  | int j=>obtain ⟨t',rfl⟩:=ry;exact ne_int (fin_bl I q (congrArg not dec_int))
  | str j=>obtain ⟨t',rfl⟩:=ry;exact PySem.EqMixed.ne_int_str (fin_bl I q (by simp))
  | _=>exact absurd (show false=true from hs) Bool.false_ne_true
 | str i =>
  obtain ⟨t,rfl⟩:=rx
  cases y with
  | non=>cases ry;exact PySem.EqNone.ne_str_none (fin_bl I q (by simp))
  | bl j=>cases ry;exact PySem.EqMixed.ne_str_bool (fin_bl I q (by simp))
  | int j=>obtain ⟨t',rfl⟩:=ry;exact PySem.EqMixed.ne_str_int (fin_bl I q (by simp))
  | str j=>obtain ⟨t',rfl⟩:=ry;exact ne_str (fin_bl I q (congrArg not dec_str))
  | _=>exact absurd (show false=true from hs) Bool.false_ne_true
 | byt i =>
  obtain ⟨t,rfl⟩:=rx
  cases y with
  | byt j=>obtain ⟨t',rfl⟩:=ry;exact PySem.W.ne_bytes (fin_bl I q (congrArg not dec_byt))
  | _=>exact absurd (show false=true from hs) Bool.false_ne_true
 | _=>cases y <;> exact absurd (show false=true from hs) Bool.false_ne_true
theorem op_lt:OpR X (compareOp .Lt) (rI0 fun i j=>.bl (decide (i < j))):=opB0 fun _ _ _ _ _ _ _ q=>lt_int q
theorem op_le:OpR X (compareOp .LtE) (rI0 fun i j=>.bl (decide (i≤j))):=opB0 fun _ _ _ _ _ _ _ q=>le_int q
theorem op_gt:OpR X (compareOp .Gt) (rI0 fun i j=>.bl (decide (j < i))):=opB0 fun _ _ _ _ _ _ _ q=>gt_int q
theorem nomark(b:Expr){op:CmpOp}(h:op≠.In:=by decide)(h2:op≠.NotIn:=by decide):behindInMarks op b=false:=by
 have e1:(op == CmpOp.In)=false:=by cases op <;> first | rfl | exact absurd rfl h
 have e2:(op == CmpOp.NotIn)=false:=by cases op <;> first | rfl | exact absurd rfl h2
 cases b <;> simp [behindInMarks,e1,e2]
theorem pe_cmpR{op:CmpOp}{r:R2}(ho:OpR X (compareOp op) r)(ha:PE X a ta)(hb:PE X b tb)(hm:behindInMarks op b=false):PE X (.Compare a [op] [b] pos) (tOp r ta tb):=by
 intro pins s σ H Q I h
 exact wpAny_Compare1 (binT ha hb I h fun v u s2 x y H2 I2 rx ry q=>ho pins s2 σ H2 x y v u Q I2 rx ry q) hm
def tTest(t:TE):TT:=fun σ H Q=>t σ H fun x H'=>∃ k,x = .bl k∧Q k H'
theorem pt_cmpR{op:CmpOp}{r:R2}(ho:OpR X (compareOp op) r)(ha:PE X a ta)(hb:PE X b tb)(hm:behindInMarks op b=false):PT X (.Compare a [op] [b] pos) (tTest (tOp r ta tb)):=by
 intro pins s σ H Q I h
 refine wpAny_isTrue_Compare1 (thn (ha pins s σ H _ I h) fun v s1 ⟨x,H1,I1,r1,q1⟩=>thn (hb pins s1 σ H1 _ I1 q1) fun u s2 ⟨y,H2,I2,r2,q2⟩ =>
  thn (ho pins s2 σ H2 x y v u _ I2 r1 r2 q2) fun c s3 ⟨z,H3,I3,r3,k,e,q3⟩=>?_) hm
 subst e
 cases r3
 exact wpAny_truthy_bool ⟨H3,I3,q3⟩
def tChain(r r':R2)(ta tb tc:TE):TE:=fun σ H Q=>ta σ H fun x H1=>tb σ H1 fun y H2=>r x y H2 fun z H3=>∃ k,z = .bl k∧
 (if k=true then tc σ H3 fun w' H4=>r' y w' H4 Q else Q (.bl false) H3)
theorem pe_chain{op op':CmpOp}{r r':R2}(ho:OpR X (compareOp op) r)(ho':OpR X (compareOp op') r')(ha:PE X a ta)(hb:PE X b tb)(hc:PE X c tc)
  (hm:lastMarks [op,op'] [b,c]=false:=by with_unfolding_all rfl):PE X (.Compare a [op,op'] [b,c] pos) (tChain r r' ta tb tc):=by
 intro pins s σ H Q I h
 refine Compare_chain (thn (ha pins s σ H _ I h) fun v s1 ⟨x,H1,I1,r1,q1⟩=>chain_link (thn (hb pins s1 σ H1 _ I1 q1) fun u s2 ⟨y,H2,I2,r2,q2⟩ =>
  thn (ho pins s2 σ H2 x y v u _ I2 r1 r2 q2) fun d s3 ⟨z,H3,I3,r3,k,e,q3⟩=>?_)) hm
 subst e
 cases r3
 refine wpAny_truthy_bool ?_
 cases k with
 | false=>exact ite_ff ⟨.bl false,H3,I3,rfl,q3⟩
 | true=>exact ite_tt (chain_last (thn (hc pins s3 σ H3 _ I3 q3) fun w' s4 ⟨z',H4,I4,r4,q4⟩=>ho' pins s4 σ H4 y z' u w' Q I4 r2 r4 q4))
theorem pt_chain{op op':CmpOp}{r r':R2}(ho:OpR X (compareOp op) r)(ho':OpR X (compareOp op') r')(ha:PE X a ta)(hb:PE X b tb)(hc:PE X c tc)
  (hm:lastMarks [op,op'] [b,c]=false:=by with_unfolding_all rfl):PT X (.Compare a [op,op'] [b,c] pos) (tTest (tChain r r' ta tb tc)):=by
 intro pins s σ H Q I h
 refine isTrue_chain (thn (ha pins s σ H _ I h) fun v s1 ⟨x,H1,I1,r1,q1⟩=>test_link (thn (hb pins s1 σ H1 _ I1 q1) fun u s2 ⟨y,H2,I2,r2,q2⟩ =>
  thn (ho pins s2 σ H2 x y v u _ I2 r1 r2 q2) fun d s3 ⟨z,H3,I3,r3,k,e,q3⟩=>?_)) hm
 subst e
 cases r3
 refine wpAny_truthy_bool ?_
 cases k with
 | false =>
  obtain ⟨k',e',q'⟩:=q3
  cases e'
  exact ite_ff ⟨H3,I3,q'⟩
 | true =>
  refine ite_tt (test_last (thn (hc pins s3 σ H3 _ I3 q3) fun w' s4 ⟨z',H4,I4,r4,q4⟩=>thn (ho' pins s4 σ H4 y z' u w' _ I4 r2 r4 q4) fun d' s5 ⟨z2,H5,I5,r5,k2,e2,q5⟩=>?_))
  subst e2
  cases r5
  exact wpAny_truthy_bool ⟨H5,I5,q5⟩
theorem line63:(sizeLine:Nat) < 2 ^ 63:=by rw [sizeLine_eq];decide
theorem iop_add_str:OpR X (inplaceOp .Add) (fun x y H Q=>∃ i j,x = .str i∧y = .str j∧i.length + j.length≤sizeLine∧Q (.str (i ++ j)) H):=by
 intro pins s σ H x y v u Q I rx ry h
 obtain ⟨i,j,rfl,rfl,hz,q⟩:=h
 obtain ⟨t,rfl⟩:=rx
 obtain ⟨t',rfl⟩:=ry
 exact iadd_str (fun t' tk=>⟨.str (i ++ j),H,I.tok _,⟨_,rfl⟩,q⟩) hz
theorem vals1{x:V}{us:List Value}(r:Vals [x] us):∃ u,us=[u]∧RelV x u:=by
 cases r with
 | cons r1 r2=>cases r2;exact ⟨_,rfl,r1⟩
end
end L2
namespace L2
open PySem PySem.Spec PyProof.Rows
structure ObjM(h:Heap)(x dx C:Addr)(mA:Str→Option Value):Prop where
 obj:h.get? x=some (PySem.W.instObj C dx)
 ns:h.Ns1 dx mA
 ne:dx≠x
theorem lookIn_ns{h:Heap}{dx:Addr}{mA:Str→Option Value}(n:h.Ns1 dx mA):∃ od,h.get? dx=some od∧∀ name,PySem.W.lookIn name od=some (mA name):=by
 obtain ⟨o,es,ep,ho,hd,hk,_,hm⟩:=n
 refine ⟨o,ho,fun name=>?_⟩
 have e:=hm name
 unfold nsFind findBy at e
 rw [← Array.find?_toList] at e
 unfold PySem.W.lookIn
 rw [hd]
 dsimp only
 split
 ·rename_i y q
  rw [q] at e
  exact congrArg some e
 ·rename_i q
  rw [q] at e
  have a:es.toList.any (·.refKey)=false:=by
   rw [List.any_eq_false]
   intro y hy
   obtain ⟨z,t,hkey⟩:=hk y (Array.mem_toList_iff.mp hy)
   simp [DictEntry.refKey,hkey]
  have a':¬ es.toList.any (·.refKey)=true:=by rw [a];exact Bool.false_ne_true
  rw [if_neg a']
  exact congrArg some e
theorem ObjM.look{h:Heap}{x dx C:Addr}{mA:Str→Option Value}(I:ObjM h x dx C mA):∃ od,PySem.W.InstAt h x (PySem.W.instObj C dx) C (some od)∧∀ name,PySem.W.lookIn name od=some (mA name) :=
 let ⟨od,ho,hl⟩:=lookIn_ns I.ns
 ⟨od,⟨I.obj,rfl,rfl,ho⟩,hl⟩
section
variable{prog:Program}{w:World}{A:Around}{E:Value→Shared→Prop}{s:Shared}{K:PySem.W.Frag}{x dx C f:Addr}{mA:Str→Option Value}{name:Str}{v:Value}
theorem get_map{expr:Bool}{Q:Value→Shared→Prop}(X:K.In s.heap)(I:ObjM s.heap x dx C mA)(hg:PySem.W.plainGet K C name=true)(hh:PySem.W.hasDictIn K C=true)
  (ha:PySem.W.findIn K (.ref C) name=some none) (hv:mA name=some v) (hv':PySem.W.handedIn v=true) (h:Q v { s with toks:=s.toks + 1 }) :
  wpAny (model prog w) A (getAttr (.ref x) name expr) Q E s:=by
 obtain ⟨od,J,hl⟩:=I.look
 exact PySem.W.get_value X J (PySem.W.plainGet_of hg).1 (PySem.W.findObj_own hh ha rfl (by rw [hl,hv])) hv' h
theorem get_meth{pl:Sem Bool}{Q:Value×List Value→Shared→Prop}(X:K.In s.heap)(I:ObjM s.heap x dx C mA)(hg:PySem.W.plainGet K C name=true)
  (hf:PySem.W.findIn K (.ref C) name=some (some (.ref f))) (ht:PySem.W.isFn K (.ref f)=true) (hv:mA name=none) (h:Q (.ref f,[.ref x]) s) :
  wpAny (model prog w) A (getMethod (.ref x) name pl) Q E s:=by
 obtain ⟨od,J,hl⟩:=I.look
 exact PySem.W.method_fn X J (PySem.W.plainGet_of hg).1 (PySem.W.plainGet_of hg).2 hf (beq_iff_eq.mp ht) (by show (PySem.W.lookIn name od).map (·.isSome)=some false;rw [hl,hv];rfl) h
theorem set_map{ns:List Str}{Q:Unit→Shared→Prop}(X:K.In s.heap)(I:ObjM s.heap x dx C mA)
  (hs:PySem.W.findIn K (.ref C) "__setattr__"=some (some (.builtin "object.__setattr__"))) (hp:PySem.W.plainOver K C=true) (ht:PySem.W.takerIn K C name=some none) (hh:PySem.W.hasDictIn K C=true)
  (hw:PySem.Within mA ns) (hsz:ns.length≤sizeLine)
  (h:∀ h',ObjM h' x dx C (fun y=>if y=name then some v else mA y)→Heap.SameBut dx s.heap h'→Q () { s with heap:=h',toks:=s.toks + 2 }) :
  wpAny (model prog w) A (setAttr (.ref x) name v) Q E s:=by
 obtain ⟨od,J,hl⟩:=I.look
 refine PySem.W.set_plain X J hs (PySem.W.osa_open (s:={ s with toks:=s.toks + 1 }) (r:=none) X J hp ht fun b=>?_)
 obtain ⟨cd,hc,hd'⟩:=PySem.W.any_some hh
 have hx:s.heap.get? x=some ⟨.ref C,some dx,.plain,#[]⟩:=I.obj
 refine wpAny_bind (wpAny_pure (wpAny_bind (wpAny_bind (wpAny_loadPart hx (wpAny_bind (PySem.W.Looks.here (s:={ s with toks:=s.toks + 1 }) (PySem.W.looks_clsIn X hc) ?_))))))
 rw [hd']
 refine wpAny_pure (a:=some dx) (wpAny_bind (wpAny_pure (wpAny_bind ?_)))
 refine wpAny_nsSet1 (s:={ s with toks:=s.toks + 1 }) I.ns fun h' hn2 hs2=>?_
 obtain ⟨oD,esD,epD,hoD,hdD,hcD⟩:=hn2.count (PySem.Within.cons name v hw)
 refine wpAny_bind (wpAny_lookBehind hoD (by rw [hdD];exact pastItsLine_dict (Nat.le_trans hcD (by rw [List.length_cons];omega))) ?_)
 exact wpAny_pure (h _ ⟨(hs2.2 _ (Ne.symm I.ne)).trans I.obj,hn2,I.ne⟩ hs2)
theorem make_map{R:Result→Shared→Prop}{vs:List Value}{kw:List (Str×Value)}(X:K.In s.heap)(hm:PySem.W.makesIn K C=true)
  (hi:PySem.W.findIn K (.ref C) "__init__"=some (some (.ref f))) (hf:PySem.W.typeIn K (.ref f)=some (.type "function"))
  (h:codeAny (model prog w) (A.under (.builtin "type.__call__" ⟨.ref C::vs,kw⟩)) (.call (.ref f) ⟨.ref (s.heap.objs.size + 1)::vs,kw⟩) (PySem.W.InitBack (s.heap.objs.size + 1) R)
   { s with heap:=(s.heap.push PySem.W.emptyDict).push (PySem.W.instObj C s.heap.objs.size) }) :
  codeAny (model prog w) A (.call (.ref C) ⟨vs,kw⟩) R s:=by
 obtain ⟨hh,g,d,t,os⟩:=s
 exact PySem.W.make_core (PySem.W.makes_of X hm) (PySem.W.looks_findIn X hi) (fun self=>PySem.W.bind_fn X self hf) (.inl rfl) h
end
def putF(f:Str)(v:V):List (Str×V)→List (Str×V)
 | []=>[(f,v)]
 | (g,x)::r=>if g=f then (g,v)::r else (g,x)::putF f v r
theorem lookup_putF(f g:Str)(v:V):∀ fs:List (Str×V),(putF f v fs).lookup g=if g=f then some v else fs.lookup g
 | []=>by
  show List.lookup g [(f,v)]=_
  by_cases h:g=f
  ·have hb:(g == f)=true:=beq_iff_eq.mpr h
   simp only [List.lookup,hb,if_pos h]
  ·have hb:(g == f)=false:=beq_eq_false_iff_ne.mpr h
   simp only [List.lookup,hb,if_neg h]
 | (k,x)::r=>by
  have ih:=lookup_putF f g v r
  rw [show putF f v ((k,x)::r)=(if k=f then (k,v)::r else (k,x)::putF f v r) from rfl]
  by_cases hk:k=f
  ·rw [if_pos hk]
   by_cases h:g=k
   ·have hb:(g == k)=true:=beq_iff_eq.mpr h
    simp only [List.lookup,hb,if_pos (h.trans hk)]
   ·have hb:(g == k)=false:=beq_eq_false_iff_ne.mpr h
    simp only [List.lookup,hb,if_neg (fun e:g=f=>h (e.trans hk.symm))]
  ·rw [if_neg hk]
   by_cases h:g=k
   ·have hb:(g == k)=true:=beq_iff_eq.mpr h
    simp only [List.lookup,hb,if_neg (fun e:g=f=>hk (h.symm.trans e))]
   ·have hb:(g == k)=false:=beq_eq_false_iff_ne.mpr h
    simp only [List.lookup,hb]
    exact ih
theorem keys_putF(f:Str)(v:V):∀ fs:List (Str×V),f∈(putF f v fs).map (·.1)∧∀ g,g∈fs.map (·.1)→g∈(putF f v fs).map (·.1)
 | []=>⟨by simp [putF],fun g h=>by simp at h⟩
 | (k,x)::r=>by
  obtain ⟨i1,i2⟩:=keys_putF f v r
  rw [show putF f v ((k,x)::r)=(if k=f then (k,v)::r else (k,x)::putF f v r) from rfl]
  by_cases hk:k=f
  ·rw [if_pos hk]
   subst hk
   exact ⟨by simp,fun g h=>by simpa using h⟩
  ·rw [if_neg hk]
   refine ⟨?_,fun g h=>?_⟩
   ·rw [List.map_cons]
    exact List.mem_cons_of_mem _ i1
   ·rw [List.map_cons] at h ⊢
    rcases List.mem_cons.mp h with e | e
    ·exact List.mem_cons.mpr (.inl e)
    ·exact List.mem_cons_of_mem _ (i2 g e)
theorem length_putF(f:Str)(v:V):∀ fs:List (Str×V),(putF f v fs).length≤fs.length + 1
 | []=>by simp [putF]
 | (k,x)::r=>by
  have ih:=length_putF f v r
  rw [show putF f v ((k,x)::r)=(if k=f then (k,v)::r else (k,x)::putF f v r) from rfl]
  by_cases hk:k=f
  ·rw [if_pos hk,List.length_cons,List.length_cons];omega
  ·rw [if_neg hk,List.length_cons,List.length_cons];omega
theorem RelO.some_of{v:V}{o:Option Value}(r:RelO (some v) o):∃ u,o=some u∧RelV v u:=by
 cases o with
 | none=>exact (show False from r).elim
 | some u=>exact ⟨u,rfl,r⟩
theorem RelO.none_of{o:Option Value}(r:RelO none o):o=none:=by
 cases o with
 | none=>rfl
 | some u=>exact (show False from r).elim
theorem handed_of{v:V}{u:Value}(r:RelV v u):PySem.W.handedIn u=true:=by
 cases v with
 | non=>cases (show u=Value.none from r);rfl
 | bl b=>cases (show u=Value.bool b from r);rfl
 | int i=>obtain ⟨t,e⟩:=(show ∃ t,u=Value.int i t from r);cases e;rfl
 | str x=>obtain ⟨t,e⟩:=(show ∃ t,u=Value.str x t from r);cases e;rfl
 | byt b=>obtain ⟨t,e⟩:=(show ∃ t,u=Value.bytes b t from r);cases e;rfl
 | flt b=>obtain ⟨t,e⟩:=(show ∃ t,u=Value.float b t from r);cases e;rfl
 | ref a=>cases (show u=Value.ref a from r);rfl
 | ty n=>cases (show u=Value.type n from r);rfl
section
variable{P:Program}{w:World}{H H':Hp}{h h':Heap}{a C dx:Addr}{fs fs':List (Str×V)}
theorem ins_get(hok:HOk P w H h)(e:H a=some (.ins C dx fs)):∃ mA,ObjM h a dx C mA∧(∀ f,RelO (fs.lookup f) (mA f))∧PySem.Within mA (fs.map (·.1))∧fs.length≤1000∧H dx=some (.own a):=by
 obtain ⟨d,z,ne,ob,mA,n,r,q⟩:=(show ObjOk P w H h a (.ins C dx fs) from hok a _ e)
 exact ⟨mA,⟨ob,n,ne⟩,r,q,z,d⟩
end
structure Cls(K:PySem.W.Frag)(C:Addr):Prop where
 pg:PySem.W.plainGet K C Str.empty=true
 hd:PySem.W.hasDictIn K C=true
 po:PySem.W.plainOver K C=true
 sa:PySem.W.findIn K (.ref C) "__setattr__"=some (some (.builtin "object.__setattr__"))
theorem Cls.get{K:PySem.W.Frag}{C:Addr}(c:Cls K C)(f:Str):PySem.W.plainGet K C f=true:=c.pg
def NoAttr(K:PySem.W.Frag)(C:Addr)(f:Str):Prop:=PySem.W.findIn K (.ref C) f=some none
theorem NoAttr.taker{K:PySem.W.Frag}{C:Addr}{f:Str}(n:NoAttr K C f):PySem.W.takerIn K C f=some none:=by
 unfold PySem.W.takerIn
 rw [show PySem.W.findIn K (.ref C) f=some none from n]
 rfl
structure Meth(K:PySem.W.Frag)(C:Addr)(m:Str)(f:Addr):Prop where
 at_:PySem.W.findIn K (.ref C) m=some (some (.ref f))
 fn:PySem.W.isFn K (.ref f)=true
 kp:PySem.W.keepIn K (.ref f)=true
section
variable{X:Cx}{pins:List (Addr×Obj)}{σ:St}{H:Hp}{s:Shared}{a C dx:Addr}{fs:List (Str×V)}{f:Str}{v:V}{A:Around}{E:Value→Shared→Prop}
theorem getattr_ok{b:Bool}{Q:Value→Shared→Prop}(I:Inv X pins σ H s)(e:H a=some (.ins C dx fs))(c:Cls X.K C)(n:NoAttr X.K C f)(l:fs.lookup f=some v)
  (h:∀ u s',Inv X pins σ H s'→RelV v u→Q u s'):wpAny (model X.prog X.w) A (getAttr (.ref a) f b) Q E s:=by
 obtain ⟨mA,O,r,_,_,_⟩:=ins_get I.hok e
 obtain ⟨u,hu,ru⟩:=RelO.some_of (v:=v) (o:=mA f) (by rw [← l];exact r f)
 exact get_map I.kIn O (c.get f) c.hd n hu (handed_of ru) (h u _ (I.tok _) ru)
theorem getmeth_ok{m:Str}{g:Addr}{pl:Sem Bool}{Q:Value×List Value→Shared→Prop}(I:Inv X pins σ H s)(e:H a=some (.ins C dx fs))(c:Cls X.K C)(k:Meth X.K C m g)(l:fs.lookup m=none)
  (h:Q (.ref g,[.ref a]) s):wpAny (model X.prog X.w) A (getMethod (.ref a) m pl) Q E s:=by
 obtain ⟨mA,O,r,_,_,_⟩:=ins_get I.hok e
 have hn:mA m=none:=RelO.none_of (by rw [← l];exact r m)
 exact get_meth I.kIn O (c.get m) k.at_ k.fn hn h
theorem setattr_ok{y:V}{u:Value}{Q:Unit→Shared→Prop}(I:Inv X pins σ H s)(e:H a=some (.ins C dx fs))(c:Cls X.K C)(n:NoAttr X.K C f)(hl:fs.length < 1000)(ry:RelV y u)
  (h:∀ s',Inv X pins σ (upd H a (.ins C dx (putF f y fs))) s'→Q () s'):wpAny (model X.prog X.w) A (setAttr (.ref a) f u) Q E s:=by
 obtain ⟨mA,O,r,wi,_,ho⟩:=ins_get I.hok e
 have hz:(fs.map (·.1)).length≤sizeLine:=by rw [List.length_map,sizeLine_eq];omega
 refine set_map I.kIn O c.sa c.po n.taker c.hd wi hz fun h' O' sb=>h _ ?_
 have hd:∃ o,h'.get? dx=some o:=let ⟨o,_,_,e',_⟩:=O'.ns;⟨o,e'⟩
 refine I.write (x:=a) (e:=dx) (by rw [e];exact True.intro) (.inr ho) (fun b q hb z=>(sb.2 b hb).trans z) hd ?_
 refine ⟨by rw [upd_ne O.ne];exact ho,?_,O.ne,O'.obj,_,O'.ns,fun g=>?_,fun g hg=>?_⟩
 ·have:=length_putF f y fs;omega
 ·show RelO ((putF f y fs).lookup g) (if g=f then some u else mA g)
  rw [lookup_putF]
  by_cases q:g=f
  ·rw [if_pos q,if_pos q];exact ry
  ·rw [if_neg q,if_neg q];exact r g
 ·by_cases q:g=f
  ·rw [q];exact (keys_putF f y fs).1
  ·refine (keys_putF f y fs).2 g (wi g fun z=>hg ?_)
   show (if g=f then some u else mA g)=none
   rw [if_neg q];exact z
theorem Inv.made(I:Inv X pins σ H s):Inv X pins σ (upd (upd H s.heap.objs.size (.own (s.heap.objs.size + 1))) (s.heap.objs.size + 1) (.ins C s.heap.objs.size []))
  { s with heap:=(s.heap.push PySem.W.emptyDict).push (PySem.W.instObj C s.heap.objs.size) }:=by
 have e1:(s.heap.push PySem.W.emptyDict).get? s.heap.objs.size=some PySem.W.emptyDict:=Heap.get?_push_size s.heap rfl
 have e2:((s.heap.push PySem.W.emptyDict).push (PySem.W.instObj C s.heap.objs.size)).get? (s.heap.objs.size + 1)=some (PySem.W.instObj C s.heap.objs.size):=by
  have:=Heap.get?_push_size (s.heap.push PySem.W.emptyDict) (o:=PySem.W.instObj C s.heap.objs.size) rfl
  rwa [Heap.size_push] at this
 have e3:(s.heap.push PySem.W.emptyDict).Ns s.heap.objs.size (fun _=>none):=⟨PySem.W.emptyDict,#[],_,e1,rfl,(fun e he=>absurd he (by simp)),fun _=>rfl⟩
 have I1:=I.laid (a:=s.heap.objs.size) (o:=.own (s.heap.objs.size + 1)) (h':=s.heap.push PySem.W.emptyDict) (t':=s.toks) (fun b u q=>Heap.get?_push_of_some _ q) (Nat.le_refl _) ⟨_,e1⟩
 refine I1.laid (a:=s.heap.objs.size + 1) (o:=.ins C s.heap.objs.size []) (t':=s.toks) (fun b u q=>Heap.get?_push_of_some _ q) (Nat.le_of_eq (Heap.size_push _ _)) ?_
 have ne:s.heap.objs.size≠s.heap.objs.size + 1:=Nat.ne_of_lt (Nat.lt_succ_self _)
 refine ⟨by rw [upd_ne ne,upd_same],Nat.zero_le _,ne,e2,fun _=>none,(Heap.Ns1.of_empty e3).at fun o q=>Heap.get?_push_of_some _ q,fun _=>True.intro,fun y hy=>absurd rfl hy⟩
theorem attr_of{prog:Program}{w:World}{env:Env}{e:Expr}{f:Str}{pos:Pos}{s:Shared}{Q:Value→Shared→Prop}(hb:attributeBase e f env (eval e env)=eval e env)
  (h:wpAny (model prog w) A (eval e env) (fun o s₁=>wpAny (model prog w) A (getAttr o f true) Q E s₁) E s):wpAny (model prog w) A (eval (.Attribute e f pos) env) Q E s :=
 Attribute_any_ h (by rw [arm_eval_Attribute,hb])
end
def tFld(K:PySem.W.Frag)(ta:TE)(f:Str):TE:=fun σ H Q=>ta σ H fun x H1=>∃ a C dx fs v,x = .ref a∧H1 a=some (.ins C dx fs)∧Cls K C∧NoAttr K C f∧fs.lookup f=some v∧Q v H1
def sFld(K:PySem.W.Frag)(ta tv:TE)(f:Str):TS:=fun D σ H=>tv σ H fun y H1=>ta σ H1 fun x H2=>∃ a C dx fs,x = .ref a∧H2 a=some (.ins C dx fs)∧Cls K C∧NoAttr K C f∧fs.length < 1000∧
 D.nx σ (upd H2 a (.ins C dx (putF f y fs)))
def InOp(X:Cx)(op:Operator)(rd:V→V→Hp→VK→Prop):Prop :=
 ∀ (pins:List (Addr×Obj)) (s:Shared) (σ:St) (H:Hp) (x y:V) (u v:Value) (Q:VK),Inv X pins σ H s→RelV x u→RelV y v→rd x y H Q→wpAny (model X.prog X.w) X.A (inplaceOp op u v) (EP X pins σ Q) X.xe s
def sFldAug(K:PySem.W.Frag)(ta tv:TE)(rd:V→V→Hp→VK→Prop)(f:Str):TS:=fun D σ H=>ta σ H fun x H1=>∃ a C dx fs v,x = .ref a∧H1 a=some (.ins C dx fs)∧Cls K C∧NoAttr K C f∧fs.lookup f=some v∧
 tv σ H1 fun y H2=>rd v y H2 fun z H3=>∃ dx' fs',H3 a=some (.ins C dx' fs')∧fs'.length < 1000∧D.nx σ (upd H3 a (.ins C dx' (putF f z fs')))
section
variable{X:Cx}{o e value:Expr}{f:Str}{pos pos' tpos:Pos}{ta tv:TE}
theorem pe_fld(he:PE X e ta)(hb:attributeBase e f X.env (eval e X.env)=eval e X.env):PE X (.Attribute e f pos) (tFld X.K ta f):=by
 intro pins s σ H Q I h
 refine attr_of hb (thn (he pins s σ H _ I h) fun u s1 ⟨x,H1,I1,rx,a,C,dx,fs,v,ex,ea,c,n,l,q⟩=>?_)
 subst ex
 obtain rfl:u=Value.ref a:=rx
 exact getattr_ok I1 ea c n l fun u' s2 I2 ru=>⟨v,H1,I2,ru,q⟩
theorem ps_fld(ha:PE X o ta)(hv:PE X value tv)(hs:swapsWith value (some (.Attribute o f pos')) pos.line X.env=pure false):PS X (.Assign [.Attribute o f pos'] value pos) (sFld X.K ta tv f):=by
 intro pins s σ H D I h
 refine plainObj_wpAny_Assign_Attribute (thn (hv pins s σ H _ I h) fun u s1 ⟨y,H1,I1,ry,q⟩=>thn (ha pins s1 σ H1 _ I1 q) fun ov s2 ⟨x,H2,I2,rx,a,C,dx,fs,ex,ea,c,n,l,q2⟩=>?_) hs
 subst ex
 obtain rfl:ov=Value.ref a:=rx
 exact setattr_ok I2 ea c n l ry fun s3 I3=>⟨σ,_,I3,q2⟩
theorem ps_fldaug{op:Operator}{rd:V→V→Hp→VK→Prop}(ha:PE X o ta)(hv:PE X value tv)(hop:InOp X op rd):PS X (.AugAssign (.Attribute o f tpos) op value pos) (sFldAug X.K ta tv rd f):=by
 intro pins s σ H D I h
 refine wpAny_AugAssign_AttributeAny (thn (ha pins s σ H _ I h) fun ov s1 ⟨x,H1,I1,rx,a,C,dx,fs,v,ex,ea,c,n,l,q⟩=>?_)
 subst ex
 obtain rfl:ov=Value.ref a:=rx
 refine getattr_ok I1 ea c n l fun u s2 I2 ru=>thn (hv pins s2 σ H1 _ I2 q) fun w3 s3 ⟨y,H2,I3,ry,q3⟩=>thn (hop pins s3 σ H2 v y u w3 _ I3 ru ry q3) fun w4 s4 ⟨z,H3,I4,rz,dx',fs',ea',l',q4⟩=>?_
 exact setattr_ok I4 ea' c n l' rz fun s5 I5=>⟨σ,_,I5,q4⟩
def rAdd:V→V→Hp→VK→Prop:=fun x y H Q=>∃ i j,x = .int i∧y = .int j∧Q (.int (i + j)) H
theorem in_add:InOp X .Add rAdd:=by
 rintro pins s σ H x y u v Q I rx ry ⟨i,j,rfl,rfl,q⟩
 obtain ⟨t,rfl⟩:=(show ∃ t,u=Value.int i t from rx)
 obtain ⟨t',rfl⟩:=(show ∃ t',v=Value.int j t' from ry)
 exact PyProof.Rows.iadd_int ⟨.int (i + j),H,I.tok _,⟨_,rfl⟩,q⟩
theorem methcall_of{pl:Sem Bool}{m:Str}{apos:Pos}{args:List Expr}{pins:List (Addr×Obj)}{s:Shared}{σ:St}{H:Hp}{Q:Value→Shared→Prop}{te:TE}(he:PE X e te)(I:Inv X pins σ H s)
  (h:te σ H fun x H1=>∃ a C dx fs g,x = .ref a∧H1 a=some (.ins C dx fs)∧Cls X.K C∧Meth X.K C m g∧fs.lookup m=none∧
   ∀ s1,Inv X pins σ H1 s1→wpAny (model X.prog X.w) X.A (callWith pos (.ref g) [.ref a] (backTo pos (starEach args X.env)) (backToKw pos (keywordEach [] X.env))) Q X.xe s1)
  (ht:eval (.Call (.Attribute e m apos) args [] pos) X.env=(do
   let ov ← eval e X.env
   standAt apos.atName
   let (f,first) ← holding [ov] (getMethod ov m pl)
   callWith pos f first (backTo pos (starEach args X.env)) (backToKw pos (keywordEach [] X.env)))) :
  wpAny (model X.prog X.w) X.A (eval (.Call (.Attribute e m apos) args [] pos) X.env) Q X.xe s:=by
 refine PySem.W.methodCall_KW (pl:=pl) (thn (he pins s σ H _ I h) fun u s1 ⟨x,H1,I1,rx,a,C,dx,fs,g,ex,ea,c,k,l,q⟩=>?_) ht
 subst ex
 obtain rfl:u=Value.ref a:=rx
 exact getmeth_ok I1 ea c k l (q s1 I1)
end
end L2
namespace L2
open PySem PySem.Spec PyProof.Rows
structure Room(k:Nat)(A:Around):Prop where
 hd:A.handled=none
 dp:A.depth + k + 5 < recursionLimit
 un:A.units + 16 * k + 200 < cLine
theorem Room.mono{j k:Nat}{A:Around}(r:Room k A)(h:j≤k):Room j A:=⟨r.hd,by have:=r.dp;omega,by have:=r.un;omega⟩
theorem Room.deeper{k:Nat}{A:Around}(r:Room (k + 1) A)(env:Env):Room k (A.deeper env) :=
 ⟨r.hd,by have:=r.dp;show A.depth + 1 + k + 5 < _;omega,by have:=r.un;show A.units + 3 + 16 * k + 200 < _;omega⟩
theorem make_depth{A:Around}{C:Addr}{us:List Value}{kw:List (Str×Value)}:(A.under (.builtin "type.__call__" ⟨.ref C::us,kw⟩)).depth=A.depth + 1:=by
 first | rfl | simp [Around.under,Code.weight,Code.isCreation,Code.isGuard,Code.isCaller,Code.frames,Code.isFrame,guardIds]
theorem make_units{A:Around}{C:Addr}{us:List Value}{kw:List (Str×Value)}:(A.under (.builtin "type.__call__" ⟨.ref C::us,kw⟩)).units=A.units + 1:=by
 first | rfl | simp [Around.under,Code.cUnits,Code.frames,Code.isFrame]
theorem Room.make{k:Nat}{A:Around}(r:Room (k + 1) A)(C:Addr)(us:List Value)(kw:List (Str×Value)):Room k (A.under (.builtin "type.__call__" ⟨.ref C::us,kw⟩)) :=
 ⟨r.hd,by have:=r.dp;rw [make_depth];omega,by have:=r.un;rw [make_units];omega⟩
theorem Room.depth{k:Nat}{A:Around}(r:Room k A):A.depth < recursionLimit:=by have:=r.dp;omega
theorem Room.units{k:Nat}{A:Around}(r:Room k A):A.units + 64 < cLine:=by have:=r.un;omega
def tNil:TA:=fun _ H Q=>Q [] H
def tCons(ta:TE)(tr:TA):TA:=fun σ H Q=>ta σ H fun x H1=>tr σ H1 fun xs H2=>Q (x::xs) H2
section
variable{X:Cx}{e:Expr}{es:List Expr}{te:TE}{t:TA}{pos:Pos}
theorem pa_nil:PA X [] tNil:=fun _ _ _ _ H Q I h=>Calls.spliced_nil ⟨[],H,I,.nil,h⟩
theorem pa_cons(ha:PE X e te)(hr:PA X es t)(hs:starEach (e::es) X.env=(false,eval e X.env)::starEach es X.env:=by rfl):PA X (e::es) (tCons te t):=by
 intro pos pins s σ H Q I h
 rw [hs]
 show wpAny _ _ (spliced ((false,eval e X.env)::backTo pos (starEach es X.env))) _ _ s
 refine Calls.spliced_cons (thn (ha pins s σ H _ I h) fun u s1 ⟨x,H1,I1,r1,q1⟩=>?_)
 exact thn (hr pos pins s1 σ H1 _ I1 q1) fun us s2 ⟨xs,H2,I2,r2,q2⟩=>⟨x::xs,H2,I2,.cons r1 r2,q2⟩
def tTup(t:TA):TE:=fun σ H Q=>t σ H fun xs H1=>xs.length≤sizeLine∧∀ p,H1 p=none→Q (.ref p) (upd H1 p (.tup xs))
def tLst(t:TA):TE:=fun σ H Q=>t σ H fun xs H1=>xs.length≤sizeLine∧∀ p,H1 p=none→Q (.ref p) (upd H1 p (.lst xs))
theorem pe_tup{x1}(h:PA X es t):PE X (.Tuple es x1 pos) (tTup t):=by
 intro pins s σ H Q I hq
 refine wpAny_Tuple_spliced (thn (h pos pins s σ H _ I hq) fun us s1 ⟨xs,H1,I1,r,z,q⟩=>⟨by rw [← r.length];exact z,?_⟩)
 have hf:H1 s1.heap.objs.size=none:=I1.hok.fresh (Nat.le_refl _)
 refine ⟨.ref s1.heap.objs.size,upd H1 s1.heap.objs.size (.tup xs),I1.laid (t':=s1.toks) (fun b u e=>Heap.get?_push_of_some _ e) (Nat.le_refl _) ?_,rfl,q _ hf⟩
 exact ⟨z,us,r,⟨_,Heap.get?_push_size _ rfl,rfl,_,rfl⟩⟩
theorem pe_lst(h:PA X es t):PE X (.List es pos) (tLst t):=by
 intro pins s σ H Q I hq
 refine wpAny_List_spliced (thn (h pos pins s σ H _ I hq) fun us s1 ⟨xs,H1,I1,r,z,q⟩=>⟨by rw [← r.length];exact z,?_⟩)
 have hf:H1 s1.heap.objs.size=none:=I1.hok.fresh (Nat.le_refl _)
 refine ⟨.ref s1.heap.objs.size,upd H1 s1.heap.objs.size (.lst xs),I1.laid (t':=s1.toks) (fun b u e=>Heap.get?_push_of_some _ e) (Nat.le_refl _) ?_,rfl,q _ hf⟩
 exact ⟨z,us,0,r,Heap.get?_push_size _ rfl⟩
end
abbrev Sp:=List V→Hp→VK→XK→Prop
abbrev CXT:=List Env→Hp→Shared→XK→Value→Shared→Prop
structure Env0(P:Program)(w:World)(K:PySem.W.Frag)(mg:Str→Option Value)(base:Heap)(A:Around)(outer:List Env)(s:Shared)(H:Hp):Prop where
 frames:A.frames=some outer
 mod:Mod K mg base
 bs:∀ b o,base.get? b=some o→s.heap.get? b=some o∧H b=none
 bsz:base.objs.size≤s.heap.objs.size
 funs:s.heap.FunFrames base outer
 frf:∀ b∈frs outer,H b=none
 hok:HOk P w H s.heap
 bare:AllBare s.gens
def CE(outer:List Env)(P:Program)(w:World)(H:Hp)(s:Shared)(Q:VK)(u:Value)(s':Shared):Prop :=
 ∃ v H',s'.os=s.os∧AllBare s'.gens∧Un (frs outer) [] H H' s.heap s'.heap∧HOk P w H' s'.heap∧RelV v u∧Q v H'
def CR(CX:CXT)(outer:List Env)(P:Program)(w:World)(H:Hp)(s:Shared)(Q:VK)(E:XK)(r:Result)(s':Shared):Prop :=
 match r with
 | .ok (.ret u)=>CE outer P w H s Q u s'
 | .ok _=>False
 | .error e=>CX outer H s E e s'
structure FnOk(P:Program)(w:World)(K:PySem.W.Frag)(mg:Str→Option Value)(base:Heap)(CX:CXT)(k:Nat)(f:Addr)(fd:FuncData)(ps:List Str)(sp:Sp):Prop where
 len:∀ vs H Q E,sp vs H Q E→vs.length=ps.length
 run:∀ (A:Around) (outer:List Env) (s:Shared) (H:Hp) (args:Args) (us:List Value) (vs:List V) (Q:VK) (E:XK),Room k A→Env0 P w K mg base A outer s H→BindsTo s fd args (ps.zip us)→Vals vs us→sp vs H Q E→
  codeAny (model P w) A (.call (.ref f) args) (CR CX outer P w H s Q E) s
theorem Env0.make{P:Program}{w:World}{K:PySem.W.Frag}{mg:Str→Option Value}{base:Heap}{A:Around}{outer:List Env}{s:Shared}{H:Hp}(e:Env0 P w K mg base A outer s H)(C:Addr)(us:List Value)(kw:List (Str×Value)) :
  Env0 P w K mg base (A.under (.builtin "type.__call__" ⟨.ref C::us,kw⟩)) outer s H:=⟨by first | exact e.frames | (simpa [Around.under,Code.envs,Code.isFrame,pushEnvs] using e.frames),e.mod,e.bs,e.bsz,e.funs,e.frf,e.hok,e.bare⟩
section
variable{X:Cx}{pins:List (Addr×Obj)}{σ:St}{H:Hp}{s s':Shared}
theorem Inv.env0(I:Inv X pins σ H s):Env0 X.prog X.w X.K X.mg X.base X.A X.stack s H :=
 ⟨I.ok.frames,I.ok.mod,I.bs,Nat.le_trans I.ok.bsz I.sz,I.stack,I.stkFree,I.hok,I.bare⟩
theorem Inv.after{Q:VK}{u:Value}(I:Inv X pins σ H s)(h:CE X.stack X.prog X.w H s Q u s'):EP X pins σ Q u s':=by
 obtain ⟨v,H',os,bare,un,hok,r,q⟩:=h
 obtain ⟨hh,g,d,t,os'⟩:=s'
 obtain rfl:os'=s.os:=os
 exact ⟨v,H',I.call (h':=hh) (g':=g) (d':=d) (t':=t) (ch:=[]) un hok bare (fun b z=>absurd z (by simp)),r,q⟩
end
def tCall(sp:Sp)(dvs:List V)(E:XK)(t:TA):TE:=fun σ H Q=>t σ H fun vs H1=>sp (vs ++ dvs) H1 Q E
def tMeth(C:Addr)(m:Str)(sp:Sp)(dvs:List V)(E:XK)(ta:TE)(t:TA):TE:=fun σ H Q=>ta σ H fun x H1=>∃ a dx fs,x = .ref a∧H1 a=some (.ins C dx fs)∧fs.lookup m=none∧
 t σ H1 fun vs H2=>sp (x::(vs ++ dvs)) H2 Q E
def tMake(C:Addr)(sp:Sp)(dvs:List V)(E:XK)(t:TA):TE:=fun σ H Q=>t σ H fun vs H1=>∀ x dx,H1 x=none→H1 dx=none→dx≠x→
 sp (.ref x::(vs ++ dvs)) (upd (upd H1 dx (.own x)) x (.ins C dx [])) (fun v H2=>v = .non∧Q (.ref x) H2) E
def Binds(K:PySem.W.Frag)(fd:FuncData)(ps:List Str)(ds:List Value):Prop :=
 ∀ (s:Shared) (us:List Value),K.In s.heap→(us ++ ds).length=ps.length→BindsTo s fd ⟨us,[]⟩ (ps.zip (us ++ ds))
theorem Binds.all{K:PySem.W.Frag}{fd:FuncData}{ps:List Str}(h:∀ us:List Value,us.length=ps.length→bindArgs fd ⟨us,[]⟩=pure (ps.zip us)):Binds K fd ps []:=fun s us _ hl=>by
 rw [List.append_nil] at hl ⊢
 exact .of_eq (h us hl)
def Passes(CX:CXT)(X:Cx)(E:XK):Prop:=∀ (pins:List (Addr×Obj)) (σ:St) (H:Hp) (s:Shared) (e:Value) (s':Shared),Inv X pins σ H s→CX X.stack H s E e s'→X.xe e s'
section
variable{X:Cx}{CX:CXT}{k:Nat}{f C:Addr}{fd:FuncData}{ps:List Str}{sp:Sp}{dvs:List V}{ds:List Value}{E:XK}{x m:Str}{p pos apos:Pos}{e o:Expr}{es:List Expr}{ta:TE}{t:TA}
theorem run_fn{pins:List (Addr×Obj)}{σ:St}{H:Hp}{s:Shared}{Q:VK}{us:List Value}{vs:List V}(F:FnOk X.prog X.w X.K X.mg X.base CX k f fd ps sp)(hr:Room k X.A)(hb:Binds X.K fd ps ds)(hd:Vals dvs ds)(hx:Passes CX X E)
  (I:Inv X pins σ H s) (r:Vals vs us) (h:sp (vs ++ dvs) H Q E):wpAny (model X.prog X.w) X.A (call (.ref f) us) (EP X pins σ Q) X.xe s:=by
 have r2:Vals (vs ++ dvs) (us ++ ds):=r.append hd
 have hl:(us ++ ds).length=ps.length:=by rw [← r2.length];exact F.len _ _ _ _ h
 refine wpAny_call (codeAny_mono (F.run X.A X.stack s H ⟨us,[]⟩ (us ++ ds) (vs ++ dvs) Q E hr I.env0 (hb s us I.kIn hl) r2 h) fun r s' hq=>?_)
 cases r with
 | error e=>exact hx pins σ H s e s' I hq
 | ok fl =>
  cases fl with
  | ret u=>exact I.after hq
  | next=>exact False.elim hq
  | brk=>exact False.elim hq
  | cont=>exact False.elim hq
theorem pe_call(F:FnOk X.prog X.w X.K X.mg X.base CX k f fd ps sp)(hr:Room k X.A)(hg:Gl X x)(hm:X.mg x=some (.ref f))(hk:PySem.W.keepIn X.K (.ref f)=true)(hb:Binds X.K fd ps ds)(hd:Vals dvs ds)(hx:Passes CX X E)
  (ha:PA X (e::es) t) (hdb:(x == ("__debug__":Str))=false:=by decide) (he:starEach (e::es) X.env=(false,eval e X.env)::starEach es X.env:=by rfl) (hpl:(backTo pos (starEach es X.env)).any (·.1)=false:=by rfl) :
  PE X (.Call (.Name x p) (e::es) [] pos) (tCall sp dvs E t):=by
 intro pins s σ H Q I h
 refine wpAny_Call_Name_kw (ld_glob I hg hm ?_ hdb)
 refine PySem.W.callWith_K (h₀:=X.base) I.ok.mod.kin hk (thn (ha pos pins s σ H _ I h) fun us s1 ⟨vs,H1,I1,r,q⟩=>⟨I1.kIn,?_⟩) he hpl
 exact run_fn F hr hb hd hx I1 r q
theorem pe_meth{pl:Sem Bool}(he:PE X o ta)(c:Cls X.K C)(hm:Meth X.K C m f)(F:FnOk X.prog X.w X.K X.mg X.base CX k f fd ps sp)(hr:Room k X.A)(hb:Binds X.K fd ps ds)(hd:Vals dvs ds)(hx:Passes CX X E)(ha:PA X (e::es) t)
  (hst:starEach (e::es) X.env=(false,eval e X.env)::starEach es X.env:=by rfl) (hpl:(backTo pos (starEach es X.env)).any (·.1)=false:=by rfl)
  (ht:eval (.Call (.Attribute o m apos) (e::es) [] pos) X.env=(do
   let ov ← eval o X.env
   standAt apos.atName
   let (f,first) ← holding [ov] (getMethod ov m pl)
   callWith pos f first (backTo pos (starEach (e::es) X.env)) (backToKw pos (keywordEach [] X.env))):=by rfl) :
  PE X (.Call (.Attribute o m apos) (e::es) [] pos) (tMeth C m sp dvs E ta t):=by
 intro pins s σ H Q I h
 refine PySem.W.methodCall_KW (pl:=pl) (thn (he pins s σ H _ I h) fun u s1 ⟨x,H1,I1,rx,a,dx,fs,ex,ea,l,q⟩=>?_) ht
 subst ex
 obtain rfl:u=Value.ref a:=rx
 refine getmeth_ok I1 ea c hm l ?_
 refine PySem.W.callWith_K (first:=[.ref a]) (h₀:=X.base) I.ok.mod.kin hm.kp (thn (ha pos pins s1 σ H1 _ I1 q) fun us s2 ⟨vs,H2,I2,r,q2⟩=>⟨I2.kIn,?_⟩) hst hpl
 exact run_fn (us:=.ref a::us) (vs:=.ref a::vs) F hr hb hd hx I2 (.cons rfl r) q2
theorem pe_meth0{pl:Sem Bool}(he:PE X o ta)(c:Cls X.K C)(hm:Meth X.K C m f)(F:FnOk X.prog X.w X.K X.mg X.base CX k f fd ps sp)(hr:Room k X.A)(hb:Binds X.K fd ps ds)(hd:Vals dvs ds)(hx:Passes CX X E)
  (ht:eval (.Call (.Attribute o m apos) [] [] pos) X.env=(do
   let ov ← eval o X.env
   standAt apos.atName
   let (f,first) ← holding [ov] (getMethod ov m pl)
   callWith pos f first (backTo pos (starEach [] X.env)) (backToKw pos (keywordEach [] X.env))):=by rfl) :
  PE X (.Call (.Attribute o m apos) [] [] pos) (tMeth C m sp dvs E ta tNil):=by
 intro pins s σ H Q I h
 refine PySem.W.methodCall_KW (pl:=pl) (thn (he pins s σ H _ I h) fun u s1 ⟨x,H1,I1,rx,a,dx,fs,ex,ea,l,q⟩=>?_) ht
 subst ex
 obtain rfl:u=Value.ref a:=rx
 refine getmeth_ok I1 ea c hm l ?_
 exact PySem.W.callWith_K0 (first:=[.ref a]) I1.kIn hm.kp (run_fn (us:=[.ref a]) (vs:=[.ref a]) F hr hb hd hx I1 (.cons rfl .nil) q)
structure Mk(K:PySem.W.Frag)(C f:Addr):Prop where
 makes:PySem.W.makesIn K C=true
 init:PySem.W.findIn K (.ref C) "__init__"=some (some (.ref f))
 fn:PySem.W.isFn K (.ref f)=true
 kp:PySem.W.keepIn K (.ref C)=true
theorem run_make{pins:List (Addr×Obj)}{σ:St}{H:Hp}{s:Shared}{Q:VK}{us:List Value}{vs:List V}(M:Mk X.K C f)(F:FnOk X.prog X.w X.K X.mg X.base CX k f fd ps sp)(hr:Room (k + 1) X.A)(hb:Binds X.K fd ps ds)(hd:Vals dvs ds)
  (hx:Passes CX X E) (I:Inv X pins σ H s) (r:Vals vs us)
  (h:∀ x dx,H x=none→H dx=none→dx≠x→sp (.ref x::(vs ++ dvs)) (upd (upd H dx (.own x)) x (.ins C dx [])) (fun v H2=>v = .non∧Q (.ref x) H2) E) :
  wpAny (model X.prog X.w) X.A (call (.ref C) us) (EP X pins σ Q) X.xe s:=by
 have hq:=h (s.heap.objs.size + 1) s.heap.objs.size (I.hok.fresh (Nat.le_succ _)) (I.hok.fresh (Nat.le_refl _)) (Nat.ne_of_lt (Nat.lt_succ_self _))
 have I2:=Inv.made (C:=C) I
 have r2:Vals (V.ref (s.heap.objs.size + 1)::(vs ++ dvs)) (Value.ref (s.heap.objs.size + 1)::(us ++ ds)):=.cons rfl (r.append hd)
 have hl:(Value.ref (s.heap.objs.size + 1)::us ++ ds).length=ps.length:=by
  have e:=r2.length
  rw [F.len _ _ _ _ hq] at e
  exact e.symm
 refine wpAny_call (make_map (f:=f) I.kIn M.makes M.init (beq_iff_eq.mp M.fn) (codeAny_mono (F.run _ X.stack _ _ ⟨Value.ref (s.heap.objs.size + 1)::us,[]⟩ (Value.ref (s.heap.objs.size + 1)::(us ++ ds)) _ _ E (hr.make C us [])
  (I2.env0.make C us []) (hb _ (Value.ref (s.heap.objs.size + 1)::us) I2.kIn hl) r2 hq) fun r s' hq'=>?_))
 cases r with
 | error e=>exact hx pins σ _ _ e s' I2 hq'
 | ok fl =>
  cases fl with
  | ret u =>
   obtain ⟨v,H',I3,rv,ev,q3⟩:=I2.after hq'
   subst ev
   exact ⟨rv,⟨V.ref (s.heap.objs.size + 1),H',I3,rfl,q3⟩⟩
  | next=>exact False.elim hq'
  | brk=>exact False.elim hq'
  | cont=>exact False.elim hq'
theorem pe_make(M:Mk X.K C f)(F:FnOk X.prog X.w X.K X.mg X.base CX k f fd ps sp)(hr:Room (k + 1) X.A)(hg:Gl X x)(hm:X.mg x=some (.ref C))(hb:Binds X.K fd ps ds)(hd:Vals dvs ds)(hx:Passes CX X E)
  (ha:PA X (e::es) t) (hdb:(x == ("__debug__":Str))=false:=by decide) (he:starEach (e::es) X.env=(false,eval e X.env)::starEach es X.env:=by rfl) (hpl:(backTo pos (starEach es X.env)).any (·.1)=false:=by rfl) :
  PE X (.Call (.Name x p) (e::es) [] pos) (tMake C sp dvs E t):=by
 intro pins s σ H Q I h
 refine wpAny_Call_Name_kw (ld_glob I hg hm ?_ hdb)
 refine PySem.W.callWith_K (h₀:=X.base) I.ok.mod.kin M.kp (thn (ha pos pins s σ H _ I h) fun us s1 ⟨vs,H1,I1,r,q⟩=>⟨I1.kIn,?_⟩) he hpl
 exact run_make M F hr hb hd hx I1 r q
end
structure FnScope(N P:List Str)(sc:Scope):Prop where
 kind:sc.kind = .function
 co:sc.isCoroutine=false
 gen:sc.isGenerator=false
 nd:N.Nodup
 pre:N.take P.length=P
 par:∀ x∈P,sc.names.lookup x=some .local∨sc.names.lookup x=some .cell
 nofree:∀ y∈sc.names,y.2≠.free
theorem bindL_out{kindOf:Str→Option NameKind}{x:Str}:∀ {binds:List (Str×Value)} {m:Str→Option Value},(∀ v,(x,v)∉binds)→bindL kindOf binds m x=m x
 | [],_,_=>rfl
 | (n,v)::r,m,h=>by
  unfold bindL
  rw [bindL_out fun w hw=>h w (List.mem_cons_of_mem _ hw)]
  split
  ·have:x≠n:=by rintro rfl;exact h v List.mem_cons_self
   simp [this]
  ·rfl
theorem bindC_out{kindOf:Str→Option NameKind}{x:Str}:∀ {binds:List (Str×Value)} {m:Str→Option Value},(∀ v,(x,v)∉binds)→bindC kindOf binds m x=m x
 | [],_,_=>rfl
 | (n,v)::r,m,h=>by
  unfold bindC
  rw [bindC_out fun w hw=>h w (List.mem_cons_of_mem _ hw)]
  split
  ·rfl
  ·have:x≠n:=by rintro rfl;exact h v List.mem_cons_self
   simp [this]
theorem bindL_get{kindOf:Str→Option NameKind}{x:Str}{v:Value}:∀ {P:List Str} {vs:List Value} {i:Nat} {m:Str→Option Value},P.Nodup→P[i]? = some x→vs[i]? = some v→kindOf x=some .local→
  bindL kindOf (P.zip vs) m x=some v
 | [],_,_,_,_,h,_,_=>by simp at h
 | _::_,[],_,_,_,_,h,_=>by simp at h
 | p::P,w::vs,0,m,nd,h1,h2,hk=>by
  simp at h1 h2;subst h1;subst h2
  show bindL kindOf ((p,w)::P.zip vs) m p=_
  unfold bindL
  rw [bindL_out fun v hv=>(List.nodup_cons.mp nd).1 (List.of_mem_zip hv).1,if_pos hk]
  simp
 | p::P,w::vs,i + 1,m,nd,h1,h2,hk=>by
  show bindL kindOf ((p,w)::P.zip vs) m x=_
  unfold bindL
  exact bindL_get (i:=i) (List.nodup_cons.mp nd).2 (by simpa using h1) (by simpa using h2) hk
theorem bindC_get{kindOf:Str→Option NameKind}{x:Str}{v:Value}:∀ {P:List Str} {vs:List Value} {i:Nat} {m:Str→Option Value},P.Nodup→P[i]? = some x→vs[i]? = some v→kindOf x≠some .local→
  bindC kindOf (P.zip vs) m x=some v
 | [],_,_,_,_,h,_,_=>by simp at h
 | _::_,[],_,_,_,_,h,_=>by simp at h
 | p::P,w::vs,0,m,nd,h1,h2,hk=>by
  simp at h1 h2;subst h1;subst h2
  show bindC kindOf ((p,w)::P.zip vs) m p=_
  unfold bindC
  rw [bindC_out fun v hv=>(List.nodup_cons.mp nd).1 (List.of_mem_zip hv).1,if_neg hk]
  simp
 | p::P,w::vs,i + 1,m,nd,h1,h2,hk=>by
  show bindC kindOf ((p,w)::P.zip vs) m x=_
  unfold bindC
  exact bindC_get (i:=i) (List.nodup_cons.mp nd).2 (by simpa using h1) (by simpa using h2) hk
def start(N:List Str)(vs:List V):St:=vs.map some ++ List.replicate (N.length - vs.length) none
def cxOf(CX:CXT)(P:Program)(w:World)(K:PySem.W.Frag)(mg:Str→Option Value)(base:Heap)(N:List Str)(qual:Str)(scope:Scope)(f:Addr)(cd:Value)(A:Around)(outer:List Env)(s:Shared)(H:Hp)(E:XK):Cx where
 prog:=P
 w:=w
 K:=K
 mg:=mg
 base:=base
 A:=A.deeper (envOfC qual scope s.heap.objs.size f cd)
 N:=N
 s_0:=s
 H_0:=H
 env:=envOfC qual scope s.heap.objs.size f cd
 outer:=outer
 stack:=envOfC qual scope s.heap.objs.size f cd::outer
 ex:=[]
 calm:=true
 fn:=fun _=>true
 pn:=[]
 xe:=fun e s'=>wpAny (model P w) (A.deeper (envOfC qual scope s.heap.objs.size f cd)) (leaving (envOfC qual scope s.heap.objs.size f cd) e) (fun _ s''=>CX outer H s E e s'') (fun e' s''=>CX outer H s E e' s'') s'
theorem cell_has{sc:Scope}{n:Nat}{x:Str}(h:sc.names.lookup x=some .cell):∃ c,(cellsFrom n sc.names []).lookup x=some c:=by
 have q:=PySem.W.cellsFrom_some sc.names n [] (.inl h)
 exact Option.isSome_iff_exists.mp q
theorem inv_start{CX:CXT}{P:Program}{w:World}{K:PySem.W.Frag}{mg:Str→Option Value}{base:Heap}{N ps:List Str}{qual:Str}{scope:Scope}{f:Addr}{cd:Value}{A:Around}{outer:List Env}{s s1:Shared}{H:Hp}{E:XK}{us:List Value}{vs:List V}
  (S:FnScope N ps scope) (hd:A.handled=none) (e0:Env0 P w K mg base A outer s H) (hl:vs.length=ps.length) (r:Vals vs us)
  (x:InCallC s s.heap.objs.size (bindL (envOfC qual scope s.heap.objs.size f cd).kindOf (ps.zip us) fun _=>none) (cellsFrom (s.heap.objs.size + 1) scope.names []) (bindC (envOfC qual scope s.heap.objs.size f cd).kindOf (ps.zip us) fun _=>none) s1) :
  Inv (cxOf CX P w K mg base N qual scope f cd A outer s H E) [] (start N vs) H s1:=by
 have hpl:ps.length≤N.length:=by have:=congrArg List.length S.pre;rw [List.length_take] at this;omega
 obtain ⟨h1,tk,rfl,hk⟩:=x.done
 have noA:∀ b:Addr,b∉(cxOf CX P w K mg base N qual scope f cd A outer s H E).ex:=fun b z=>absurd (show b∈([]:List Addr) from z) (by simp)
 refine ⟨⟨e0.mod,S.kind,rfl,rfl,Nat.le_refl _,fun y z c h1 h2=>?_,fun y hy=>?_,fun y c _ h=>?_,fun _=>hd,Around.frames_deeper e0.frames,.inr ⟨rfl,rfl⟩,fun b z=>absurd z (noA b),e0.bs,e0.bsz,fun b _ _=>noA b,fun b z=>absurd z (noA b),e0.funs,e0.frf⟩,
  rfl,e0.bare,Un.kept hk,⟨_,x.toInCall.ns,fun i y v h1 h2 h3=>?_⟩,fun y c h=>⟨_,x.cell y c h⟩,e0.hok.fresh (Nat.le_refl _),fun y c h=>?_,fun p hp=>absurd (show p∈([]:List (Addr×Obj)) from hp) (by simp),e0.hok.kept hk,?_⟩
 ·exact name_of_addr x.apart (PySem.mem_of_lookup h1) (PySem.mem_of_lookup h2)
 ·have hy:scope.names.lookup y=some .cell∨scope.names.lookup y=some .free:=hy
  rcases hy with hy | hy
  ·exact cell_has hy
  ·exact absurd rfl (S.nofree _ (PySem.mem_of_lookup hy))
 ·exact Nat.le_of_lt (x.above y c (PySem.mem_of_lookup h))
 ·have hi:i < vs.length:=by
   unfold start at h2
   by_cases hi:i < vs.length
   ·exact hi
   ·rw [List.getElem?_append_right (by simpa using hi)] at h2
    rw [List.getElem?_replicate] at h2
    split at h2 <;> cases h2
  have ha:vs[i]? = some v:=by
   unfold start at h2
   rw [List.getElem?_append_left (by simpa using hi),List.getElem?_map] at h2
   cases e:vs[i]? with
   | none=>rw [e] at h2;cases h2
   | some a=>rw [e] at h2;cases h2;rfl
  obtain ⟨u,hu,rv⟩:=r.get ha
  have hp:ps[i]? = some y:=by
   rw [← S.pre,List.getElem?_take_of_lt (by omega)];exact h1
  have ndP:ps.Nodup:=by rw [← S.pre];exact S.nd.sublist (List.take_sublist _ _)
  refine ⟨u,rv,?_⟩
  rcases S.par y (List.mem_of_getElem? hp) with k | k
  ·exact .inl ⟨k,bindL_get ndP hp hu k⟩
  ·obtain ⟨c,e⟩:=cell_has (n:=s.heap.objs.size + 1) k
   refine .inr ⟨.inl k,c,e,?_⟩
   have q:=x.cell y c e
   rw [bindC_get ndP hp hu (by show scope.names.lookup y≠_;rw [k];decide)] at q
   exact q
 ·exact e0.hok.fresh (Nat.le_of_lt (x.above y c (PySem.mem_of_lookup h)))
 ·unfold start
  show _=N.length
  rw [List.length_append,List.length_map,List.length_replicate]
  omega
theorem fn_of{CX:CXT}{P:Program}{w:World}{K:PySem.W.Frag}{mg:Str→Option Value}{base:Heap}{k:Nat}{f:Addr}{name qual:Str}{params:Arguments}{body:List Stmt}{scope:Scope}{dV kV doc pm cdv ct oc:Value}{an od:Option Addr}
  {osl:Array (Option Value)} {N ps:List Str} {sp:Sp} (lk:K.lookup f=some ⟨oc,od,.func (PySem.W.fnOf name qual params body scope dV kV doc pm an cdv ct),osl⟩) (hcd:PySem.W.codeIn K cdv qual=true) (S:FnScope N ps scope)
  (len:∀ vs H Q E,sp vs H Q E→vs.length=ps.length)
  (hbody:∀ (A:Around) (outer:List Env) (s:Shared) (H:Hp) (vs:List V) (Q:VK) (E:XK),Room k (A.deeper (envOfC qual scope s.heap.objs.size f cdv))→sp vs H Q E→
   ∃ t,PSs (cxOf CX P w K mg base N qual scope f cdv A outer s H E) body t∧t { nx:=fun _ H'=>Q .non H',rt:=Q } (start N vs) H) :
  FnOk P w K mg base CX (k + 1) f (PySem.W.fnOf name qual params body scope dV kV doc pm an cdv ct) ps sp:=by
 refine ⟨len,fun A outer s H args us vs Q E hr e0 hb r hsp=>?_⟩
 have hl:=len _ _ _ _ hsp
 have KX:K.In s.heap:=e0.mod.kin.keeps fun b o e=>(e0.bs b o e).1
 have lim:s.heap.NoLimit:=e0.mod.nolimit.keeps fun b o e=>(e0.bs b o e).1
 have hkind:∀ y∈ps.zip us,scope.names.lookup y.1=some .local∨(scope.names.lookup y.1=some .cell∧((cellsFrom (s.heap.objs.size + 1) scope.names []).lookup y.1).isSome=true):=fun ⟨n,v⟩ hy=>by
  rcases S.par n (List.of_mem_zip hy).1 with q | q
  ·exact .inl q
  ·exact .inr ⟨q,PySem.W.cellsFrom_some _ _ _ (.inl q)⟩
 refine codeAny_call_function hr.depth (KX _ _ lk) rfl S.co S.gen rfl (PySem.W.codeRec_of KX hcd) (hb _ _ _ _ ?_)
 refine wpAny_newFunctionEnv_cells S.kind hkind fun env he s1 x=>?_
 subst he
 refine ⟨lim.keeps x.toInCall.keep,codeAny_func ?_⟩
 obtain ⟨t,ht,hq⟩:=hbody A outer s H vs Q E (hr.deeper _) hsp
 have I:Inv (cxOf CX P w K mg base N qual scope f cdv A outer s H E) [] (start N vs) H s1:=inv_start S hr.hd e0 hl r x
 refine wpAny_mono (ht [] s1 (start N vs) H _ I hq) (fun fl s' hs=>?_) fun e s' hs=>hs
 have fin:∀ {σ':St} {H':Hp} {v:V} {u:Value},Inv (cxOf CX P w K mg base N qual scope f cdv A outer s H E) [] σ' H' s'→RelV v u→Q v H'→CE outer P w H s Q u s' :=
  fun {σ' H' v u} J rv q=>⟨v,H',J.os,J.bare,J.base,J.hok,rv,q⟩
 cases fl with
 | ret u =>
  obtain ⟨v,σ',H',J,rv,q⟩:=hs
  exact fin J rv q
 | next =>
  obtain ⟨σ',H',J,q⟩:=hs
  exact fin (v:=V.non) (u:=Value.none) J rfl q
 | brk =>
  obtain ⟨_,_,_,q⟩:=hs
  exact False.elim q
 | cont =>
  obtain ⟨_,_,_,q⟩:=hs
  exact False.elim q
end L2
namespace L2
open PySem PySem.Spec PyProof.Rows
section
variable{X:Cx}{x:Str}{p pos:Pos}{e:Expr}{es:List Expr}{t:TA}{id T:String}{r:List V→Hp→VK→Prop}
def tCB(r:List V→Hp→VK→Prop)(t:TA):TE:=fun σ H Q=>t σ H fun vs H1=>r vs H1 Q
theorem pe_callB(hc:CallR X (.builtin id) r)(hg:Gl X x)(hm:X.mg x=none)(hv:bootBuiltins x=some (.builtin id))(ha:PA X (e::es) t)(hn:x≠"__name__":=by decide)(hdb:(x == ("__debug__":Str))=false:=by decide)
  (he:starEach (e::es) X.env=(false,eval e X.env)::starEach es X.env:=by rfl) (hpl:(backTo pos (starEach es X.env)).any (·.1)=false:=by rfl):PE X (.Call (.Name x p) (e::es) [] pos) (tCB r t):=by
 intro pins s σ H Q I h
 refine wpAny_Call_Name_kw (ld_blt I hg hm hv ?_ hn hdb)
 exact PyProof.Rows.callWith_builtin1 (thn (ha pos pins s σ H _ I h) fun us s1 ⟨vs,H1,I1,r1,q1⟩=>hc pins s1 σ H1 vs us Q I1 r1 q1) he hpl
theorem pe_callTy(hc:CallR X (.type T) r)(hg:Gl X x)(hm:X.mg x=none)(hv:bootBuiltins x=some (.type T))(ha:PA X (e::es) t)(hn:x≠"__name__":=by decide)(hdb:(x == ("__debug__":Str))=false:=by decide)
  (he:starEach (e::es) X.env=(false,eval e X.env)::starEach es X.env:=by rfl) (hpl:(backTo pos (starEach es X.env)).any (·.1)=false:=by rfl):PE X (.Call (.Name x p) (e::es) [] pos) (tCB r t):=by
 intro pins s σ H Q I h
 refine wpAny_Call_Name_kw (ld_blt I hg hm hv ?_ hn hdb)
 exact PyProof.Rows.callWith_type1 (thn (ha pos pins s σ H _ I h) fun us s1 ⟨vs,H1,I1,r1,q1⟩=>hc pins s1 σ H1 vs us Q I1 r1 q1) he hpl
end
end L2
namespace HT
open PySem PyProof.Rows
section
variable{prog:Program}{w:World}{A:Around}{E:Value→Shared→Prop}{s:Shared}
def sIx(n d:Nat):Option Int→Nat
 | none=>d
 | some v=>if v < 0 then (v + (n:Int)).toNat else min v.toNat n
theorem sIx_none(n d:Nat):sIx n d none=d:=rfl
theorem sIx_nat(n d k:Nat):sIx n d (some (k:Int))=min k n:=by
 show (if (k:Int) < 0 then ((k:Int) + (n:Int)).toNat else min (k:Int).toNat n)=min k n
 rw [if_neg (by omega),Int.toNat_natCast]
end
end HT
namespace L2
open PySem PySem.Spec PyProof.Rows
abbrev TO:=St→Hp→(Option Int→Hp→Prop)→Prop
def PO(X:Cx)(e:Option Expr)(t:TO):Prop :=
 ∀ (pins:List (Addr×Obj)) (s:Shared) (σ:St) (H:Hp) (Q:Option Int→Hp→Prop),Inv X pins σ H s→t σ H Q→
  wpAny (model X.prog X.w) X.A (evalPart e X.env) (fun u s'=>∃ o H',Inv X pins σ H' s'∧IsPart u o∧Q o H') X.xe s
def tNoPart:TO:=fun _ H Q=>Q none H
def tPart(t:TE):TO:=fun σ H Q=>t σ H fun x H1=>∃ i,x = .int i∧Q (some i) H1
section
variable{X:Cx}{e:Expr}{te:TE}{lo hi:Option Expr}{tl th:TO}{pos p2:Pos}
theorem po_none:PO X none tNoPart:=by
 intro pins s σ H Q I h
 rw [evalPart_none]
 exact wpAny_pure ⟨none,H,I,.none,h⟩
theorem po_some(h:PE X e te):PO X (some e) (tPart te):=by
 intro pins s σ H Q I hw
 rw [evalPart_some]
 refine thn (h pins s σ H _ I hw) fun u s1 ⟨x,H1,I1,r1,q1⟩=>?_
 obtain ⟨i,rfl,q⟩:=q1
 obtain ⟨t,rfl⟩:=r1
 exact ⟨some i,H1,I1,.int i t,q⟩
def SlR(X:Cx)(r:V→Option Int→Option Int→Hp→VK→Prop):Prop :=
 ∀ (pins:List (Addr×Obj)) (s:Shared) (σ:St) (H:Hp) (x:V) (v vl vu:Value) (lo hi:Option Int) (sl:Addr) (Q:VK),Inv X pins σ H s→RelV x v→s.heap.IsSliceOf sl vl vu .none→IsPart vl lo→IsPart vu hi→r x lo hi H Q→
  ∃ T id,typeLookup (.type T) "__getitem__"=pure (some (.builtin id))∧s.TypeIs v T∧wpAny (model X.prog X.w) X.A (getItem v (.ref sl)) (EP X pins σ Q) X.xe s
def tSl(r:V→Option Int→Option Int→Hp→VK→Prop)(te:TE)(tl th:TO):TE:=fun σ H Q=>te σ H fun x H1=>tl σ H1 fun l H2=>th σ H2 fun u H3=>r x l u H3 Q
theorem pe_slice{r:V→Option Int→Option Int→Hp→VK→Prop}(hr:SlR X r)(he:PE X e te)(hl:PO X lo tl)(hu:PO X hi th):PE X (.Subscript e (.Slice lo hi none p2) pos) (tSl r te tl th):=by
 intro pins s σ H Q I h
 refine Subscript_ (thn (he pins s σ H _ I h) fun v s1 ⟨x,H1,I1,r1,q1⟩=>?_)
 refine wpAny_Slice (thn (hl pins s1 σ H1 _ I1 q1) fun vl s2 ⟨l,H2,I2,pl,q2⟩=>thn (hu pins s2 σ H2 _ I2 q2) fun vu s3 ⟨u,H3,I3,pu,q3⟩=>?_)
 rw [evalPart_none]
 refine wpAny_pure ?_
 have I4:Inv X pins σ H3 { s3 with heap:=s3.heap.push { cls:=.type "slice",data:=.fields #[vl,vu,.none] } }:=I3.kept (t':=s3.toks) fun b ob q=>Heap.get?_push_of_some _ q
 obtain ⟨T,id,hT,ht,hg⟩:=hr pins { s3 with heap:=s3.heap.push { cls:=.type "slice",data:=.fields #[vl,vu,.none] } } σ H3 x v vl vu l u s3.heap.objs.size Q I4 r1 (Heap.IsSliceOf.new ..) pl pu q3
 show wpAny (model X.prog X.w) X.A (subscriptTail e (.Slice lo hi none p2) v (.ref s3.heap.objs.size)) (EP X pins σ Q) X.xe { s3 with heap:=s3.heap.push { cls:=.type "slice",data:=.fields #[vl,vu,.none] } }
 exact tail_any (ops:=[.ref s3.heap.objs.size,v]) ht hT hg (by with_unfolding_all rfl)
def cutV(xs:List V)(lo hi:Option Int):List V:=(xs.drop (HT.sIx xs.length 0 lo)).take (HT.sIx xs.length xs.length hi - HT.sIx xs.length 0 lo)
theorem cutV_length(xs:List V)(lo hi:Option Int):(cutV xs lo hi).length≤xs.length:=by
 unfold cutV
 rw [List.length_take,List.length_drop]
 omega
end
end L2
namespace L2
open PySem PySem.Spec PyProof.Rows
def ixN(n:Nat)(i:Int):Option Nat:=if 0≤i then (if i < n then some i.toNat else none) else if -(n:Int)≤i then some (i + n).toNat else none
def atI{α:Type}(xs:List α)(i:Int):Option α:=(ixN xs.length i).bind fun j=>xs[j]?
theorem ixN_seq{n:Nat}{i:Int}{j:Nat}(h:ixN n i=some j):seqIndex? i n=some j∧j < n∧-(n:Int)≤i∧i < n:=by
 unfold ixN at h
 by_cases h0:0≤i
 ·rw [if_pos h0] at h
  by_cases h1:i < n
  ·rw [if_pos h1] at h
   have e:i.toNat=j:=Option.some.inj h
   exact ⟨by rw [seqIndex_of h0 h1,e],by omega,by omega,h1⟩
  ·rw [if_neg h1] at h;cases h
 ·rw [if_neg h0] at h
  by_cases h1 : -(n:Int)≤i
  ·rw [if_pos h1] at h
   have e:(i + n).toNat=j:=Option.some.inj h
   exact ⟨by rw [seqIndex_neg (by omega) h1,e],by omega,h1,by omega⟩
  ·rw [if_neg h1] at h;cases h
theorem atI_get{α:Type}{xs:List α}{i:Int}{v:α}(h:atI xs i=some v):∃ j,seqIndex? i xs.length=some j∧xs[j]? = some v∧j < xs.length∧-(xs.length:Int)≤i∧i < xs.length:=by
 unfold atI at h
 cases e:ixN xs.length i with
 | none=>rw [e] at h;cases h
 | some j =>
  rw [e] at h
  obtain ⟨h1,h2,h3,h4⟩:=ixN_seq e
  exact ⟨j,h1,h,h2,h3,h4⟩
theorem atI_nat{α:Type}{xs:List α}{j:Nat}{v:α}(h:xs[j]? = some v):atI xs (j:Int)=some v:=by
 have hj:j < xs.length:=(List.getElem?_eq_some_iff.mp h).1
 have e:ixN xs.length (j:Int)=some j:=by
  unfold ixN
  rw [if_pos (by omega),if_pos (by omega)];simp
 unfold atI;rw [e];exact h
def PlainIx(b:Expr):Prop:=∀ o i,subscripted b false o i=operate [o,i] (getItem o i)
def IxR(X:Cx)(r:R2):Prop :=
 ∀ (value slice:Expr) (pins:List (Addr×Obj)) (s:Shared) (σ:St) (H:Hp) (x y:V) (v u:Value) (Q:VK),Inv X pins σ H s→RelV x v→RelV y u→r x y H Q→
  subscripted slice false v u=operate [v,u] (getItem v u)→wpAny (model X.prog X.w) X.A (subscriptTail value slice v u) (EP X pins σ Q) X.xe s
def MtR(X:Cx)(id:String)(r:V→List V→Hp→VK→Prop):Prop :=
 ∀ (pins:List (Addr×Obj)) (s:Shared) (σ:St) (H:Hp) (x:V) (xs:List V) (v:Value) (us:List Value) (Q:VK),Inv X pins σ H s→RelV x v→Vals xs us→r x xs H Q→
  wpAny (model X.prog X.w) X.A (call (.builtin id) (v::us)) (EP X pins σ Q) X.xe s
section
variable{X:Cx}{a b:Expr}{ta tb:TE}{pos:Pos}
theorem pe_ix{r:R2}(hr:IxR X r)(ha:PE X a ta)(hb:PE X b tb)(hs:PlainIx b):PE X (.Subscript a b pos) (tOp r ta tb):=by
 intro pins s σ H Q I h
 exact Subscript_ (binT ha hb I h fun v u s2 x y H2 I2 rx ry q=>hr a b pins s2 σ H2 x y v u Q I2 rx ry q (hs _ _))
def rIxL(K:PySem.W.Frag):R2:=fun x y H Q=>∃ p xs i v,x = .ref p∧y = .int i∧SqL K H p xs∧atI xs i=some v∧Q v H
def rIxT(K:PySem.W.Frag):R2:=fun x y H Q=>∃ p xs i v,x = .ref p∧y = .int i∧SqT K H p xs∧atI xs i=some v∧Q v H
def rIxS:R2:=fun x y H Q=>∃ z i c,x = .str z∧y = .int i∧z.length≤sizeLine∧atI z.cps.toList i=some c∧Q (.str ⟨#[c]⟩) H
theorem ix_list:IxR X (rIxL X.K):=by
 intro value slice pins s σ H x y v u Q I rx ry h hs
 obtain ⟨p,xs,i,z,rfl,rfl,hq,he,q⟩:=h
 cases rx
 obtain ⟨t,rfl⟩:=ry
 obtain ⟨its,r,pl,hz⟩:=I.list hq
 obtain ⟨j,h1,h2,h3,h4,h5⟩:=atI_get he
 obtain ⟨w,ew,rw'⟩:=r.get h2
 have hl:=r.length
 have hn:=line63
 have fin:EP X pins σ Q w s:=⟨z,H,I,rw',q⟩
 by_cases h0:0≤i
 ·have hj:i.toNat=j:=by
   rw [seqIndex_of h0 h5] at h1
   exact Option.some.inj h1
  exact item_listR pl.isList h0 (by omega) (by rw [hj];simpa using ew) fin hs
 ·have hj:(i + (its.toArray.size:Int)).toNat=j:=by
   rw [seqIndex_neg (by omega) h4] at h1
   rw [List.size_toArray,← hl]
   exact Option.some.inj h1
  exact subscriptTail_builtinR (x:=w) pl.isList.typeIs slot_list_getitem.lookup
   (wpAny_getItem_list_neg (Q:=fun r s'=>r=w∧EP X pins σ Q r s') pl.isList (by omega) (by rw [List.size_toArray] <;> omega) (by omega) (by rw [hj];simpa using ew) ⟨rfl,fin⟩) hs
theorem ix_tup:IxR X (rIxT X.K):=by
 intro value slice pins s σ H x y v u Q I rx ry h hs
 obtain ⟨p,xs,i,z,rfl,rfl,hq,he,q⟩:=h
 cases rx
 obtain ⟨t,rfl⟩:=ry
 obtain ⟨its,r,pl,hz⟩:=I.tuple hq
 obtain ⟨j,h1,h2,h3,h4,h5⟩:=atI_get he
 obtain ⟨w,ew,rw'⟩:=r.get h2
 have hl:=r.length
 have hn:=line63
 have fin:EP X pins σ Q w s:=⟨z,H,I,rw',q⟩
 exact subscriptTail_builtinR (x:=w) pl.typeIs slot_tuple_getitem.lookup
  (getItem_tuple (j:=j) (Q:=fun r s'=>r=w∧EP X pins σ Q r s') pl (by omega) (by omega) (by rw [List.size_toArray,← hl];exact h1) (by simpa using ew) ⟨rfl,fin⟩) hs
theorem ix_str:IxR X rIxS:=by
 intro value slice pins s σ H x y v u Q I rx ry h hs
 obtain ⟨z,i,c,rfl,rfl,hz,he,q⟩:=h
 obtain ⟨t,rfl⟩:=rx
 obtain ⟨t',rfl⟩:=ry
 obtain ⟨j,h1,h2,h3,h4,h5⟩:=atI_get he
 have hl:z.cps.toList.length=z.length:=by simp [Str.length]
 rw [hl] at h1 h4 h5
 have hn:=line63
 exact tail_any (typeIs_str s z t) slot_str_getitem.lookup (getItem_str (c:=c) (by
  have e1:decide (i < -(2 ^ 63:Int))=false:=decide_eq_false (by omega)
  have e2:decide (i ≥ 2 ^ 63)=false:=decide_eq_false (by omega)
  rw [e1,e2,Bool.or_false]) (by rw [h1];simpa using h2) ⟨.str ⟨#[c]⟩,H,I.tok _,⟨_,rfl⟩,q⟩) hs
theorem slice_bounds(lo hi:Option Int)(n:Nat):(sliceBounds lo hi none n).1=((HT.sIx n 0 lo:Nat):Int)∧(sliceBounds lo hi none n).2.1=((HT.sIx n n hi:Nat):Int)∧(sliceBounds lo hi none n).2.2=1:=by
 refine ⟨?_,?_,rfl⟩
 ·cases lo with
  | none=>simp [sliceBounds,HT.sIx]
  | some i =>
   simp only [sliceBounds,HT.sIx,Option.getD_none,show (1:Int) > 0 by decide,if_true]
   by_cases h:i < 0
   ·simp only [h,if_true] <;> omega
   ·simp only [h,if_false] <;> omega
 ·cases hi with
  | none=>simp [sliceBounds,HT.sIx]
  | some i =>
   simp only [sliceBounds,HT.sIx,Option.getD_none,show (1:Int) > 0 by decide,if_true]
   by_cases h:i < 0
   ·simp only [h,if_true] <;> omega
   ·simp only [h,if_false] <;> omega
theorem slicePick_cut(its:List Value)(lo hi:Option Int):slicePick its.toArray lo hi none=((its.drop (HT.sIx its.length 0 lo)).take (HT.sIx its.length its.length hi - HT.sIx its.length 0 lo)).toArray:=by
 obtain ⟨h1,h2,h3⟩:=slice_bounds lo hi its.toArray.size
 unfold slicePick
 rw [h1,h2,h3]
 simp only [sliceRange_one,pick_run,List.size_toArray] <;> rfl
def rSlL(K:PySem.W.Frag):V→Option Int→Option Int→Hp→VK→Prop:=fun x lo hi H Q=>∃ a xs,x = .ref a∧SqL K H a xs∧∀ p,H p=none→Q (.ref p) (upd H p (.lst (cutV xs lo hi)))
theorem sl_list:SlR X (rSlL X.K):=by
 intro pins s σ H x v vl vu lo hi sl Q I rx hs pl pu h
 obtain ⟨a,xs,rfl,hx,q⟩:=h
 cases rx
 obtain ⟨its,r,ht,hz⟩:=I.list hx
 have hlen:=r.length
 refine ⟨"list",_,slot_list_getitem.lookup,ht.isList.typeIs,?_⟩
 refine wpAny_getItem_list_slice ht.isList hs pl pu .none (by simp) ?_ (by rw [List.size_toArray] <;> omega)
 rw [slicePick_cut,← hlen]
 refine ⟨.ref s.heap.objs.size,_,I.laid (t':=s.toks) (o:=.lst (cutV xs lo hi)) (fun b ob q=>Heap.get?_push_of_some _ q) (Nat.le_refl _) ?_,rfl,q _ (I.hok.fresh (Nat.le_refl _))⟩
 exact ⟨Nat.le_trans (cutV_length xs lo hi) hz,_,0,(r.drop (HT.sIx xs.length 0 lo)).take (HT.sIx xs.length xs.length hi - HT.sIx xs.length 0 lo),Heap.get?_push_size _ rfl⟩
def flatV:V→Bool
 | .non=>true
 | .bl _=>true
 | .int _=>true
 | .str _=>true
 | _=>false
def eqV:V→V→Bool
 | .non,.non=>true
 | .bl a,.bl b=>a == b
 | .bl a,.int b=>(if a then 1 else 0) == b
 | .int a,.bl b=>a == (if b then 1 else 0)
 | .int a,.int b=>a == b
 | .str a,.str b=>a == b
 | _,_=>false
theorem eqAt_V{A:Around}{s:Shared}{y x:V}{u v:Value}(ry:RelV y u)(rx:RelV x v)(fy:flatV y=true)(fx:flatV x=true):SeqAt.EqAt A s u v (eqV y x):=by
 cases y with
 | non =>
  cases ry
  cases x with
  | non=>cases rx;exact SeqAt.EqAt.same _
  | bl b=>cases rx;exact SeqAt.EqAt.none_bool b
  | int b=>obtain ⟨t,rfl⟩:=rx;exact SeqAt.EqAt.none_int b t
  | str b=>obtain ⟨t,rfl⟩:=rx;exact SeqAt.EqAt.none_str b t
  | _=>exact absurd (show false=true from fx) Bool.false_ne_true
 | bl a =>
  cases ry
  cases x with
  | non=>cases rx;exact SeqAt.EqAt.bool_none a
  | bl b=>cases rx;exact SeqAt.EqAt.bool_bool a b
  | int b=>obtain ⟨t,rfl⟩:=rx;exact SeqAt.EqAt.bool_int a b t
  | str b=>obtain ⟨t,rfl⟩:=rx;exact SeqAt.EqAt.bool_str a b t
  | _=>exact absurd (show false=true from fx) Bool.false_ne_true
 | int a =>
  obtain ⟨t',rfl⟩:=ry
  cases x with
  | non=>cases rx;exact SeqAt.EqAt.int_none a t'
  | bl b=>cases rx;exact SeqAt.EqAt.int_bool a t' b
  | int b=>obtain ⟨t,rfl⟩:=rx;exact SeqAt.EqAt.int_int a t' b t
  | str b=>obtain ⟨t,rfl⟩:=rx;exact SeqAt.EqAt.int_str a t' b t
  | _=>exact absurd (show false=true from fx) Bool.false_ne_true
 | str a =>
  obtain ⟨t',rfl⟩:=ry
  cases x with
  | non=>cases rx;exact SeqAt.EqAt.str_none a t'
  | bl b=>cases rx;exact SeqAt.EqAt.str_bool a t' b
  | int b=>obtain ⟨t,rfl⟩:=rx;exact SeqAt.EqAt.str_int a t' b t
  | str b=>obtain ⟨t,rfl⟩:=rx;exact SeqAt.EqAt.str_str a t' b t
  | _=>exact absurd (show false=true from fx) Bool.false_ne_true
 | _=>exact absurd (show false=true from fy) Bool.false_ne_true
def eqU(x:V)(u:Value):Bool:=match u with
 | .none=>eqV .non x
 | .bool b=>eqV (.bl b) x
 | .int i _=>eqV (.int i) x
 | .str z _=>eqV (.str z) x
 | _=>false
theorem eqU_of{x y:V}{u:Value}(r:RelV y u)(f:flatV y=true):eqU x u=eqV y x:=by
 cases y with
 | non=>cases r;rfl
 | bl b=>cases r;rfl
 | int i=>obtain ⟨t,rfl⟩:=r;rfl
 | str z=>obtain ⟨t,rfl⟩:=r;rfl
 | _=>exact absurd (show false=true from f) Bool.false_ne_true
theorem any_eqU{x:V}:∀ {xs:List V} {us:List Value},Vals xs us→xs.all flatV=true→us.any (eqU x)=xs.any fun y=>eqV y x
 | _,_,.nil,_=>rfl
 | y::xs,u::us,.cons r t,f=>by
  rw [List.all_cons,Bool.and_eq_true] at f
  rw [List.any_cons,List.any_cons,eqU_of r f.1,any_eqU t f.2]
theorem mem_eqAt{A:Around}{s:Shared}{x:V}{v:Value}(rx:RelV x v)(fx:flatV x=true):∀ {xs:List V} {us:List Value},Vals xs us→xs.all flatV=true→∀ u∈us,SeqAt.EqAt A s u v (eqU x u)
 | _,_,.nil,_=>fun u hu=>by cases hu
 | y::xs,u::us,.cons r t,f=>fun u' hu=>by
  rw [List.all_cons,Bool.and_eq_true] at f
  rcases List.mem_cons.mp hu with rfl | hu
  ·rw [eqU_of r f.1];exact eqAt_V r rx f.1 fx
  ·exact mem_eqAt rx fx t f.2 u' hu
def inV(x:V)(xs:List V):Bool:=xs.any fun y=>eqV y x
def rIn(K:PySem.W.Frag)(neg:Bool):R2:=fun x y H Q=>∃ p xs,y = .ref p∧(SqL K H p xs∨SqT K H p xs)∧flatV x=true∧xs.all flatV=true∧Q (.bl (if neg then !inV x xs else inV x xs)) H
theorem op_in_seq:OpR X (compareOp .In) (rIn X.K false):=by
 intro pins s σ H x y v u Q I rx ry h
 obtain ⟨p,xs,rfl,hq,fx,fs,q⟩:=h
 cases ry
 rcases hq with hq | hq
 ·obtain ⟨its,r,pl,hz⟩:=I.list hq
  refine SeqAt.in_listAt (eqU x) pl.isList (fun w hw=>mem_eqAt rx fx r fs w (by simpa using hw)) ⟨.bl _,H,I,rfl,?_⟩
  rw [show its.toArray.any (eqU x)=its.any (eqU x) by simp,any_eqU r fs]
  exact q
 ·obtain ⟨its,r,pl,hz⟩:=I.tuple hq
  refine SeqAt.in_tupleAt (eqU x) pl (fun w hw=>mem_eqAt rx fx r fs w (by simpa using hw)) ⟨.bl _,H,I,rfl,?_⟩
  rw [show its.toArray.any (eqU x)=its.any (eqU x) by simp,any_eqU r fs]
  exact q
theorem call_len_seq:CallR X (.builtin "len") (fun xs H Q=>∃ p ys,xs=[.ref p]∧(SqL X.K H p ys∨SqT X.K H p ys)∧Q (.int ys.length) H):=by
 intro pins s σ H xs us Q I r h
 obtain ⟨p,ys,rfl,hq,q⟩:=h
 obtain ⟨u,rfl,rx⟩:=vals1 r
 cases rx
 have hn:=line63
 rcases hq with hq | hq
 ·obtain ⟨its,r',pl,hz⟩:=I.list hq
  have hlen:=r'.length
  exact Calls.call_len_list pl.isList (by simp only [List.size_toArray] <;> omega) ⟨.int ys.length,H,I.tok _,⟨s.toks + 1,by rw [List.size_toArray,hlen]⟩,q⟩
 ·obtain ⟨its,r',pl,hz⟩:=I.tuple hq
  have hlen:=r'.length
  exact len_tuple pl (by simp only [List.size_toArray] <;> omega) ⟨.int ys.length,H,I.tok _,⟨s.toks + 1,by rw [List.size_toArray,hlen]⟩,q⟩
theorem call_len_str:CallR X (.builtin "len") (fun xs H Q=>∃ z,xs=[.str z]∧z.length≤sizeLine∧Q (.int z.length) H):=by
 intro pins s σ H xs us Q I r h
 obtain ⟨z,rfl,hz,q⟩:=h
 obtain ⟨u,rfl,t,rfl⟩:=vals1 r
 have hn:=line63
 exact len_str (by omega) ⟨.int z.length,H,I.tok _,⟨_,rfl⟩,q⟩
theorem call_tuple_of:CallR X (.type "tuple") (fun xs H Q=>∃ p ys,xs=[.ref p]∧((SqL X.K H p ys∧∀ l,H l=none→Q (.ref l) (upd H l (.tup ys)))∨(SqT X.K H p ys∧Q (.ref p) H))):=by
 intro pins s σ H xs us Q I r h
 obtain ⟨p,ys,rfl,h⟩:=h
 obtain ⟨u,rfl,rx⟩:=vals1 r
 cases rx
 rcases h with ⟨hq,q⟩ | ⟨hq,q⟩
 ·obtain ⟨its,r',pl,hz⟩:=I.list hq
  have hlen:=r'.length
  refine call_tuple_list pl.isList (fun h' kp=>?_) (by simp only [List.size_toArray] <;> omega)
  have I1:Inv X pins σ H { s with heap:=h' }:=I.kept (t':=s.toks) kp
  have I2:Inv X pins σ (upd H h'.objs.size (.tup ys)) { s with heap:=h'.push { cls:=.type "tuple",data:=.seq its.toArray } } :=
   I1.laid (t':=s.toks) (fun b o e=>Heap.get?_push_of_some _ e) (Nat.le_refl _) (show ObjOk X.prog X.w _ _ _ (.tup ys) from ⟨hz,its,r',IsTup.new _ _⟩)
  exact ⟨.ref h'.objs.size,_,I2,rfl,q _ (I1.hok.fresh (Nat.le_refl _))⟩
 ·obtain ⟨its,r',pl,hz⟩:=I.tuple hq
  exact call_tuple_same pl ⟨.ref p,H,I,rfl,q⟩
def tyV(K:PySem.W.Frag)(T:String)(x:V)(H:Hp):Prop:=match x with
 | .str _=>T = "str"
 | .int _=>T = "int"
 | .ref p=>(T = "list"∧∃ xs,SqL K H p xs)∨(T = "tuple"∧∃ o,K.lookup p=some o∧o.cls = .type "tuple"∧o.dict=none)∨
   (T = "dict"∧((∃ kvs,H p=some (.dK kvs))∨∃ kvs,H p=some (.dT kvs)))∨(T = "set"∧∃ S n,H p=some (.set S n))
 | _=>False
theorem tyV_is{pins:List (Addr×Obj)}{σ:St}{H:Hp}{s:Shared}{T:String}{x:V}{v:Value}(I:Inv X pins σ H s)(r:RelV x v)(ty:tyV X.K T x H) :
  s.TypeIs v T∧∀ a,v = .ref a→∃ ob,s.heap.get? a=some ob∧ob.dict=none:=by
 cases x with
 | str z =>
  obtain ⟨t,rfl⟩:=r
  cases (show T = "str" from ty)
  exact ⟨typeIs_str s z t,fun _ e=>nomatch e⟩
 | int i =>
  obtain ⟨t,rfl⟩:=r
  cases (show T = "int" from ty)
  exact ⟨typeIs_int s i t,fun _ e=>nomatch e⟩
 | ref p =>
  cases r
  rcases ty with ⟨rfl,xs,hq⟩ | ⟨rfl,o,hk,hc,hd⟩ | ⟨rfl,hk⟩ | ⟨rfl,S,n,hk⟩
  ·obtain ⟨its,_,pl,_⟩:=I.list hq
   refine ⟨pl.isList.typeIs,fun a e=>?_⟩
   cases e
   obtain ⟨o,n,e,c,hd,_⟩:=pl
   exact ⟨o,e,hd⟩
  ·refine ⟨⟨o,I.kIn p o hk,hc⟩,fun a e=>?_⟩
   cases e
   exact ⟨o,I.kIn _ o hk,hd⟩
  ·have z:∃ o,s.heap.get? p=some o∧o.ExactDict:=by
    rcases hk with ⟨kvs,hk⟩ | ⟨kvs,hk⟩
    ·obtain ⟨_,_,_,_,o,_,_,e,ex,_⟩:=I.hok p _ hk
     exact ⟨o,e,ex⟩
    ·obtain ⟨_,_,_,_,o,_,_,e,ex,_⟩:=I.hok p _ hk
     exact ⟨o,e,ex⟩
   obtain ⟨o,e,ex⟩:=z
   refine ⟨⟨o,e,ex.1⟩,fun a e2=>?_⟩
   cases e2
   exact ⟨o,e,ex.2.1⟩
  ·obtain ⟨o,_,_,_,e,ex,_⟩:=I.hok p _ hk
   refine ⟨⟨o,e,ex.1⟩,fun a e2=>?_⟩
   cases e2
   exact ⟨o,e,ex.2.1⟩
 | _=>exact False.elim ty
def tBM(K:PySem.W.Frag)(T:String)(r:V→List V→Hp→VK→Prop)(to:TE)(t:TA):TE:=fun σ H Q=>to σ H fun x H1=>tyV K T x H1∧t σ H1 fun xs H2=>r x xs H2 Q
variable{o e:Expr}{es:List Expr}{to:TE}{t:TA}{name:Str}{apos cpos:Pos}{T id:String}{r:V→List V→Hp→VK→Prop}
theorem pe_bm(pa:PlainAttrs T)(slot:Slot T name id)(hty:typeOf (.builtin id)=pure (.type "method_descriptor"))(hm:MtR X id r)(ho:PE X o to)(ha:PA X (e::es) t)
  (hbase:attributeBase o name X.env (eval o X.env)=eval o X.env:=by rfl)
  (hfew:((backTo cpos (starEach (e::es) X.env)).all (fun x => !x.1) && (backToKw cpos (keywordEach [] X.env)).all (fun x=>x.1.isSome)
   && decide ((e::es).length + ([]:List Keyword).length + (if ([]:List Keyword).isEmpty then 0 else 1) < 30))=true:=by rfl)
  (hline:(apos.endLine == cpos.line)=true:=by rfl) (hs:starEach (e::es) X.env=(false,eval e X.env)::starEach es X.env:=by rfl) (hplain:(backTo cpos (starEach es X.env)).any (·.1)=false:=by rfl) :
  PE X (.Call (.Attribute o name apos) (e::es) [] cpos) (tBM X.K T r to t):=by
 intro pins s σ H Q I h
 refine wpAny_Call_method_late hbase hfew hline rfl (thn (ho pins s σ H _ I h) fun v s1 ⟨x,H1,I1,r1,ty,q1⟩=>?_)
 obtain ⟨h1,h2⟩:=tyV_is I1 r1 ty
 refine ⟨T,id,pa,slot,hty,h1,h2,?_⟩
 have hA:=ha cpos pins s1 σ H1 _ I1 q1
 rw [hs] at hA ⊢
 refine Calls.callWith_builtin (by show (false || (backTo cpos (starEach es X.env)).any (·.1))=false;rw [hplain] <;> rfl) (Calls.evalArgs_plain ?_)
 exact thn hA fun us s2 ⟨vs,H2,I2,r2,q2⟩=>hm pins s2 σ H2 x vs v us Q I2 r1 r2 q2
end
end L2
namespace L2
open PySem PySem.Spec PyProof.Rows
def MtM(X:Cx)(id:String)(r:V→List V→Hp→VK→Prop):Prop :=
 ∀ (pins:List (Addr×Obj)) (s:Shared) (σ:St) (H:Hp) (x:V) (xs:List V) (v:Value) (us:List Value) (Q:VK),Inv X pins σ H s→RelV x v→Vals xs us→r x xs H Q→
  wpAny (model X.prog X.w) X.A (call (.builtin id) (v::us)) (EP X pins σ Q) X.xe s
theorem Vals.one:∀ {x:V} {us:List Value},Vals [x] us→∃ u,us=[u]∧RelV x u
 | _,_,.cons r .nil=>⟨_,rfl,r⟩
section
variable{X:Cx}{pins:List (Addr×Obj)}{σ:St}{H:Hp}{s:Shared}{l b:Addr}{xs ys zs:List V}
theorem Inv.lset{its its':List Value}{n:Nat}{f:Array Value→Array Value}{t':Nat}(I:Inv X pins σ H s)(hH:H l=some (.lst xs))
  (e:s.heap.get? l=some { cls:=.type "list",data:=.seq its.toArray n }) (hf:f its.toArray=its'.toArray) (hv:Vals ys its') (hz:ys.length≤sizeLine) :
  Inv X pins σ (upd H l (.lst ys)) { s with heap:=s.heap.update l (Obj.mapSeq f),toks:=t' }:=by
 have q:=PySem.IsL.update e f
 rw [hf] at q
 refine I.write (x:=l) (e:=l) (by rw [hH];exact trivial) (.inl rfl) (fun b' u hb hu=>(Heap.get?_update_other s.heap (Obj.mapSeq f) (Ne.symm hb)).trans hu) ⟨_,q⟩ ?_
 exact ⟨hz,its',_,hv,q⟩
theorem Inv.lnew{its:List Value}{t':Nat}(I:Inv X pins σ H s)(hv:Vals ys its)(hz:ys.length≤sizeLine) :
  Inv X pins σ (upd H s.heap.objs.size (.lst ys)) { s with heap:=s.heap.push { cls:=.type "list",data:=.seq its.toArray },toks:=t' } :=
 I.laid (fun _ _ q=>Heap.get?_push_of_some _ q) (Nat.le_refl _) ⟨hz,its,0,hv,Heap.get?_push_size _ rfl⟩
theorem Inv.fresh(I:Inv X pins σ H s):H s.heap.objs.size=none:=I.hok.fresh (Nat.le_refl _)
theorem Inv.lstM(I:Inv X pins σ H s)(hH:H l=some (.lst xs)):xs.length≤sizeLine∧∃ (its:List Value) (n:Nat),Vals xs its∧xs.length=its.length∧s.heap.get? l=some { cls:=.type "list",data:=.seq its.toArray n }:=by
 obtain ⟨z,its,n,r,e⟩:=I.hok l _ hH
 exact ⟨z,its,n,r,r.length,e⟩
theorem notLongL{n:Nat}(h:n≤sizeLine):Builtin.List.listTooLong n=false:=by
 unfold Builtin.List.listTooLong
 exact decide_eq_false (by omega)
end
section
variable{X:Cx}
def rAppend:V→List V→Hp→VK→Prop:=fun x vs H Q=>∃ l xs y,x = .ref l∧vs=[y]∧H l=some (.lst xs)∧xs.length < sizeLine∧Q .non (upd H l (.lst (xs ++ [y])))
theorem mt_append:MtM X "list.append" rAppend:=by
 intro pins s σ H x vs v us Q I rx rv h
 obtain ⟨l,xs,y,rfl,rfl,hH,hz,q⟩:=h
 cases rx
 obtain ⟨u,rfl,ru⟩:=rv.one
 obtain ⟨z,its,n,r,hl,e⟩:=I.lstM hH
 refine call_meets F.slot_list_append ⟨_,e,rfl⟩ F.entry_list_append (F.args_list_append_2 _ _) (PySem.list_append l its.toArray n u (by rw [List.size_toArray];omega)) ⟨e,?_⟩
 refine ⟨.non,_,I.lset (its':=its ++ [u]) hH e (by simp) (r.append (.cons ru .nil)) ?_,rfl,q⟩
 rw [List.length_append,List.length_singleton]
 omega
def rExtend:V→List V→Hp→VK→Prop:=fun x vs H Q=>∃ l b xs zs,x = .ref l∧vs=[.ref b]∧H l=some (.lst xs)∧H b=some (.lst zs)∧xs.length + zs.length≤sizeLine∧Q .non (upd H l (.lst (xs ++ zs)))
theorem mt_extend:MtM X "list.extend" rExtend:=by
 intro pins s σ H x vs v us Q I rx rv h
 obtain ⟨l,b,xs,zs,rfl,rfl,hH,hB,hz,q⟩:=h
 cases rx
 obtain ⟨u,rfl,ru⟩:=rv.one
 cases ru
 obtain ⟨z,its,n,r,hl,e⟩:=I.lstM hH
 obtain ⟨z2,its2,n2,r2,hl2,e2⟩:=I.lstM hB
 have hsz:its.toArray.size + its2.toArray.size≤sizeLine:=by rw [List.size_toArray,List.size_toArray];omega
 have hlong:¬ (!its.toArray.isEmpty && Builtin.List.listTooLong (its.toArray.size + its2.toArray.size))=true:=by
  rw [notLongL hsz,Bool.and_false]
  exact Bool.false_ne_true
 refine call_meets F.slot_list_extend ⟨_,e,rfl⟩ F.entry_list_extend (F.args_list_extend_2 _ _)
  (AutoSeq1.list_extend_list_list_0 l its.toArray n b its2.toArray n2 hlong (by rw [List.size_toArray];omega) (by omega)) ⟨e,e2,?_⟩
 refine ⟨.non,_,I.lset (its':=its ++ its2) hH e (by simp) (r.append r2) ?_,rfl,q⟩
 rw [List.length_append]
 omega
def rCat:R2:=fun x y H Q=>∃ l b xs zs,x = .ref l∧y = .ref b∧H l=some (.lst xs)∧H b=some (.lst zs)∧xs.length + zs.length≤sizeLine∧∀ p,H p=none→Q (.ref p) (upd H p (.lst (xs ++ zs)))
theorem op_cat:OpR X (binaryOp .Add) rCat:=by
 intro pins s σ H x y v u Q I rx ry h
 obtain ⟨l,b,xs,zs,rfl,rfl,hH,hB,hz,q⟩:=h
 cases rx
 cases ry
 obtain ⟨z,its,n,r,hl,e⟩:=I.lstM hH
 obtain ⟨z2,its2,n2,r2,hl2,e2⟩:=I.lstM hB
 refine PySem.P.add_list e e2 ?_ (by rw [List.size_toArray,List.size_toArray];omega)
 have ea:its.toArray ++ its2.toArray=(its ++ its2).toArray:=by simp
 rw [ea]
 exact ⟨.ref _,_,I.lnew (t':=s.toks) (r.append r2) (by rw [List.length_append];omega),rfl,q _ I.fresh⟩
end
section
variable{prog:Program}{w:World}{A:Around}{E:Value→Shared→Prop}{s:Shared}
set_option maxRecDepth 100000 in
end
end L2
namespace L2
open PySem PySem.Spec PyProof.Rows
theorem Vals.ints:∀ {ns:List Int} {us:List Value},Vals (ns.map V.int) us→IntsAre us ns
 | [],us,h=>by
  rw [List.map_nil] at h
  cases h
  exact IntsAre.nil
 | n::ns,us,h=>by
  rw [List.map_cons] at h
  cases h with
  | cons r t =>
   obtain ⟨k,rfl⟩:=r
   exact IntsAre.cons n k (Vals.ints t)
theorem Vals.ref1{a:Addr}{us:List Value}(r:Vals [V.ref a] us):us=[Value.ref a]:=by
 cases r with
 | cons r t =>
  cases t
  cases r
  rfl
section
variable{prog:Program}{w:World}{A:Around}{E:Value→Shared→Prop}{s:Shared}{l:Addr}{its:List Value}{ns:List Int}{Q:Value→Shared→Prop}
theorem max_raw(hh:A.handled=none)(hl:s.heap.IsList l its.toArray)(hi:IntsAre its ns)(hne:0 < ns.length)
  (h:∀ h' tk M t',(∀ b o,s.heap.get? b=some o→h'.get? b=some o)→M∈ns→(∀ a,a∈ns→a≤M)→Q (.int M t') { s with heap:=h',toks:=tk }):wpAny (model prog w) A (call (.builtin "max") [.ref l]) Q E s:=by
 obtain ⟨xs,e⟩:=hi.allInts.items
 have hn:numsOf (intItems xs).toList=ns:=by rw [← e];exact hi.numsOf
 rw [nums_intItems] at hn
 subst hn
 rw [e] at hl
 have hsz:0 < xs.size:=by simpa using hne
 refine PySem.max_intList hh hl hsz fun v h' tk hv hk=>?_
 obtain ⟨t,rfl⟩:=intItems_at hv
 obtain ⟨h1,h2⟩:=argBest_gt (numAt xs) (xs.size - 1)
 refine h h' tk _ t hk ?_ fun a ha=>?_
 ·rw [numAt_eq];exact PySem.getD_mem (by rw [List.length_map,Array.length_toList];omega)
 ·obtain ⟨j,hj,rfl⟩:=mem_getD ha
  rw [List.length_map,Array.length_toList] at hj
  rw [← numAt_eq];exact h2 j (by omega)
end
section
variable{X:Cx}
def rMax(K:PySem.W.Frag):List V→Hp→VK→Prop:=fun vs H Q=>∃ (a:Addr) (ns:List Int),vs=[V.ref a]∧SqL K H a (ns.map V.int)∧0 < ns.length∧∀ m,m∈ns→(∀ y,y∈ns→y≤m)→Q (.int m) H
theorem cr_max(hc:X.calm=true):CallR X (.builtin "max") (rMax X.K):=by
 intro pins s σ H vs us Q I r h
 obtain ⟨a,ns,rfl,hs,hne,q⟩:=h
 obtain ⟨its,rv,hl,_⟩:=I.list hs
 rw [Vals.ref1 r]
 exact max_raw (I.ok.hd hc) hl.isList rv.ints hne fun h' tk m t' hk h1 h2=>⟨.int _,H,I.kept hk,⟨_,rfl⟩,q m h1 h2⟩
end
mutual
inductive Dp(K:PySem.W.Frag)(H:Hp):V→PyData→Prop
 | non:Dp K H .non .none
 | bl (b:Bool):Dp K H (.bl b) (.bool b)
 | int (i:Int):Dp K H (.int i) (.int i)
 | str (x:Str):Dp K H (.str x) (.str x)
 | lst {a:Addr} {xs:List V} {ds:List PyData}:SqL K H a xs→DpAll K H xs ds→Dp K H (.ref a) (.list ds)
 | tup {a:Addr} {xs:List V} {ds:List PyData}:SqT K H a xs→DpAll K H xs ds→Dp K H (.ref a) (.tuple ds)
inductive DpAll(K:PySem.W.Frag)(H:Hp):List V→List PyData→Prop
 | nil:DpAll K H [] []
 | cons {v:V} {vs:List V} {d:PyData} {ds:List PyData}:Dp K H v d→DpAll K H vs ds→DpAll K H (v::vs) (d::ds)
end
section
variable{X:Cx}{pins:List (Addr×Obj)}{σ:St}{H:Hp}{s:Shared}
mutual
theorem Dp.reads(I:Inv X pins σ H s):∀ (d:PyData) (v:V) (u:Value),Dp X.K H v d→RelV v u→∃ as,Reads s.heap u d as
 | .none,_,_,h,r=>by
  cases h
  cases r
  exact ⟨_,Reads.none⟩
 | .bool b,_,_,h,r=>by
  cases h
  cases r
  exact ⟨_,Reads.bool b⟩
 | .int i,_,_,h,r=>by
  cases h
  obtain ⟨t,rfl⟩:=r
  exact ⟨_,Reads.int i t⟩
 | .str x,_,_,h,r=>by
  cases h
  obtain ⟨t,rfl⟩:=r
  exact ⟨_,Reads.str x t⟩
 | .list ds,_,_,h,r=>by
  cases h with
  | lst hs ha =>
   cases r
   obtain ⟨its,rv,⟨o,n,ho,hc,_,hd⟩,_⟩:=I.list hs
   obtain ⟨as,hr⟩:=Dp.readsAll I ds _ its ha rv
   exact ⟨_,Reads.list ho hc hd hr⟩
 | .tuple ds,_,_,h,r=>by
  cases h with
  | tup hs ha =>
   cases r
   obtain ⟨its,rv,⟨o,ho,hc,n,hd⟩,_⟩:=I.tuple hs
   obtain ⟨as,hr⟩:=Dp.readsAll I ds _ its ha rv
   exact ⟨_,Reads.tuple ho hc hd hr⟩
 | .dict _,_,_,h,_=>by cases h
theorem Dp.readsAll(I:Inv X pins σ H s):∀ (ds:List PyData) (vs:List V) (us:List Value),DpAll X.K H vs ds→Vals vs us→∃ as,ReadsAll s.heap us ds as
 | [],_,_,h,r=>by
  cases h
  cases r
  exact ⟨_,ReadsAll.nil⟩
 | d::ds,_,_,h,r=>by
  cases h with
  | cons h1 h2 =>
   cases r with
   | cons r1 r2 =>
    obtain ⟨as,q1⟩:=Dp.reads I d _ _ h1 r1
    obtain ⟨bs,q2⟩:=Dp.readsAll I ds _ _ h2 r2
    exact ⟨_,ReadsAll.cons q1 q2⟩
end
end
section
variable{X:Cx}
def rEqD(K:PySem.W.Frag):R2:=fun x y H Q=>∃ d e,Dp K H x d∧Dp K H y e∧SeqAt.shaped d=true∧SeqAt.shaped e=true∧Q (.bl (PyData.eqv d e)) H
theorem op_eqD(hu:X.A.units + 64 < cLine):OpR X (compareOp .Eq) (rEqD X.K):=by
 intro pins s σ H x y v u Q I rx ry h
 obtain ⟨d,e,hd,he,sd,se,q⟩:=h
 obtain ⟨as,r1⟩:=Dp.reads I d x v hd rx
 obtain ⟨bs,r2⟩:=Dp.reads I e y u he ry
 exact SeqAt.compareEq_shaped r1 r2 sd se hu ⟨.bl _,H,I,rfl,q⟩
end
end L2
namespace L2
open PySem PySem.Spec PyProof.Rows
abbrev CellAt(h:Heap)(c:Addr)(v:Option Value):Prop:=h.IsCell c v
def relS(scope sc:Scope):Scope :=
 { scope with names:=scope.names.map fun (n,k)=>if (k == .free && sc.kind == .function && sc.names.lookup n == some .cell) then (n,.cell) else (n,k) }
def cloFrom(cells:List (Str×Addr)):List (Str×NameKind)→List (Str×Addr)→List (Str×Addr)
 | [],acc=>acc
 | (n,k)::r,acc=>if k == .free then cloFrom cells r ((n,(cells.lookup n).getD 0)::acc) else cloFrom cells r acc
theorem closure_loop(env:Env)(f:Str×NameKind→List (Str×Addr)→Sem (ForInStep (List (Str×Addr))))
  (hf:∀ n k c,f (n,k) c=if k == .free then (do let a ← cellOf env n;pure (.yield ((n,a)::c))) else pure (.yield c)) :
  ∀ (names:List (Str×NameKind)) (acc:List (Str×Addr)),(∀ y∈names,y.2 = .free→∃ c,env.cells.lookup y.1=some c)→forIn names acc f=pure (cloFrom env.cells names acc)
 | [],acc,_=>by rw [List.forIn_nil];rfl
 | (n,k)::r,acc,h=>by
  rw [List.forIn_cons,hf]
  have ih:=fun acc=>closure_loop env f hf r acc fun y hy=>h y (List.mem_cons_of_mem _ hy)
  unfold cloFrom
  by_cases hk:(k == NameKind.free)=true
  ·rw [if_pos hk,if_pos hk]
   obtain ⟨c,hc⟩:=h (n,k) List.mem_cons_self (by simpa using hk)
   have e:cellOf env n=pure c:=by unfold cellOf;rw [hc]
   rw [e]
   have e2:(env.cells.lookup n).getD 0=c:=by rw [hc];rfl
   rw [e2]
   exact ih _
  ·rw [if_neg hk,if_neg hk]
   exact ih _
theorem closure_ok{scope:Scope}{env:Env}(h:∀ y∈scope.names,y.2 = .free→∃ c,env.cells.lookup y.1=some c):closureFor scope env=pure (cloFrom env.cells scope.names []):=by
 simp only [closureFor]
 rw [closure_loop env _ (fun n k c=>rfl) scope.names [] h]
 rfl
theorem mem_lookup{α:Type}:∀ {l:List (Str×α)} {n:Str} {c:α},(n,c)∈l→∃ c',l.lookup n=some c'
 | (k,v)::r,n,c,h=>by
  rw [List.lookup_cons]
  cases hb:n == k with
  | true=>exact ⟨_,rfl⟩
  | false =>
   rcases List.mem_cons.mp h with e | h
   ·cases e;simp at hb
   ·exact mem_lookup h
theorem cloFrom_mem{cells:List (Str×Addr)}:∀ {names:List (Str×NameKind)} {acc:List (Str×Addr)} {n:Str} {c:Addr},(n,c)∈cloFrom cells names acc→(n,c)∈acc∨((n,.free)∈names∧c=(cells.lookup n).getD 0)
 | [],_,_,_,h=>.inl h
 | (m,k)::r,acc,n,c,h=>by
  unfold cloFrom at h
  split at h
  ·rename_i hk
   have hk:k = .free:=by simpa using hk
   rcases cloFrom_mem h with h | ⟨h1,h2⟩
   ·rcases List.mem_cons.mp h with e | h
    ·cases e;exact .inr ⟨hk▸List.mem_cons_self,rfl⟩
    ·exact .inl h
   ·exact .inr ⟨List.mem_cons_of_mem _ h1,h2⟩
  ·rcases cloFrom_mem h with h | ⟨h1,h2⟩
   ·exact .inl h
   ·exact .inr ⟨List.mem_cons_of_mem _ h1,h2⟩
theorem cloFrom_acc{cells:List (Str×Addr)}:∀ {names:List (Str×NameKind)} {acc:List (Str×Addr)} {p:Str×Addr},p∈acc→p∈cloFrom cells names acc
 | [],_,_,h=>h
 | (m,k)::r,acc,p,h=>by
  unfold cloFrom
  split
  ·exact cloFrom_acc (List.mem_cons_of_mem _ h)
  ·exact cloFrom_acc h
theorem cloFrom_has{cells:List (Str×Addr)}:∀ {names:List (Str×NameKind)} {acc:List (Str×Addr)} {n:Str},(n,.free)∈names→(n,(cells.lookup n).getD 0)∈cloFrom cells names acc
 | (m,k)::r,acc,n,h=>by
  unfold cloFrom
  rcases List.mem_cons.mp h with e | h
  ·cases e
   exact cloFrom_acc List.mem_cons_self
  ·split
   ·exact cloFrom_has h
   ·exact cloFrom_has h
theorem cells_mem:∀ {names:List (Str×NameKind)} {h:Heap} {acc:List (Str×Addr)} {x:Str} {c:Addr},(x,c)∈cellsFrom h.objs.size names acc→
  (x,c)∈acc∨((x,.cell)∈names∧h.objs.size≤c∧CellAt (pushCells h names) c none)
 | [],_,_,_,_,h=>.inl h
 | (n,k)::r,h,acc,x,c,hm=>by
  unfold cellsFrom at hm
  unfold pushCells
  split at hm
  ·rename_i hk
   rw [if_pos hk]
   have hk:k = .cell:=by simpa using hk
   rw [← Heap.size_push h { cls:=.type "cell",data:=.cell none }] at hm
   rcases cells_mem hm with hm | ⟨h1,h2,h3⟩
   ·rcases List.mem_cons.mp hm with e | hm
    ·cases e
     exact .inr ⟨hk▸List.mem_cons_self,Nat.le_refl _,_,pushCells_keeps r _ _ _ (Heap.get?_push_size _ rfl),rfl⟩
    ·exact .inl hm
   ·rw [Heap.size_push] at h2
    exact .inr ⟨List.mem_cons_of_mem _ h1,Nat.le_of_succ_le h2,h3⟩
  ·rename_i hk
   rw [if_neg hk]
   rcases cells_mem hm with hm | ⟨h1,h2,h3⟩
   ·exact .inl hm
   ·exact .inr ⟨List.mem_cons_of_mem _ h1,h2,h3⟩
theorem cells_acc:∀ {names:List (Str×NameKind)} {n:Nat} {acc:List (Str×Addr)} {p:Str×Addr},p∈acc→p∈cellsFrom n names acc
 | [],_,_,_,h=>h
 | (m,k)::r,n,acc,p,h=>by
  unfold cellsFrom
  split
  ·exact cells_acc (List.mem_cons_of_mem _ h)
  ·exact cells_acc h
theorem cells_has:∀ {names:List (Str×NameKind)} {n:Nat} {acc:List (Str×Addr)} {x:Str},(x,.cell)∈names→∃ c,(x,c)∈cellsFrom n names acc
 | (m,k)::r,n,acc,x,h=>by
  unfold cellsFrom
  rcases List.mem_cons.mp h with e | h
  ·cases e
   exact ⟨n,cells_acc List.mem_cons_self⟩
  ·split
   ·exact cells_has h
   ·exact cells_has h
theorem cells_inj:∀ {names:List (Str×NameKind)} {h:Heap} {acc:List (Str×Addr)} {x y:Str} {c:Addr},(∀ p∈acc,p.2 < h.objs.size)→(∀ x y c,(x,c)∈acc→(y,c)∈acc→x=y)→
  (x,c)∈cellsFrom h.objs.size names acc→(y,c)∈cellsFrom h.objs.size names acc→x=y
 | [],_,_,_,_,_,_,hi,h1,h2=>hi _ _ _ h1 h2
 | (n,k)::r,h,acc,x,y,c,hl,hi,h1,h2=>by
  unfold cellsFrom at h1 h2
  split at h1
  ·rename_i hk
   rw [if_pos hk] at h2
   rw [← Heap.size_push h { cls:=.type "cell",data:=.cell none }] at h1 h2
   refine cells_inj (h:=h.push _) (fun p hp=>?_) (fun x y c a b=>?_) h1 h2
   ·rw [Heap.size_push]
    rcases List.mem_cons.mp hp with rfl | hp
    ·exact Nat.lt_succ_self _
    ·exact Nat.lt_succ_of_lt (hl p hp)
   ·rcases List.mem_cons.mp a with e | a <;> rcases List.mem_cons.mp b with e' | b
    ·cases e;cases e';rfl
    ·cases e;exact absurd (hl _ b) (Nat.lt_irrefl _)
    ·cases e';exact absurd (hl _ a) (Nat.lt_irrefl _)
    ·exact hi _ _ _ a b
  ·rename_i hk
   rw [if_neg hk] at h2
   exact cells_inj hl hi h1 h2
theorem newEnv_comp{M:Model}{A:Around}{E:Value→Shared→Prop}{s:Shared}{scope:Scope}{globals:Addr}{closure:List (Str×Addr)}{qual:Str}{func:Option Addr}{code:Value}{around:Env}{builtins:Addr}{Q:Env→Shared→Prop}
  (h:Q (newEnv scope s.heap.objs.size globals (cellsFrom (s.heap.objs.size + 1) scope.names closure) qual func code (some around) builtins)
   { s with heap:=pushCells (s.heap.push { cls:=.type "dict",data:=.dict #[] }) scope.names }) :
  wpAny M A (newFunctionEnv scope globals closure [] qual func code (some around) builtins) Q E s:=by
 simp only [newFunctionEnv,Option.isSome_some,if_true]
 refine wpAny_bind (wpAny_alloc ?_)
 refine wpAny_bind (wpAny_layCells _ (fun n k c=>rfl) scope.names closure _ _ ?_)
 rw [show ({ s with heap:=s.heap.push { cls:=.type "dict",data:=.dict #[] } }:Shared).heap.objs.size=s.heap.objs.size + 1 from Heap.size_push ..]
 rw [List.forIn_nil]
 exact wpAny_bind (wpAny_pure (wpAny_pure h))
theorem lookup_relS{sc:Scope}:∀ {names:List (Str×NameKind)} {x:Str} {k:NameKind},
  (names.map fun (n,k)=>if (k == NameKind.free && sc.kind == .function && sc.names.lookup n == some .cell) then (n,NameKind.cell) else (n,k)).lookup x=some k→
  ∃ k',names.lookup x=some k'∧(k=k'∨(k' = .free∧k = .cell))
 | [],_,_,h=>by simp at h
 | (n,k₀)::r,x,k,h=>by
  have ih := @lookup_relS sc r x k
  have h':List.lookup x ((if (k₀ == NameKind.free && sc.kind == .function && sc.names.lookup n == some .cell)=true then (n,NameKind.cell) else (n,k₀))::(r.map _))=some k:=h
  cases hx:x == n with
  | true =>
   simp only [List.lookup_cons,hx]
   by_cases hc:(k₀ == NameKind.free && sc.kind == .function && sc.names.lookup n == some .cell)=true
   ·rw [if_pos hc] at h'
    simp only [List.lookup_cons,hx] at h'
    cases h'
    simp only [Bool.and_eq_true,beq_iff_eq] at hc
    exact ⟨k₀,rfl,.inr ⟨hc.1.1,rfl⟩⟩
   ·rw [if_neg hc] at h'
    simp only [List.lookup_cons,hx] at h'
    cases h'
    exact ⟨_,rfl,.inl rfl⟩
  | false =>
   simp only [List.lookup_cons,hx]
   by_cases hc:(k₀ == NameKind.free && sc.kind == .function && sc.names.lookup n == some .cell)=true
   ·rw [if_pos hc] at h'
    simp only [List.lookup_cons,hx] at h'
    exact ih h'
   ·rw [if_neg hc] at h'
    simp only [List.lookup_cons,hx] at h'
    exact ih h'
structure BlkOk(N:List Str)(sc scope:Scope)(own:List (Str×Nat)):Prop where
 kind:scope.kind = .function
 uniq:∀ y∈scope.names,scope.names.lookup y.1=some y.2
 ix:∀ p∈own,N[p.2]? = some p.1
 free:∀ y∈scope.names,y.2 = .free→sc.names.lookup y.1=some .cell∨sc.names.lookup y.1=some .free
 own:∀ y∈scope.names,y.2 = .local∨y.2 = .cell→y.1∈own.map (·.1)∨y.1∉N
def wipe(σ:St):List Nat→St
 | []=>σ
 | v::vs=>(wipe σ vs).set v none
theorem wipe_length(σ:St):∀ vs:List Nat,(wipe σ vs).length=σ.length
 | []=>rfl
 | v::vs=>by unfold wipe;rw [List.length_set,wipe_length σ vs]
theorem wipe_some{σ:St}{i:Nat}{x:V}:∀ {vs:List Nat},(wipe σ vs)[i]? = some (some x)→σ[i]? = some (some x)∧i∉vs
 | [],h=>⟨h,by simp⟩
 | v::vs,h=>by
  unfold wipe at h
  by_cases hi:v=i
  ·subst hi
   by_cases hv:v < (wipe σ vs).length
   ·rw [List.getElem?_set_self hv] at h;cases h
   ·rw [List.getElem?_eq_none (by simpa using hv)] at h;cases h
  ·rw [List.getElem?_set_ne hi] at h
   obtain ⟨h1,h2⟩:=wipe_some h
   exact ⟨h1,by simp only [List.mem_cons,not_or];exact ⟨fun e=>hi e.symm,h2⟩⟩
abbrev Cx.blk(X:Cx)(s:Shared)(H:Hp)(scope:Scope)(cenv:Env)(fp:List Addr):Cx:={ X with s_0:=s,H_0:=H,env:=cenv,outer:=X.stack,ex:=fp,fn:=fun x=>scope.names.lookup x == some .cell,pn:=[],xe:=fun _ _=>False }
section
variable{X:Cx}{pins:List (Addr×Obj)}{σ:St}{H:Hp}{s:Shared}
theorem block_start{scope:Scope}{own:List (Str×Nat)}{fp:List Addr}(I:Inv X pins σ H s)(ok:BlkOk X.N X.env.scope scope own)(hN:X.N.Nodup)(hfp:∀ b∈fp,FpOk X pins H b∧b < s.heap.objs.size) :
  Inv (X.blk s H scope (compEnvC scope (cellsFrom (s.heap.objs.size + 1) scope.names (cloFrom X.env.cells scope.names [])) s.heap.objs.size X.env) fp) [] (wipe σ (own.map (·.2))) H { s with heap:=pushCells (s.heap.push { cls:=.type "dict",data:=.dict #[] }) scope.names }:=by
 have hfree:∀ y∈scope.names,y.2 = .free→∃ c,X.env.cells.lookup y.1=some c:=fun y hy e=>by
  rcases ok.free y hy e with k | k
  ·exact I.ok.has _ (.inl k)
  ·exact I.ok.has _ (.inr k)
 generalize hcenv:compEnvC scope (cellsFrom (s.heap.objs.size + 1) scope.names (cloFrom X.env.cells scope.names [])) s.heap.objs.size X.env=cenv
 have kp:∀ b o,s.heap.get? b=some o→(pushCells (s.heap.push { cls:=.type "dict",data:=.dict #[] }) scope.names).get? b=some o:=fun b o e=>pushCells_keeps _ _ _ _ (Heap.get?_push_of_some _ e)
 have hL:cenv.locals=s.heap.objs.size:=by rw [← hcenv];rfl
 have hcl:cenv.cells=cellsFrom (s.heap.objs.size + 1) scope.names (cloFrom X.env.cells scope.names []):=by rw [← hcenv];rfl
 have hsc:cenv.scope=relS scope X.env.scope:=by rw [← hcenv];rfl
 rw [← Heap.size_push s.heap { cls:=.type "dict",data:=.dict #[] }] at hcl
 have cm:∀ {y c},(y,c)∈cloFrom X.env.cells scope.names []→X.env.cells.lookup y=some c∧c < s.heap.objs.size:=fun {y c} hm=>by
  rcases cloFrom_mem hm with hm | ⟨h1,rfl⟩
  ·cases hm
  ·obtain ⟨c,hc⟩:=hfree _ h1 rfl
   rw [hc]
   obtain ⟨w,z⟩:=I.cell _ _ hc
   exact ⟨rfl,z.lt⟩
 have mem:∀ {y c},cenv.cells.lookup y=some c→(X.env.cells.lookup y=some c∧c < s.heap.objs.size)∨(s.heap.objs.size + 1≤c∧CellAt (pushCells (s.heap.push { cls:=.type "dict",data:=.dict #[] }) scope.names) c none):=fun {y c} e=>by
  rw [hcl] at e
  rcases cells_mem (PySem.mem_of_lookup e) with hm | ⟨_,h2,h3⟩
  ·exact .inl (cm hm)
  ·rw [Heap.size_push] at h2;exact .inr ⟨h2,h3⟩
 have look:∀ {y},scope.names.lookup y=some .free→∃ c,cenv.cells.lookup y=some c∧X.env.cells.lookup y=some c:=fun {y} hl=>by
  have hy:(y,NameKind.free)∈scope.names:=PySem.mem_of_lookup hl
  obtain ⟨c',e'⟩:=mem_lookup (cells_acc (names:=scope.names) (n:=(s.heap.push { cls:=.type "dict",data:=.dict #[] }).objs.size) (cloFrom_has (cells:=X.env.cells) (acc:=[]) hy))
  rw [← hcl] at e'
  refine ⟨c',e',?_⟩
  rw [hcl] at e'
  rcases cells_mem (PySem.mem_of_lookup e') with hm | ⟨h1,_,_⟩
  ·exact (cm hm).1
  ·have:=ok.uniq _ h1
   rw [hl] at this;cases this
 have okB:(X.blk s H scope cenv fp).Ok:=by
  refine ⟨I.ok.mod,by show cenv.scope.kind=_;rw [hsc];exact ok.kind,by show cenv.globals=_;rw [← hcenv];exact I.ok.glob,by show cenv.builtins=_;rw [← hcenv];exact I.ok.blt,by show s.heap.objs.size≤cenv.locals;rw [hL];exact Nat.le_refl _,
   fun y z c e1 e2=>?_,fun y hy=>?_,fun y c z e=>?_,I.ok.hd,I.ok.frames,.inl rfl,fun b hb=>⟨?_,fun y c e z=>?_⟩,I.bs,Nat.le_trans I.ok.bsz I.sz,fun b o e hb=>?_,fun b hb z=>?_,I.stack,I.stkFree⟩
  ·have e1:cenv.cells.lookup y=some c:=e1
   have e2:cenv.cells.lookup z=some c:=e2
   rw [hcl] at e1 e2
   refine cells_inj (fun p hp=>?_) (fun y z c a b=>I.ok.inj y z c (cm a).1 (cm b).1) (PySem.mem_of_lookup e1) (PySem.mem_of_lookup e2)
   rw [Heap.size_push]
   exact Nat.lt_succ_of_lt (cm (y:=p.1) (c:=p.2) hp).2
  ·show ∃ c,cenv.cells.lookup y=some c
   have key:∀ k,cenv.kindOf y=some k→(k = .cell∨k = .free)→∃ c,cenv.cells.lookup y=some c:=fun k hk hk'=>by
    unfold Env.kindOf at hk
    rw [hsc] at hk
    obtain ⟨k',e,r⟩:=lookup_relS hk
    have:k' = .cell∨k' = .free:=by
     rcases r with rfl | ⟨rfl,_⟩
     ·exact hk'
     ·exact .inr rfl
    rcases this with rfl | rfl
    ·obtain ⟨c,hm⟩:=cells_has (n:=(s.heap.push { cls:=.type "dict",data:=.dict #[] }).objs.size) (acc:=cloFrom X.env.cells scope.names []) (PySem.mem_of_lookup e)
     obtain ⟨c',e'⟩:=mem_lookup hm
     exact ⟨c',by rw [hcl];exact e'⟩
    ·obtain ⟨c,h1,_⟩:=look e
     exact ⟨c,h1⟩
   rcases hy with hy | hy
   ·exact key _ hy (.inl rfl)
   ·exact key _ hy (.inr rfl)
  ·have z:(scope.names.lookup y == some NameKind.cell)=true:=z
   have z:scope.names.lookup y=some .cell:=by simpa using z
   have e:cenv.cells.lookup y=some c:=e
   rw [hcl] at e
   rcases cells_mem (PySem.mem_of_lookup e) with hm | ⟨_,h2,_⟩
   ·rcases cloFrom_mem hm with hm | ⟨h1,_⟩
    ·cases hm
    ·have q:=ok.uniq _ h1
     rw [z] at q;cases q
   ·rw [Heap.size_push] at h2
    exact Nat.le_of_succ_le h2
  ·show b≠cenv.locals
   rw [hL];exact Nat.ne_of_lt (hfp b hb).2
  ·have e:cenv.cells.lookup y=some c:=e
   rcases mem e with ⟨h1,_⟩ | ⟨h1,_⟩
   ·exact (hfp b hb).1.2.2.2.2.1 y c h1 z
   ·have h2:s.heap.objs.size + 1≤b:=by rw [← z];exact h1
    exact absurd (Nat.lt_of_lt_of_le (hfp b hb).2 (Nat.le_of_succ_le h2)) (Nat.lt_irrefl _)
  ·rcases (hfp b hb).1.2.2.2.1 with z | z
   ·exact I.ok.noex b o e z
   ·exact absurd (Nat.lt_of_lt_of_le (Heap.lt_size e) (Nat.le_trans I.ok.bsz z)) (Nat.lt_irrefl _)
  ·rcases List.mem_cons.mp (I.stkSub b z) with z | z
   ·exact (hfp b hb).1.2.1 z
   ·exact (hfp b hb).1.2.2.1 z
 refine ⟨okB,rfl,I.bare,Un.kept kp,⟨fun _=>none,?_,fun i y av e1 e2 e3=>?_⟩,fun y c e=>?_,?_,fun y c e=>?_,fun p hp=>?_,I.hok.kept kp,by rw [wipe_length];exact I.len⟩
 ·show Heap.Ns _ cenv.locals _
  rw [hL]
  exact Heap.Ns.keeps (Heap.Ns.new ..) fun b o e=>pushCells_keeps _ _ _ _ e
 ·obtain ⟨e2,hne⟩:=wipe_some e2
  have hfr:scope.names.lookup y=some .free∧(cenv.kindOf y=some .cell∨cenv.kindOf y=some .free):=by
   have key:∀ k,cenv.scope.names.lookup y=some k→k = .local∨k = .cell∨k = .free→scope.names.lookup y=some .free∧(cenv.kindOf y=some .cell∨cenv.kindOf y=some .free):=fun k hk hk'=>by
    have hk0:=hk
    rw [hsc] at hk
    obtain ⟨k',e,r⟩:=lookup_relS hk
    have no:¬ (k' = .local∨k' = .cell):=fun hh=>by
     rcases ok.own _ (PySem.mem_of_lookup e) hh with e' | e'
     ·obtain ⟨p,hp,hpy⟩:=List.mem_map.mp e'
      have e3:=ok.ix p hp
      have:p.1=y:=hpy
      rw [this] at e3
      exact hne (List.mem_map.mpr ⟨p,hp,nodup_ix hN e3 e1⟩)
     ·exact e' (List.mem_of_getElem? e1)
    rcases r with rfl | ⟨rfl,rfl⟩
    ·rcases hk' with rfl | rfl | rfl
     ·exact absurd (.inl rfl) no
     ·exact absurd (.inr rfl) no
     ·exact ⟨e,.inr hk0⟩
    ·exact ⟨e,.inl hk0⟩
   have e3:Vis cenv.scope y:=e3
   rcases e3 with e3 | e3 | e3
   ·exact key _ e3 (.inl rfl)
   ·exact key _ e3 (.inr (.inl rfl))
   ·exact key _ e3 (.inr (.inr rfl))
  obtain ⟨m,hn,hl⟩:=I.loc
  have hvis:Vis X.env.scope y:=(ok.free _ (PySem.mem_of_lookup hfr.1) rfl).elim (fun k=>.inr (.inl k)) (fun k=>.inr (.inr k))
  obtain ⟨w,r,q⟩:=hl i y av e1 e2 hvis
  refine ⟨w,r,.inr ⟨hfr.2,?_⟩⟩
  obtain ⟨c,h1,h2⟩:=look hfr.1
  rcases q with ⟨k,_⟩ | ⟨_,c',e',z⟩
  ·have k:X.env.scope.names.lookup y=some .local:=k
   rcases ok.free _ (PySem.mem_of_lookup hfr.1) rfl with k' | k' <;> rw [show X.env.scope.names.lookup y=_ from k'] at k <;> cases k
  ·rw [h2] at e';cases e'
   exact ⟨c,h1,z.keeps kp⟩
 ·have e:cenv.cells.lookup y=some c:=e
  rcases mem e with ⟨h1,_⟩ | ⟨_,z⟩
  ·obtain ⟨w,z⟩:=I.cell y c h1
   exact ⟨w,z.keeps kp⟩
  ·exact ⟨_,z⟩
 ·show H cenv.locals=none
  rw [hL];exact I.hok.fresh (Nat.le_refl _)
 ·have e:cenv.cells.lookup y=some c:=e
  rcases mem e with ⟨h1,_⟩ | ⟨h1,_⟩
  ·exact I.freeC y c h1
  ·exact I.hok.fresh (Nat.le_of_succ_le h1)
 ·exact absurd (show p∈([]:List (Addr×Obj)) ++ [] from hp) (by simp)
theorem app_ok{E:Value→Shared→Prop}{D:Addr}{xs:List V}{y:V}{v:Value}{Q:Value→Shared→Prop}(I:Inv X pins σ H s)(hD:H D=some (.lst xs))(hz:xs.length < sizeLine)(r:RelV y v)
  (h:∀ s',Inv X pins σ (upd H D (.lst (xs ++ [y]))) s'→Q .none s'):wpAny (model X.prog X.w) X.A (call (.builtin "list.append") [.ref D,v]) Q E s:=by
 obtain ⟨hz',its,n,ri,e⟩:=I.hok D _ hD
 have hl:=ri.length
 refine append_at (hsz:=by rw [List.size_toArray];omega) e fun h' sb ho'=>?_
 refine h { s with heap:=h' } (I.write (t':=s.toks) (by rw [hD];trivial) (.inl rfl) (fun b u hb q=>(sb.2 b hb).trans q) ⟨_,ho'⟩ ⟨by rw [List.length_append];exact hz,its ++ [v],n + 1,ri.append (.cons r .nil),?_⟩)
 rw [ho']
 simp
def PTs(X:Cx)(ifs:List Expr)(t:TT):Prop :=
 ∀ (pins:List (Addr×Obj)) (s:Shared) (σ:St) (H:Hp) (Q:Bool→Hp→Prop),Inv X pins σ H s→t σ H Q→
  wpAny (model X.prog X.w) X.A (forIn ifs true fun c r=>if r=true then do let ok ← isTrue c X.env (eval c X.env);pure (ForInStep.yield ok) else pure (ForInStep.yield r)) (TP X pins σ Q) X.xe s
def tYes:TT:=fun _ H Q=>Q true H
theorem pts_nil:PTs X [] tYes:=fun _ _ _ H _ I h=>wpAny_tests_nil ⟨H,I,h⟩
end
theorem thnF{α:Type}{t:Sem α}{Q Q':α→Shared→Prop}{M:Model}{A:Around}{E:Value→Shared→Prop}{s:Shared}(h:wpAny M A t Q (fun _ _=>False) s)(hQ:∀ a s,Q a s→Q' a s):wpAny M A t Q' E s:=wpAny_mono h hQ fun _ _ z=>False.elim z
theorem compLoop_any{prog:Program}{w:World}{A:Around}{R:Result→Shared→Prop}{s:Shared}{elt target iter:Expr}{ifs:List Expr}{scope:Scope}{pos:Pos}{it acc:Value}{env:Env}(I:Nat→Shared→Prop)
  (turn:∀ n s,I n s→wpAny (model prog w) A (pyNext it) (fun r s₁=>match r with
   | none=>R (.ok .next) s₁
   | some v=>wpAny (model prog w) A (letOwnedTupleGo target it v) (fun _ s₁'=>wpAny (model prog w) A (assign target env v) (fun _ s₂ =>
     wpAny (model prog w) A (forIn ifs true fun c r=>if r=true then do let ok ← isTrue c env (eval c env);pure (ForInStep.yield ok) else pure (ForInStep.yield r)) (fun ok s₃ =>
      if ok=true then wpAny (model prog w) A (eval elt env) (fun x s₄ =>
       wpAny (model prog w) A (call (.builtin "list.append") [acc,x]) (fun _ s₅=>∃ m,m < n∧I m s₅) (notedBy (model prog w) A env fun e s'=>R (.error e) s') s₄) (notedBy (model prog w) A env fun e s'=>R (.error e) s') s₃
      else ∃ m,m < n∧I m s₃) (notedBy (model prog w) A env fun e s'=>R (.error e) s') s₂) (notedBy (model prog w) A env fun e s'=>R (.error e) s') s₁') (notedBy (model prog w) A env fun e s'=>R (.error e) s') s₁) (notedBy (model prog w) A env fun e s'=>R (.error e) s') s)
  (n:Nat) (h:I n s) :
  codeAny (model prog w) A (.compLoop (.ListComp elt [⟨target,iter,ifs,0⟩] scope pos) 0 it acc env) R s:=by
 refine codeAny_loop rfl I (fun n s hI=>?_) n h
 show wpAny _ A ((compTurn (.ListComp elt [⟨target,iter,ifs,0⟩] scope pos) 0 it acc env).onRaise (fun x=>do noteFrame x env;theTreesLotGoes x)) _ _ s
 refine wpAny_noted ?_
 rw [compTurn_list]
 refine wpAny_bind (wpAny_standAt (wpAny_bind (wpAny_mono (turn n s hI) (fun r s₁ h₁=>?_) fun _ _ h'=>h')))
 cases r with
 | none=>exact wpAny_pure h₁
 | some v =>
  refine wpAny_bind (wpAny_mono h₁ (fun _ s₁' h₁'=>?_) fun _ _ h'=>h')
  refine wpAny_bind (wpAny_mono h₁' (fun _ s₂ h₂=>wpAny_bind (wpAny_mono h₂ (fun ok s₃ h₃=>?_) fun _ _ h'=>h')) fun _ _ h'=>h')
  cases ok with
  | false=>exact wpAny_pure ⟨rfl,h₃⟩
  | true =>
   exact wpAny_bind (wpAny_bind (wpAny_mono h₃ (fun x s₄ h₄=>wpAny_bind (wpAny_mono h₄ (fun _ s₅ h₅=>wpAny_pure (wpAny_pure ⟨rfl,h₅⟩)) fun _ _ h'=>h')) fun _ _ h'=>h'))
section
variable{X:Cx}
def tLc(wi:TI)(g:TG)(tt:TT)(te:TE)(vs:List Nat):TE:=fun σ H Q=>wi σ H fun J H1=>∀ D,H1 D=none→∃ W:Nat→Nat→Hp→Prop,(∃ m,W 0 m (upd H1 D (.lst [])))∧∀ i m H,W i m H→
 (J.stop i H∧Q (.ref D) H)∨(J.go i H∧∃ Nx:Hp→Prop,(∀ H',Nx H'→∃ m',m' < m∧W (i + 1) m' H')∧∀ x H',J.yld i H x H'→g x (wipe σ vs) H' fun σ2 H2=>wipe σ2 vs=wipe σ vs∧tt σ2 H2 fun b H3 =>
  if b=true then te σ2 H3 fun y H4=>∃ acc,H4 D=some (.lst acc)∧acc.length < sizeLine∧Nx (upd H4 D (.lst (acc ++ [y]))) else Nx H3)
theorem lc_core{pins:List (Addr×Obj)}{s:Shared}{σ:St}{H:Hp}{Q:VK}{elt tg iter:Expr}{ifs:List Expr}{scope:Scope}{own:List (Str×Nat)}{pos pos':Pos}{wi:TI}{g:TG}{tt:TT}{te:TE}{use:Option (Value→Sem Unit)}{Qf:Value→Shared→Prop}
  (hc:X.calm=true) (hN:X.N.Nodup) (I:Inv X pins σ H s) (hi:PI X tg iter wi) (ok:BlkOk X.N X.env.scope scope own)
  (hg:∀ (s:Shared) (H:Hp) (C:Addr) (cl:List (Str×Addr)) (fp:List Addr),PG (X.blk s H scope (compEnvC scope cl C X.env) fp) tg g) (ht:∀ (s:Shared) (H:Hp) (C:Addr) (cl:List (Str×Addr)) (fp:List Addr),PTs (X.blk s H scope (compEnvC scope cl C X.env) fp) ifs tt)
  (he:∀ (s:Shared) (H:Hp) (C:Addr) (cl:List (Str×Addr)) (fp:List Addr),PE (X.blk s H scope (compEnvC scope cl C X.env) fp) elt te) (hs:∀ x,foldedSetIterable iter X.env x=pure x)
  (h:tLc wi g tt te (own.map (·.2)) σ H Q)
  (hRR:∀ D C s' m H',Inv X pins σ H' s'→Q (.ref D) H'→s'.heap.Ns C m→FpOk X pins H' C→compPost (model X.prog X.w) X.A X.xe use Qf (.ref D) C (.ok .next) s') :
  wpAny (model X.prog X.w) X.A (comprehension (.ListComp elt [⟨tg,iter,ifs,0⟩] scope pos) scope X.env pos' (newList []) false (eval iter X.env) use) Qf X.xe s:=by
 have hfree:∀ y∈scope.names,y.2 = .free→∃ c,X.env.cells.lookup y.1=some c:=fun y hy e=>by
  rcases ok.free y hy e with k | k
  ·exact I.ok.has _ (.inl k)
  ·exact I.ok.has _ (.inr k)
 refine wpAny_comprehension_free (use:=use) rfl hs (closure_ok hfree) ok.kind (fun y hy e=>by rw [ok.uniq y hy,e])
  (thn (hi pins s σ H _ I h) fun xv s1 hx=>thn hx fun itv s2 h2=>?_)
 obtain ⟨it,fp,tn,J,H2,e,I2,T,st2,f2,q⟩:=h2
 subst e
 refine wpAny_newObj_type (newEnv_comp ?_) (by show 0≤sizeLine;decide)
 generalize hD:s2.heap.objs.size=D
 have hDn:H2 D=none:=I2.hok.fresh (Nat.le_of_eq hD)
 obtain ⟨W,⟨m0,w0⟩,turn⟩:=q D hDn
 generalize hs3:({ s2 with heap:=s2.heap.push { cls:=.type "list",data:=.seq ([]:List Value).toArray } }:Shared)=s3
 have I3:Inv X pins σ (upd H2 D (.lst [])) s3:=by
  rw [← hs3]
  refine I2.laid (t':=s2.toks) (fun b o e=>Heap.get?_push_of_some _ e) (Nat.le_of_eq hD) ⟨Nat.zero_le _,[],0,.nil,?_⟩
  rw [← hD]
  exact Heap.get?_push_size _ rfl
 have h3:s3.heap=s2.heap.push { cls:=.type "list",data:=.seq ([]:List Value).toArray }:=by rw [← hs3]
 have sz:∀ b∈fp,b < s2.heap.objs.size:=fun b hb=>by
  obtain ⟨o,e,_⟩:=T.obj _ _ st2 b hb
  exact Heap.lt_size e
 have f3:∀ b∈fp,FpOk X pins (upd H2 D (.lst [])) b∧b < s3.heap.objs.size:=fun b hb=>by
  have hlt:=sz b hb
  refine ⟨⟨?_,(f2 b hb).2⟩,by rw [h3,Heap.size_push];exact Nat.lt_succ_of_lt hlt⟩
  rw [upd_ne (by rw [← hD];exact Nat.ne_of_lt hlt)]
  exact (f2 b hb).1
 have st3:tn 0 s3.heap:=T.keep _ _ _ st2 fun b _ o e=>by rw [h3];exact Heap.get?_push_of_some _ e
 have I4:=block_start I3 ok hN f3
 have pg:=hg s3 (upd H2 D (.lst [])) s3.heap.objs.size (cellsFrom (s3.heap.objs.size + 1) scope.names (cloFrom X.env.cells scope.names [])) fp
 have pt:=ht s3 (upd H2 D (.lst [])) s3.heap.objs.size (cellsFrom (s3.heap.objs.size + 1) scope.names (cloFrom X.env.cells scope.names [])) fp
 have pe:=he s3 (upd H2 D (.lst [])) s3.heap.objs.size (cellsFrom (s3.heap.objs.size + 1) scope.names (cloFrom X.env.cells scope.names [])) fp
 show codeAny _ _ (.compStart (.ListComp elt [⟨tg,iter,ifs,0⟩] scope pos) 0 (.ref it) (.ref D) (compEnvC scope (cellsFrom (s3.heap.objs.size + 1) scope.names (cloFrom X.env.cells scope.names [])) s3.heap.objs.size X.env)) (compPost (model X.prog X.w) X.A X.xe use Qf (.ref D) s3.heap.objs.size) { s3 with heap:=pushCells (s3.heap.push { cls:=.type "dict",data:=.dict #[] }) scope.names }
 have nfp:∀ b∈fp,(upd H2 D (.lst [])) b=none:=fun b hb=>(f3 b hb).1.1
 generalize hce:compEnvC scope (cellsFrom (s3.heap.objs.size + 1) scope.names (cloFrom X.env.cells scope.names [])) s3.heap.objs.size X.env=ce at I4 pg pt pe ⊢
 have cL:ce.locals=s3.heap.objs.size:=by subst hce;rfl
 generalize hH3:upd H2 D (.lst [])=H3 at I3 I4 pg pt pe w0 nfp f3
 generalize hs4:({ s3 with heap:=pushCells (s3.heap.push { cls:=.type "dict",data:=.dict #[] }) scope.names }:Shared)=s4 at I4 ⊢
 have st4:tn 0 s4.heap:=T.keep _ _ _ st3 fun b _ o e=>by rw [← hs4];exact pushCells_keeps _ _ _ _ (Heap.get?_push_of_some _ e)
 have stat:∀ {σ':St} {H':Hp} {s':Shared},Inv (X.blk s3 H3 scope ce fp) [] σ' H' s'→(∀ b∈fp,H' b=none)→∀ b∈fp,FpOk (X.blk s3 H3 scope ce fp) [] H' b:=fun {σ' H' s'} I' hn b hb =>
  ⟨hn b hb,(I'.ok.exf b hb).1,I'.ok.exfs b hb,.inl hb,fun x c e=>(I'.ok.exf b hb).2 x c e,fun p hp=>absurd (show p∈([]:List (Addr×Obj)) ++ [] from hp) (by simp)⟩
 have loop:codeAny (model X.prog X.w) X.A (.compLoop (.ListComp elt [⟨tg,iter,ifs,0⟩] scope pos) 0 (.ref it) (.ref D) ce) (compPost (model X.prog X.w) X.A X.xe use Qf (.ref D) s3.heap.objs.size) s4:=by
  refine compLoop_any (fun n s'=>∃ i H',Inv (X.blk s3 H3 scope ce fp) [] (wipe σ (own.map (·.2))) H' s'∧tn i s'.heap∧(∀ b∈fp,H' b=none)∧W i n H') ?_ m0 ⟨0,H3,I4,st4,nfp,w0⟩
  rintro n s5 ⟨i,H5,I5,st5,n5,w5⟩
  rcases turn i n H5 w5 with ⟨stop,qq⟩ | ⟨go,Nx,hNx,step⟩
  ·have td:=T.done (X.blk s3 H3 scope ce fp) rfl rfl rfl hc i [] s5 _ H5 (fun _ _=>False) I5 (stat I5 n5) st5 stop
   refine thnF td fun r s6 ⟨hr,I6⟩=>?_
   subst hr
   have I7:Inv X pins σ H5 s6:=I3.call' (ch:=fp) I6.os I6.base I6.hok I6.bare fun b hb=>⟨(f3 b hb).1.2.2.2.1,(f3 b hb).1.2.1,(f3 b hb).1.2.2.2.2.1,(f3 b hb).1.2.2.2.2.2⟩
   have nC:H5 s3.heap.objs.size=none:=by
    have z:H5 ce.locals=none:=I6.free
    rw [cL] at z
    exact z
   obtain ⟨m,hn,_⟩:=I6.loc
   have hn:s6.heap.Ns ce.locals m:=hn
   rw [cL] at hn
   exact hRR D s3.heap.objs.size s6 m H5 I7 qq hn (I3.fpOk (Nat.le_refl _) nC)
  ·have ti:=T.item (X.blk s3 H3 scope ce fp) rfl rfl rfl hc i [] s5 _ H5 (fun _ _=>False) I5 (stat I5 n5) st5 go
   refine thnF ti fun r s6 ⟨u,hr,h6⟩=>?_
   subst hr
   refine thnF h6 fun _ s7 ⟨x,H7,I7,r7,y7,st7,n7⟩=>?_
   have I7':=I7.pinned (stat I7 n7) (T.obj _ _ st7)
   refine thnF (pg _ s7 _ H7 x u _ I7' r7 (step x H7 y7)) fun _ s8 ⟨σ8,H8,I8,hw8,q8⟩=>?_
   refine thnF (pt _ s8 σ8 H8 _ I8 q8) fun b s9 ⟨H9,I9,q9⟩=>?_
   have fin:∀ {s':Shared} {H':Hp},Inv (X.blk s3 H3 scope ce fp) ([] ++ pinsAt fp s7.heap) σ8 H' s'→Nx H'→∃ m,m < n∧∃ i H',Inv (X.blk s3 H3 scope ce fp) [] (wipe σ (own.map (·.2))) H' s'∧tn i s'.heap∧(∀ b∈fp,H' b=none)∧W i m H':=fun {s' H'} I' nx=>by
    obtain ⟨m',hm,w'⟩:=hNx H' nx
    have pin':∀ b∈fp,∀ o,s7.heap.get? b=some o→s'.heap.get? b=some o∧H' b=none:=fun b hb o e =>
     let z:=I'.pin (b,o) (List.mem_append_right _ (List.mem_append_right _ (mem_pinsAt hb e)))
     ⟨z.1,z.2.1⟩
    have hl:(wipe σ (own.map (·.2))).length=σ8.length:=by rw [← hw8,wipe_length]
    refine ⟨m',hm,i + 1,H',(I'.unpinned (pins:=[])).weak hl (fun j v e=>?_),T.keep _ _ _ st7 fun b hb o e=>(pin' b hb o e).1,fun b hb=>?_,w'⟩
    ·rw [← hw8] at e
     exact (wipe_some e).1
    ·obtain ⟨o,e,_⟩:=T.obj _ _ st7 b hb
     exact (pin' b hb o e).2
   cases b with
   | false =>
    simp only [Bool.false_eq_true,if_false] at q9 ⊢
    exact fin I9 q9
   | true =>
    simp only [if_true] at q9 ⊢
    refine thnF (pe _ s9 σ8 H9 _ I9 q9) fun z s10 ⟨yv,H10,I10,r10,acc,hD10,hz10,nx⟩=>?_
    exact app_ok (X:=X.blk s3 H3 scope ce fp) I10 hD10 hz10 r10 fun s11 I11=>fin I11 nx
 exact codeAny_compStart_list loop (T.self X.A 0 _ _ _ st4 loop)
theorem pe_lc{elt tg iter:Expr}{ifs:List Expr}{scope:Scope}{own:List (Str×Nat)}{pos:Pos}{wi:TI}{g:TG}{tt:TT}{te:TE}(hc:X.calm=true)(hN:X.N.Nodup)(hi:PI X tg iter wi)(ok:BlkOk X.N X.env.scope scope own)
  (hg:∀ (s:Shared) (H:Hp) (C:Addr) (cl:List (Str×Addr)) (fp:List Addr),PG (X.blk s H scope (compEnvC scope cl C X.env) fp) tg g) (ht:∀ (s:Shared) (H:Hp) (C:Addr) (cl:List (Str×Addr)) (fp:List Addr),PTs (X.blk s H scope (compEnvC scope cl C X.env) fp) ifs tt)
  (he:∀ (s:Shared) (H:Hp) (C:Addr) (cl:List (Str×Addr)) (fp:List Addr),PE (X.blk s H scope (compEnvC scope cl C X.env) fp) elt te) (hs:∀ x,foldedSetIterable iter X.env x=pure x:=by intro _;rfl) :
  PE X (.ListComp elt [⟨tg,iter,ifs,0⟩] scope pos) (tLc wi g tt te (own.map (·.2))):=by
 intro pins s σ H Q I h
 rw [eval_ListComp]
 refine lc_core hc hN I hi ok hg ht he hs h fun D C s' m H' I' q hn f=>⟨m,hn,fun h'' sb=>?_⟩
 obtain ⟨f0,f1,f2,f3,f4,f5⟩:=f
 exact ⟨.ref D,H',I'.turned (t':=s'.toks) (fun b o hb e=>(sb.2 b hb).trans e) f0 f1 f3 f4 f5,rfl,q⟩
theorem ps_setLc{i:Nat}{y:Str}{py:Pos}{elt tg iter:Expr}{ifs:List Expr}{scope:Scope}{own:List (Str×Nat)}{pos spos:Pos}{wi:TI}{g:TG}{tt:TT}{te:TE}(hc:X.calm=true)(hN:X.N.Nodup)(hy:X.N[i]? = some y)(hyl:X.env.scope.names.lookup y=some .local)
  (hsw:swapsWith (.ListComp elt [⟨tg,iter,ifs,0⟩] scope pos) (some (.Name y py)) spos.line X.env=pure true) (hi:PI X tg iter wi) (ok:BlkOk X.N X.env.scope scope own)
  (hg:∀ (s:Shared) (H:Hp) (C:Addr) (cl:List (Str×Addr)) (fp:List Addr),PG (X.blk s H scope (compEnvC scope cl C X.env) fp) tg g) (ht:∀ (s:Shared) (H:Hp) (C:Addr) (cl:List (Str×Addr)) (fp:List Addr),PTs (X.blk s H scope (compEnvC scope cl C X.env) fp) ifs tt)
  (he:∀ (s:Shared) (H:Hp) (C:Addr) (cl:List (Str×Addr)) (fp:List Addr),PE (X.blk s H scope (compEnvC scope cl C X.env) fp) elt te) (hs:∀ x,foldedSetIterable iter X.env x=pure x:=by intro _;rfl) :
  PS X (.Assign [.Name y py] (.ListComp elt [⟨tg,iter,ifs,0⟩] scope pos) spos) (tAsg (tLc wi g tt te (own.map (·.2))) (gName i)):=by
 intro pins s σ H D I h
 rw [exec_Assign_Name_used _ _ _ _ hsw]
 refine wpAny_bind (wpAny_standAt (wpAny_bind ?_))
 show wpAny _ X.A (do let _ ← comprehension (.ListComp elt [⟨tg,iter,ifs,0⟩] scope pos) scope X.env (firstIterPos [⟨tg,iter,ifs,0⟩] pos) (newList []) false (eval iter X.env) (some (assign (.Name y py) X.env))) _ _ s
 have h:tLc wi g tt te (own.map (·.2)) σ H (fun x H1=>gName i x σ H1 D.nx):=h
 refine wpAny_bind (thn (lc_core (Qf:=fun _ s'=>SP X pins D .next s') hc hN I hi ok hg ht he hs h fun L C s' m H' I' q hn f=>?_) fun _ s' hq=>wpAny_pure (wpAny_pure hq))
 show wpAny _ _ (assign (.Name y py) X.env (.ref L)) _ _ _
 refine wpAny_assign_Name (store_ok2 (v:=V.ref L) I' hN hy (.inl hyl) rfl (fun s2 I2 ⟨a,sb,ha⟩=>?_) (.inr hyl))
 obtain ⟨f0,f1,f2,f3,f4,f5⟩:=f
 have haC:C≠a:=by
  rcases ha with z | z
  ·rw [z];exact f1
  ·exact fun e=>f4 y a z e.symm
 refine ⟨m,hn.sameBut sb haC,fun h3 sb3=>?_⟩
 exact ⟨_,H',I2.turned (t':=s2.toks) (fun b o hb e=>(sb3.2 b hb).trans e) f0 f1 f3 f4 f5,q⟩
end
end L2
namespace L2
open PySem PySem.Spec PyProof.Rows
end L2
namespace L2
open PySem PySem.Spec PyProof.Rows
section
variable{κ:Type}[DecidableEq κ]
def valV(kvs:List (κ×V))(k:κ):Option V:=(kvs.find? fun kv=>decide (kv.1=k)).map (·.2)
theorem valV_pos{p:κ×V}{r:List (κ×V)}{k:κ}(e:p.1=k):valV (p::r) k=some p.2:=by simp [valV,List.find?_cons,e]
theorem valV_neg{p:κ×V}{r:List (κ×V)}{k:κ}(e:¬ p.1=k):valV (p::r) k=valV r k:=by simp [valV,List.find?_cons,e]
theorem RelO.isSome_eq{o:Option V}{u:Option Value}(r:RelO o u):o.isSome=u.isSome:=by
 cases o with
 | none=>cases u with
  | none=>rfl
  | some _=>exact (show False from r).elim
 | some _=>cases u with
  | none=>exact (show False from r).elim
  | some _=>rfl
end
theorem kV_is{P:Program}{w:World}{k:Key}{u:Value}(r:RelV (kV k) u):(mixKind P w).is k u=true:=by
 cases k with
 | inl i=>obtain ⟨t,e⟩:=(show ∃ t,u=Value.int i t from r);subst e;exact mixKind_int P w i t
 | inr x=>obtain ⟨t,e⟩:=(show ∃ t,u=Value.str x t from r);subst e;exact mixKind_str P w x t
theorem items_are{P:Program}{w:World}:∀ {ks:List Key} {us:List Value},Vals (ks.map kV) us→ItemsAre (mixKind P w) ks us
 | [],_,r=>by rw [List.map_nil] at r;cases r;exact .nil
 | k::ks,_,r=>by
  rw [List.map_cons] at r
  cases r with
  | cons h t=>exact .cons (kV_is h) (items_are t)
section
variable{P:Program}{w:World}{H:Hp}{h:Heap}{a:Addr}
theorem key_of{ks:List Key}(ok:HOk P w H h)(e:H a=some (.tup (ks.map kV))):(tupleKind (mixKind P w)).is h ks a:=by
 obtain ⟨_,its,r,o,h1,h2,n,h3⟩:=(show ObjOk P w H h a (.tup (ks.map kV)) from ok a _ e)
 exact ⟨o,its.toArray,n,h1,h2,h3,by simpa using items_are r⟩
end
def NoSl(i:Expr):Prop:=∀ ov iv,subscripted i false ov iv=operate [ov,iv] (getItem ov iv)
theorem subD_of{prog:Program}{w:World}{A:Around}{E:Value→Shared→Prop}{s:Shared}{env:Env}{value slice:Expr}{pos:Pos}{T id:String}{Q:Value→Shared→Prop}
  (hl:typeLookup (.type T) "__getitem__"=pure (some (.builtin id))) (hs:NoSl slice)
  (h:wpAny (model prog w) A (eval value env) (fun o s₁=>wpAny (model prog w) A (eval slice env) (fun i s₂=>s₂.TypeIs o T∧wpAny (model prog w) A (getItem o i) Q E s₂) E s₁) E s) :
  wpAny (model prog w) A (eval (.Subscript value slice pos) env) Q E s:=by
 refine Subscript_ (wpAny_mono h (fun o s₁ h₁=>wpAny_mono h₁ (fun i s₂ h₂=>?_) fun _ _ x=>x) fun _ _ x=>x)
 obtain ⟨hT,h₂⟩:=h₂
 unfold subscriptTail
 refine wpAny_bind ?_
 rw [getitemInPython_of_ne hT.not_modules]
 refine wpAny_bind (wpAny_specialOf hT hl ?_)
 have fin:wpAny (model prog w) A (subscripted slice false o i) (fun r s₃=>wpAny (model prog w) A (letTemporaryGo value o r >>= fun _=>pure r) Q E s₃) E s₂:=by
  rw [hs o i]
  exact wpAny_operating (wpAny_mono h₂ (fun r s₃ h₃=>wpAny_bind (wpAny_letTemporaryGo (wpAny_pure h₃))) fun _ _ x=>x)
 first
  | exact wpAny_pure (wpAny_bind fin)
  | exact wpAny_bind (wpAny_pure (wpAny_bind fin))
  | exact wpAny_bind fin
end L2
namespace L2
open PySem PySem.Spec PyProof.Rows
end L2
namespace L2
open PySem PySem.Spec PyProof.Rows
section
variable{X:Cx}{pins:List (Addr×Obj)}{σ:St}{H:Hp}{s:Shared}{h':Heap}
theorem Inv.turnedL{t':Nat}{ch:List Addr}(I:Inv X pins σ H s)(k:∀ b o,b∉ch→s.heap.get? b=some o→h'.get? b=some o)(hf:∀ b∈ch,FpOk X pins H b):Inv X pins σ H { s with heap:=h',toks:=t' }:=by
 have nit:∀ b u,H b=some u→b∉ch:=fun b u e z=>by
  have q:=(hf b z).1
  rw [q] at e;cases e
 refine I.step (g':=s.gens) (d':=s.drawn) (ch:=ch) (fun b hb=>⟨(hf b hb).2.2.2.1,(hf b hb).2.1,(hf b hb).2.2.2.2.1,(hf b hb).2.2.2.2.2⟩) (fun b o _ _ hc e _=>k b o hc e) (fun b o _ _ hc e _=>⟨o.slots,k b o hc e⟩)
  (fun _ _ _ _ n=>n) (fun b o hc e=>⟨o,k b o hc e⟩) (fun _ _ e=>e) (fun _ _ _ e=>e) (fun b ps e=>⟨#[],by rw [e];simp⟩) (fun m hm=>?_) (fun b u e=>?_) I.bare
 ·obtain ⟨o,es,ep,ho,r⟩:=hm
  exact ⟨o,es,ep,k _ o (fun z=>(hf _ z).2.1 rfl) ho,r⟩
 ·refine (I.hok b u e).stay (fun c v hc q=>k c v ?_ q) (fun _ q=>q) fun _ _ q=>q
  rcases hc with z | z
  ·rw [z];exact nit b u e
  ·exact nit c _ z
theorem Inv.turnedNew{t':Nat}{ch:List Addr}{T:Addr}{ob:HO}(I:Inv X pins σ H s)(k:∀ b o,b∉ch→s.heap.get? b=some o→h'.get? b=some o)(hf:∀ b∈ch,FpOk X pins H b)(hT:s.heap.objs.size≤T)
  (new:ObjOk X.prog X.w (upd H T ob) h' T ob):Inv X pins σ (upd H T ob) { s with heap:=h',toks:=t' }:=by
 have hn:H T=none:=I.hok.fresh hT
 have nit:∀ b u,H b=some u→b∉ch:=fun b u e z=>by
  have q:=(hf b z).1
  rw [q] at e;cases e
 refine I.step (g':=s.gens) (d':=s.drawn) (ch:=ch) (fun b hb=>⟨(hf b hb).2.2.2.1,(hf b hb).2.1,(hf b hb).2.2.2.2.1,(hf b hb).2.2.2.2.2⟩) (fun b o _ _ hc e _=>k b o hc e) (fun b o _ _ hc e _=>⟨o.slots,k b o hc e⟩)
  (fun b o _ e n=>?_) (fun b o hc e=>⟨o,k b o hc e⟩) (fun b xs e=>?_) (fun b o u e=>?_) (fun b ps e=>⟨#[],?_⟩) (fun m hm=>?_) (fun b u e=>?_) I.bare
 ·rw [upd_ne (Nat.ne_of_lt (Nat.lt_of_lt_of_le (Heap.lt_size e) hT))];exact n
 ·rw [upd_ne (ne_of_none e hn)];exact e
 ·rw [upd_ne (ne_of_none e hn)];exact e
 ·rw [upd_ne (ne_of_none e hn),e];simp
 ·obtain ⟨o,es,ep,ho,r⟩:=hm
  exact ⟨o,es,ep,k _ o (fun z=>(hf _ z).2.1 rfl) ho,r⟩
 ·by_cases hb:b=T
  ·subst hb
   rw [upd_same] at e
   cases e
   exact new
  ·rw [upd_ne hb] at e
   refine (I.hok b u e).stay (fun c v hc q=>k c v ?_ q) (fun c q=>by rw [upd_ne (ne_of_none q hn)];exact q) fun c xs q=>by rw [upd_ne (ne_of_none q hn)];exact q
   rcases hc with z | z
   ·rw [z];exact nit b u e
   ·exact nit c _ z
end
section
variable{X:Cx}
end
def Ite(K:PySem.W.Frag)(a:Addr):It :=
 ⟨fun i H=>∃ (xs:List V) (x:V),SqL K H a xs∧xs[i]? = some x,fun i H v H'=>∃ T x,v = .ref T∧H T=none∧H'=upd H T (.tup [.int (i:Nat),x])∧∀ xs,SqL K H a xs→xs[i]? = some x,fun i H=>∃ xs:List V,SqL K H a xs∧xs.length≤i⟩
theorem turn_enum{P:Program}{w:World}{K:PySem.W.Frag}{elts:List Expr}{kk:Nat}{tpos:Pos}(a e it:Addr) :
  Turn P w K (.Tuple elts kk tpos) (Ite K a) [e,it] e (fun i h=>(∃ old,IsEnum h e it ((i:Nat):Int) old)∧h.IsListIter it a i∧e≠it) where
 mem:=by simp
 obj:=fun i h st b hb=>by
  obtain ⟨⟨old,he⟩,⟨o,ho,hc,hd⟩,_⟩:=st
  have e':b=e∨b=it:=by simpa using hb
  rcases e' with z | z
  ·rw [z];exact ⟨_,he,fun v q=>nomatch q⟩
  ·rw [z];exact ⟨o,ho,fun v q=>by rw [hd] at q;cases q⟩
 keep:=fun i h h' st k=>let ⟨⟨old,he⟩,hi,hne⟩:=st;⟨⟨old,k e (by simp) _ he⟩,hi.at fun o q=>k it (by simp) o q,hne⟩
 item:=by
  intro X hP hw hK hc i pins s σ H E I hf st hg
  subst hP hw hK
  obtain ⟨⟨old,he⟩,hit,hne⟩:=st
  obtain ⟨xs,x,hq,hx⟩:=hg
  obtain ⟨its,rv,p,hz⟩:=I.list hq
  obtain ⟨u,hu,ru⟩:=rv.get hx
  have hel:e < s.heap.objs.size:=Heap.lt_size he
  have hil:it < s.heap.objs.size:=by obtain ⟨_,q,_⟩:=hit;exact Heap.lt_size q
  refine wpAny_pyNext_enum_item he hit p.isList (x:=u) (by simpa using hu) hne fun h' ho hit' hT hsz hk=>?_
  refine ⟨_,rfl,wpAny_letOwnedTupleGo_enum (s:={ s with heap:=h',toks:=s.toks + 1 }) ho fun h'' he' sb=>?_⟩
  have hT2:h''.get? s.heap.objs.size=some { cls:=.type "tuple",data:=.seq #[.int i s.toks,u] }:=(sb.2 _ (Nat.ne_of_gt hel)).trans hT
  have new:ObjOk X.prog X.w (upd H s.heap.objs.size (.tup [.int (i:Nat),x])) h'' s.heap.objs.size (.tup [.int (i:Nat),x]) :=
   ⟨by show 2≤sizeLine;decide,[.int i s.toks,u],.cons ⟨_,rfl⟩ (.cons ru .nil),⟨_,hT2,rfl,_,rfl⟩⟩
  have I1:Inv X pins σ (upd H s.heap.objs.size (.tup [.int (i:Nat),x])) { s with heap:=h'',toks:=s.toks + 1 } :=
   I.turnedNew (ch:=[e,it]) (fun b ob hb q=>(sb.2 b (fun z=>hb (by simp [z]))).trans (hk b ob (fun z=>hb (by simp [z])) (fun z=>hb (by simp [z])) q)) hf (Nat.le_refl _) new
  refine ⟨.ref s.heap.objs.size,_,I1,rfl,⟨_,x,rfl,I.hok.fresh (Nat.le_refl _),rfl,fun ys hy=>by rw [I.list_inj hy hq];exact hx⟩,⟨⟨u,?_⟩,hit'.at fun o q=>(sb.2 it (Ne.symm hne)).trans q,hne⟩,fun b hb=>?_⟩
  ·have e1:((i + 1:Nat):Int)=(i:Int) + 1:=by omega
   rw [e1];exact he'
  ·have hb':b < s.heap.objs.size:=by
    have e':b=e∨b=it:=by simpa using hb
    rcases e' with z | z
    ·rw [z];exact hel
    ·rw [z];exact hil
   rw [upd_ne (Nat.ne_of_lt hb')]
   exact (hf b hb).1
 done:=by
  intro X hP hw hK hc i pins s σ H E I hf st hg
  subst hP hw hK
  obtain ⟨⟨old,he⟩,hit,hne⟩:=st
  obtain ⟨xs,hq,hx⟩:=hg
  obtain ⟨its,rv,p,hz⟩:=I.list hq
  obtain ⟨f0,f1,f2,f3,f4,f5⟩:=hf it (by simp)
  have hl:=rv.length
  exact wpAny_pyNext_enum_end (I.ok.hd hc) he hit p.isList (by simp;omega) fun h' eb=>⟨rfl,I.turned (t':=s.toks) (fun b o hb q=>eb b o hb q) f0 f1 f3 f4 f5⟩
 self:=fun A i s Q E st h=>let ⟨⟨_,he⟩,_⟩:=st;wpAny_pyIter_enum he h
def iEnum(K:PySem.W.Frag)(ta:TA):TI:=fun σ H R=>ta σ H fun vs H1=>∃ a xs,vs=[.ref a]∧SqL K H1 a xs∧R (Ite K a) H1
theorem pi_enum{X:Cx}{e:Expr}{ta:TA}{p pos tpos:Pos}{elts:List Expr}{kk:Nat}(hg:Gl X "enumerate")(hm:X.mg "enumerate"=none)(ha:PA X [e] ta)(hs:starEach [e] X.env=[(false,eval e X.env)]:=by rfl) :
  PI X (.Tuple elts kk tpos) (.Call (.Name "enumerate" p) [e] [] pos) (iEnum X.K ta):=by
 intro pins s σ H R I h
 refine Call_ (ld_blt I hg hm boot_enumerate (PyProof.Rows.callWith_type1 (thn (ha pos pins s σ H _ I h) fun us s1 ⟨vs,H1,I1,r1,q1⟩=>?_) hs rfl))
 obtain ⟨a,xs,ex,hq,q⟩:=q1
 subst ex
 cases r1 with
 | cons r rr =>
  cases rr
  cases r
  obtain ⟨its,rv,p',hz⟩:=I1.list hq
  refine call_enumerate_list p'.isList fun h' he hit hsz hk=>wpAny_pyIter_enum he ?_
  have I2:Inv X pins σ H1 { s1 with heap:=h' }:=I1.kept (t':=s1.toks) hk
  refine ⟨s1.heap.objs.size + 1,[s1.heap.objs.size + 1,s1.heap.objs.size],_,_,H1,rfl,I2,turn_enum a (s1.heap.objs.size + 1) s1.heap.objs.size,⟨⟨.none,he⟩,hit,Nat.succ_ne_self _⟩,fun b hb=>?_,q⟩
  have e':b=s1.heap.objs.size + 1∨b=s1.heap.objs.size:=by simpa using hb
  have hle:s1.heap.objs.size≤b:=by
   rcases e' with z | z
   ·rw [z];exact Nat.le_add_right _ _
   ·rw [z];exact Nat.le_refl _
  exact I1.fpOk hle (I1.hok.fresh hle)
theorem boot_zip5:bootBuiltins "zip"=some (.type "zip"):=by decide +kernel
def Itz(K:PySem.W.Frag)(a b:Addr):It :=
 ⟨fun i H=>∃ (xs ys:List V) (x y:V),SqL K H a xs∧SqL K H b ys∧xs[i]? = some x∧ys[i]? = some y,
  fun i H v H'=>∃ T x y,v = .ref T∧H T=none∧H'=upd H T (.tup [x,y])∧(∀ xs,SqL K H a xs→xs[i]? = some x)∧∀ ys,SqL K H b ys→ys[i]? = some y,
  fun i H=>∃ xs ys:List V,SqL K H a xs∧SqL K H b ys∧(xs.length≤i∨ys.length≤i)⟩
theorem turn_zip{P:Program}{w:World}{K:PySem.W.Frag}{elts:List Expr}{kk:Nat}{tpos:Pos}{a b z TI TO i1 i2:Addr}(D:ZipApart z TI TO i1 i2 a b) :
  Turn P w K (.Tuple elts kk tpos) (Itz K a b) [z,TI,TO,i1,i2] z (fun i h=>IsZip h z TI TO .none∧IsPair h TI (.ref i1) (.ref i2)∧(∃ x y,IsPair h TO x y)∧h.IsListIter i1 a i∧h.IsListIter i2 b i) where
 mem:=by simp
 obj:=fun i h st c hc=>by
  obtain ⟨hz,hTI,⟨x,y,hTO⟩,⟨o1,e1,_,d1⟩,⟨o2,e2,_,d2⟩⟩:=st
  have e':c=z∨c=TI∨c=TO∨c=i1∨c=i2:=by simpa using hc
  rcases e' with q | q | q | q | q
  ·rw [q];exact ⟨_,hz,fun v q=>nomatch q⟩
  ·rw [q];exact ⟨_,hTI,fun v q=>nomatch q⟩
  ·rw [q];exact ⟨_,hTO,fun v q=>nomatch q⟩
  ·rw [q];exact ⟨o1,e1,fun v q=>by rw [d1] at q;cases q⟩
  ·rw [q];exact ⟨o2,e2,fun v q=>by rw [d2] at q;cases q⟩
 keep:=fun i h h' st k=>by
  obtain ⟨hz,hTI,⟨x,y,hTO⟩,h1,h2⟩:=st
  exact ⟨k z (by simp) _ hz,k TI (by simp) _ hTI,⟨x,y,k TO (by simp) _ hTO⟩,h1.at fun o q=>k i1 (by simp) o q,h2.at fun o q=>k i2 (by simp) o q⟩
 item:=by
  intro X hP hw hK hc i pins s σ H E I hf st hg
  subst hP hw hK
  obtain ⟨hz,hTI,⟨x0,y0,hTO⟩,h1,h2⟩:=st
  obtain ⟨xs,ys,x,y,hqx,hqy,hx,hy⟩:=hg
  obtain ⟨its,rv,p,_⟩:=I.list hqx
  obtain ⟨its2,rv2,p2,_⟩:=I.list hqy
  obtain ⟨u,hu,ru⟩:=rv.get hx
  obtain ⟨u2,hu2,ru2⟩:=rv2.get hy
  have hzl:z < s.heap.objs.size:=Heap.lt_size hz
  refine wpAny_pyNext_zip_item D hz hTI hTO h1 h2 p.isList p2.isList (x:=u) (y:=u2) (by simpa using hu) (by simpa using hu2) fun h' z' TO' h1' h2' hT hsz hk=>?_
  refine ⟨_,rfl,wpAny_letOwnedTupleGo_zip (s:={ s with heap:=h' }) z' fun h'' z'' sb=>?_⟩
  have hT2:h''.get? s.heap.objs.size=some { cls:=.type "tuple",data:=.seq #[u,u2] }:=(sb.2 _ (Nat.ne_of_gt hzl)).trans hT
  have new:ObjOk X.prog X.w (upd H s.heap.objs.size (.tup [x,y])) h'' s.heap.objs.size (.tup [x,y]) :=
   ⟨by show 2≤sizeLine;decide,[u,u2],.cons ru (.cons ru2 .nil),⟨_,hT2,rfl,_,rfl⟩⟩
  have I1:Inv X pins σ (upd H s.heap.objs.size (.tup [x,y])) { s with heap:=h'' } :=
   I.turnedNew (t':=s.toks) (ch:=[z,TI,TO,i1,i2]) (fun c o hb q=>(sb.2 c (fun q'=>hb (by simp [q']))).trans (hk c o (fun q'=>hb (by simp [q'])) (fun q'=>hb (by simp [q'])) (fun q'=>hb (by simp [q'])) (fun q'=>hb (by simp [q'])) q)) hf (Nat.le_refl _) new
  refine ⟨.ref s.heap.objs.size,_,I1,rfl,⟨_,x,y,rfl,I.hok.fresh (Nat.le_refl _),rfl,fun l hl=>by rw [I.list_inj hl hqx];exact hx,fun l hl=>by rw [I.list_inj hl hqy];exact hy⟩,⟨z'',?_,⟨u,u2,?_⟩,?_,?_⟩,fun c hcm=>?_⟩
  ·exact (sb.2 _ D.TIz).trans (hk _ _ D.TIz D.TITO D.TIi1 D.TIi2 hTI)
  ·exact (sb.2 _ D.TOz).trans TO'
  ·exact h1'.at fun o q=>(sb.2 _ D.i1z).trans q
  ·exact h2'.at fun o q=>(sb.2 _ D.i2z).trans q
  ·have hlt:c < s.heap.objs.size:=by
    have e':c=z∨c=TI∨c=TO∨c=i1∨c=i2:=by simpa using hcm
    rcases e' with q | q | q | q | q
    ·rw [q];exact hzl
    ·rw [q];exact Heap.lt_size hTI
    ·rw [q];exact Heap.lt_size hTO
    ·rw [q];obtain ⟨_,e1,_⟩:=h1;exact Heap.lt_size e1
    ·rw [q];obtain ⟨_,e2,_⟩:=h2;exact Heap.lt_size e2
   rw [upd_ne (Nat.ne_of_lt hlt)]
   exact (hf c hcm).1
 done:=by
  intro X hP hw hK hc i pins s σ H E I hf st hg
  subst hP hw hK
  obtain ⟨hz,hTI,⟨x0,y0,hTO⟩,h1,h2⟩:=st
  obtain ⟨xs,ys,hqx,hqy,hend⟩:=hg
  obtain ⟨its,rv,p,_⟩:=I.list hqx
  obtain ⟨its2,rv2,p2,_⟩:=I.list hqy
  have l1:=rv.length
  have l2:=rv2.length
  have he:its.toArray[i]? = none∨its2.toArray[i]? = none:=by
   rcases hend with q | q
   ·exact .inl (by simp;omega)
   ·exact .inr (by simp;omega)
  exact wpAny_pyNext_zip_end (I.ok.hd hc) D hz hTI hTO h1 h2 p.isList p2.isList he fun h' hk=>⟨rfl,I.turnedL (t':=s.toks) (ch:=[z,TI,TO,i1,i2]) (fun c o hb q =>
   hk c o (fun q'=>hb (by simp [q'])) (fun q'=>hb (by simp [q'])) (fun q'=>hb (by simp [q'])) (fun q'=>hb (by simp [q'])) q) hf⟩
 self:=fun A i s Q E st h=>wpAny_pyIter_zip st.1 h
def iZip(K:PySem.W.Frag)(ta:TA):TI:=fun σ H R=>ta σ H fun vs H1=>∃ a b xs ys,vs=[.ref a,.ref b]∧SqL K H1 a xs∧SqL K H1 b ys∧R (Itz K a b) H1
theorem pi_zip{X:Cx}{e e2:Expr}{ta:TA}{p pos tpos:Pos}{elts:List Expr}{kk:Nat}(hg:Gl X "zip")(hm:X.mg "zip"=none)(ha:PA X [e,e2] ta)
  (hs:starEach [e,e2] X.env=(false,eval e X.env)::starEach [e2] X.env:=by rfl) (hpl:(backTo pos (starEach [e2] X.env)).any (·.1)=false:=by rfl) :
  PI X (.Tuple elts kk tpos) (.Call (.Name "zip" p) [e,e2] [] pos) (iZip X.K ta):=by
 intro pins s σ H R I h
 refine Call_ (ld_blt I hg hm boot_zip5 (PyProof.Rows.callWith_type1 (thn (ha pos pins s σ H _ I h) fun us s1 ⟨vs,H1,I1,r1,q1⟩=>?_) hs hpl))
 obtain ⟨a,b,xs,ys,ex,hqx,hqy,q⟩:=q1
 subst ex
 cases r1 with
 | cons r rr =>
  cases rr with
  | cons r' rr =>
   cases rr
   cases r
   cases r'
   obtain ⟨its,rv,p1,_⟩:=I1.list hqx
   obtain ⟨its2,rv2,p2,_⟩:=I1.list hqy
   have la:a < s1.heap.objs.size:=p1.lt
   have lb:b < s1.heap.objs.size:=p2.lt
   refine call_zip_2 p1.isList p2.isList fun h' hz hTI hTO h1 h2 hsz hk=>wpAny_pyIter_zip hz ?_
   have I2:Inv X pins σ H1 { s1 with heap:=h' }:=I1.kept (t':=s1.toks) hk
   refine ⟨s1.heap.objs.size + 4,[s1.heap.objs.size + 4,s1.heap.objs.size + 2,s1.heap.objs.size + 3,s1.heap.objs.size,s1.heap.objs.size + 1],_,_,H1,rfl,I2,turn_zip (PySem.W.ktu_apart s1.heap.objs.size a b la lb),⟨hz,hTI,⟨_,_,hTO⟩,h1,h2⟩,fun c hcm=>?_,q⟩
   have e':c=s1.heap.objs.size + 4∨c=s1.heap.objs.size + 2∨c=s1.heap.objs.size + 3∨c=s1.heap.objs.size∨c=s1.heap.objs.size + 1:=by simpa using hcm
   have hle:s1.heap.objs.size≤c:=by
    rcases e' with z | z | z | z | z
    ·rw [z];exact Nat.le_add_right _ _
    ·rw [z];exact Nat.le_add_right _ _
    ·rw [z];exact Nat.le_add_right _ _
    ·rw [z];exact Nat.le_refl _
    ·rw [z];exact Nat.le_add_right _ _
   exact I1.fpOk hle (I1.hok.fresh hle)
end L2
section
namespace Bits
open PySem PyProof.Rows
end Bits
end
section
namespace TL
open PySem PySem.Builtin PySem.Builtin.Str PySem.StrLaws
end TL
end
namespace L2
open PySem PySem.Spec PyProof.Rows
section
variable{X:Cx}
end
end L2
namespace L2
open PySem PySem.Spec PyProof.Rows
end L2
namespace Att
open PySem PySem.W PySem.Calls PyProof.Rows
section
variable{prog:Program}{w:World}{A:Around}{E:Value→Shared→Prop}{s:Shared}{K:Frag}
end
end Att
namespace L2
open PySem PySem.Spec PyProof.Rows
end L2
namespace L2
open PySem PySem.Spec PyProof.Rows
end L2
namespace L2
open PySem PySem.Spec PyProof.Rows
def inClass(s:Stmt)(j:Nat):Stmt:=match s with
 | .ClassDef _ _ _ body _ _ _ _ _ _ _=>body.getD j (.Pass ⟨0,0,0,0⟩)
 | _=>.Pass ⟨0,0,0,0⟩
def defArgs(s:Stmt):Arguments:=match s with
 | .FunctionDef _ a _ _ _ _ _ _ _ _=>a
 | _=>{ posonlyargs:=[],args:=[],vararg:=none,kwonlyargs:=[],kw_defaults:=[],kwarg:=none,defaults:=[] }
def defBody(s:Stmt):List Stmt:=match s with
 | .FunctionDef _ _ b _ _ _ _ _ _ _=>b
 | _=>[]
def defScope(s:Stmt):Scope:=match s with
 | .FunctionDef _ _ _ _ _ _ sc _ _ _=>sc
 | _=>{ kind:=.function,names:=[],isGenerator:=false,isCoroutine:=false }
structure Fun(K:PySem.W.Frag)(x qual:Str)(st:Stmt)(f:Addr)(fd:FuncData):Prop where
 ex:∃ (oc:Value) (od:Option Addr) (kV doc pm:Value) (an:Option Addr) (cdv ct:Value) (osl:Array (Option Value)),
  fd=PySem.W.fnOf x qual (defArgs st) (defBody st) (defScope st) .none kV doc pm an cdv ct∧K.lookup f=some ⟨oc,od,.func fd,osl⟩∧PySem.W.codeIn K cdv qual=true
 kp:PySem.W.keepIn K (.ref f)=true
section
variable{P:Program}{w:World}{K:PySem.W.Frag}{mg:Str→Option Value}{base:Heap}
theorem Fun.binds{x qual:Str}{st:Stmt}{f:Addr}{fd:FuncData}{ps:List Str}(F:Fun K x qual st f fd)
  (h:∀ (kV doc pm:Value) (an:Option Addr) (cdv ct:Value) (us:List Value),us.length=ps.length→bindArgs (PySem.W.fnOf x qual (defArgs st) (defBody st) (defScope st) .none kV doc pm an cdv ct) ⟨us,[]⟩=pure (ps.zip us)):Binds K fd ps []:=by
 obtain ⟨oc,od,kV,doc,pm,an,cdv,ct,osl,rfl,lk,hcd⟩:=F.ex
 exact .all (h kV doc pm an cdv ct)
theorem fun_mk{x qual:Str}{st:Stmt}{f:Addr}{oc:Value}{od an:Option Addr}{osl:Array (Option Value)}{kV doc pm cdv ct:Value}(l:K.lookup f=some ⟨oc,od,.func (PySem.W.fnOf x qual (defArgs st) (defBody st) (defScope st) .none kV doc pm an cdv ct),osl⟩)
  (c:PySem.W.codeIn K cdv qual=true) (k:PySem.W.keepIn K (.ref f)=true):Fun K x qual st f (PySem.W.fnOf x qual (defArgs st) (defBody st) (defScope st) .none kV doc pm an cdv ct):=⟨⟨oc,od,kV,doc,pm,an,cdv,ct,osl,rfl,l,c⟩,k⟩
end
theorem hu_of{A:Around}{k:Nat}(hr:Room k A):A.units + 1 < cLine:=Nat.lt_of_le_of_lt (Nat.add_le_add_left (by decide:1≤64) _) hr.units
section
variable{X:Cx}
theorem pv(i:Nat){x:Str}{pos:Pos}(hN:X.N[i]? = some x:=by rfl)(hv:Vis X.env.scope x:=by first | exact Or.inl rfl | exact Or.inr (Or.inl rfl) | exact Or.inr (Or.inr rfl))(hd:(x == ("__debug__":Str))=false:=by decide)
  (hcd:(x == ("__classdict__":Str))=false:=by decide):PE X (.Name x pos) (tVar i):=pe_var hN hv hd hcd
end
theorem ite2{c A B:Prop}[Decidable c](h1:c→A)(h2:¬ c→B):if c then A else B:=by
 by_cases h:c
 ·rw [if_pos h]
  exact h1 h
 ·rw [if_neg h]
  exact h2 h
def Same(H H':Hp):Prop:=∀ b o,H b=some o→H' b=some o
theorem Same.refl(H:Hp):Same H H:=fun _ _ h=>h
theorem Same.trans{H H1 H2:Hp}(a:Same H H1)(b:Same H1 H2):Same H H2:=fun c o h=>b c o (a c o h)
theorem Same.seq{K:PySem.W.Frag}{H H':Hp}{a:Addr}{xs:List V}(e:Same H H')(h:SqL K H a xs):SqL K H' a xs:=by
 rcases h with (h | ⟨o,h⟩) | h
 ·exact .inl (.inl (e _ _ h))
 ·exact .inl (.inr ⟨o,e _ _ h⟩)
 ·exact .inr h
theorem Same.made{H H1:Hp}{x dx C:Addr}(nx:H x=Option.none)(nd:H dx=Option.none)(k:∀ b o,(upd (upd H dx (.own x)) x (.ins C dx [])) b=some o→b≠x→H1 b=some o):Same H H1:=fun b o e =>
 k b o (by rw [upd_ne (ne_of_none e nx),upd_ne (ne_of_none e nd)];exact e) (ne_of_none e nx)
end L2
end
section
set_option autoImplicit false
namespace CX
open PySem
abbrev frm(l:List Env):List Addr:=l.filterMap (·.frame)
structure Air(h:Heap)(x T:Addr)(C:Value)(dx:Option Addr)(fl:Value):Prop where
 obj:∃ o vs,h.get? x=some o∧o.cls=C∧o.dict=dx∧o.data = .fields vs∧vs[1]? = some (.ref T)
 ne:T≠x
 tb:∃ o ts,h.get? T=some o∧o.data = .fields ts∧ts[3]? = some fl
structure Left(l:List Env)(x:Addr)(head:Value)(h h':Heap):Prop where
 keep:∀ b o,b≠x→head≠.ref b→b∉frm l→h.get? b=some o→h'.get? b=some o
 slot:∀ b o,b∈frm l→h.get? b=some o→∃ sl,h'.get? b=some { o with slots:=sl }
 there:∀ b o,h.get? b=some o→∃ o',h'.get? b=some o'
theorem dict_map(o:Obj)(f:Array Value→Array Value):(o.mapFields f).dict=o.dict:=by
 obtain ⟨c,d,dt,sl⟩:=o
 cases dt <;> rfl
section
variable{M:Model}{A:Around}{E:Value→Shared→Prop}{s:Shared}{base:Heap}{env:Env}{outer:List Env}{L x:Addr}{o:Obj}{vs:Array Value}{head:Value}{Q:Unit→Shared→Prop}
theorem entry_on{had:Bool}(hfr:A.frames=some (env::outer))(hl:s.heap.FunFrames base (env::outer))(hf:env.frame=some L)(hx:s.heap.get? x=some o)(hd:o.data = .fields vs)(hz:1 < vs.size)
  (h:∀ h' T,s.heap.objs.size≤T→Left (env::outer) x .none s.heap h'→Air h' x T o.cls o.dict (rawInt L)→Q () { s with heap:=h' }) :
  wpAny M A (do let a ← frameOf env;let pl ← entryPlaceOf L had;let y ← EntryCells.newEntry head a .none (rawInt L) .none pl;setField (.ref x) 1 y) Q E s:=by
 have xn:x∉frm (env::outer):=fun hm=>by
  obtain ⟨_,u,hu,hv⟩:=hl.mem hm
  rw [hx] at hu
  cases hu
  exact hv vs hd
 refine wpAny_bind (wpAny_frameOf_fun hfr hl hf fun g1 so=>?_)
 refine wpAny_bind (wpAny_entryPlaceOf fun pl hp=>?_)
 unfold EntryCells.newEntry newFields
 refine wpAny_bind (wpAny_newObj_type ?_ (hp.sizeOk5 _ _ _ _ _))
 have hx1:g1.get? x=some o:=(so.2.1 x xn).trans hx
 generalize hob:({ cls:=.type "traceback",dict:=none,data:=.fields ([head,.ref L,.none,rawInt L,.none] ++ (if pl.isEmpty then List.replicate 6 Value.none else pl)).toArray }:Obj)=tb
 have hfree:tb.isFreed=false:=by subst hob;rfl
 have hx2:=Heap.get?_push_of_some (h:=g1) tb hx1
 have hT2:(g1.push tb).get? g1.objs.size=some tb:=Heap.get?_push_size g1 hfree
 have nTx:g1.objs.size≠x:=Nat.ne_of_gt (Heap.lt_size hx1)
 refine wpAny_setField hx2 hd hz ?_
 have hd3:=Obj.data_mapFields hd (·.setIfInBounds 1 (Value.ref g1.objs.size))
 refine h _ g1.objs.size ?_ ⟨fun b u hb _ hbf hbu=>?_,fun b u hbf hbu=>?_,fun b u hbu=>?_⟩ ⟨⟨_,_,Heap.get?_update_self _ hx2 (Obj.isFreed_of_fields hd3),Obj.cls_mapFields _ _,dict_map _ _,hd3,?_⟩,nTx,tb,_,?_,by subst hob;rfl,?_⟩
 ·rw [so.1];exact Nat.le_refl _
 ·rw [Heap.get?_update_other _ _ (Ne.symm hb)]
  exact Heap.get?_push_of_some _ ((so.2.1 b hbf).trans hbu)
 ·obtain ⟨sl,e⟩:=so.2.2 b u hbu
  have hb:b≠x:=fun z=>xn (z▸hbf)
  exact ⟨sl,by rw [Heap.get?_update_other _ _ (Ne.symm hb)];exact Heap.get?_push_of_some _ e⟩
 ·obtain ⟨sl,e⟩:=so.2.2 b u hbu
  by_cases hb:b=x
  ·subst hb
   exact ⟨_,Heap.get?_update_self _ hx2 (Obj.isFreed_of_fields hd3)⟩
  ·exact ⟨_,by rw [Heap.get?_update_other _ _ (Ne.symm hb)];exact Heap.get?_push_of_some _ e⟩
 ·simp [hz]
 ·rw [Heap.get?_update_other _ _ (Ne.symm nTx)];exact hT2
 ·first
   | rfl
   | (rcases hp with rfl | ⟨_,_,_,_,_,_,_,rfl⟩ <;> simp)
theorem note_on(hfr:A.frames=some (env::outer))(hl:s.heap.FunFrames base (env::outer))(hf:env.frame=some L)(hx:s.heap.get? x=some o)(hd:o.data = .fields vs)(h1:vs[1]? = some head)
  (hh:head = .none∨∃ T u ts,head = .ref T∧T≠x∧s.heap.get? T=some u∧u.data = .fields ts∧ts[3]? = some .none)
  (h:∀ h' T,s.heap.objs.size≤T→Left (env::outer) x head s.heap h'→Air h' x T o.cls o.dict (rawInt L)→Q () { s with heap:=h' }):wpAny M A (noteFrame (.ref x) env) Q E s:=by
 have hz:1 < vs.size:=(Array.getElem?_eq_some_iff.mp h1).1
 unfold noteFrame
 simp only [hf]
 refine wpAny_bind (wpAny_field hx hd h1 ?_)
 rcases hh with rfl | ⟨T,u,ts,rfl,nT,hT,hdT,h3⟩
 ·rw [if_neg (by decide)]
  exact entry_on hfr hl hf hx hd hz fun h' T a b c=>h h' T a ⟨fun q r i1 _ i3 i4=>b.keep q r i1 (by simp) i3 i4,b.slot,b.there⟩ c
 ·rw [if_pos (by simp)]
  refine wpAny_bind (wpAny_field hT hdT h3 ?_)
  rw [if_neg (by simp [rawInt])]
  refine wpAny_bind (wpAny_setField hT hdT (Array.getElem?_eq_some_iff.mp h3).1 ?_)
  have ot:∀ b,b≠T→(s.heap.update T (Obj.mapFields (·.setIfInBounds 3 Value.none))).get? b=s.heap.get? b:=fun b hb=>Heap.get?_update_other _ _ (Ne.symm hb)
  have nf:∀ b q,s.heap.get? b=some q→(∀ ws,q.data≠.fields ws)→b≠T:=fun b q hb hq z=>by
   rw [z,hT] at hb
   cases hb
   exact hq ts hdT
  have hl2:=hl.of_keeps (h':=s.heap.update T (Obj.mapFields (·.setIfInBounds 3 Value.none))) fun b q hb hq=>⟨q,(ot b (nf b q hb hq)).trans hb,rfl⟩
  refine entry_on (s:={ s with heap:=s.heap.update T (Obj.mapFields (·.setIfInBounds 3 Value.none)) }) hfr hl2 hf ((ot x (Ne.symm nT)).trans hx) hd hz fun h' T' a b c=>h h' T' ?_ ⟨fun q r i1 i2 i3 i4=>?_,fun q r i1 i2=>?_,fun q r i1=>?_⟩ c
  ·have a':(s.heap.update T (Obj.mapFields (·.setIfInBounds 3 Value.none))).objs.size≤T':=a
   rwa [Heap.size_after_update] at a'
  ·have nq:q≠T:=fun z=>i2 (by rw [z])
   exact b.keep q r i1 (by simp) i3 ((ot q nq).trans i4)
  ·obtain ⟨_,r',hr',hv⟩:=hl.mem i1
   rw [i2] at hr'
   cases hr'
   exact b.slot q r i1 ((ot q (nf q r i2 hv)).trans i2)
  ·by_cases hq:q=T
   ·subst hq
    exact b.there q _ (Heap.get?_update_self (Obj.mapFields (·.setIfInBounds 3 Value.none)) hT (Obj.isFreed_of_fields (Obj.data_mapFields hdT _)))
   ·exact b.there q r ((ot q hq).trans i1)
theorem flight_off{T:Addr}{C:Value}{dx:Option Addr}{fl:Value}(a:Air s.heap x T C dx fl)
  (h:∀ h',(∀ b u,b≠T→s.heap.get? b=some u→h'.get? b=some u)→Air h' x T C dx .none→Q () { s with heap:=h' }):wpAny M A (setFlight (.ref x) none) Q E s:=by
 obtain ⟨⟨o,vs,hx,hc,hdx,hd,h1⟩,nT,u,ts,hT,hdT,h3⟩:=a
 have hz:3 < ts.size:=(Array.getElem?_eq_some_iff.mp h3).1
 unfold setFlight
 refine wpAny_bind (wpAny_field hx hd h1 ?_)
 rw [if_pos (by simp)]
 refine wpAny_setField hT hdT hz (h _ (fun b q hb hq=>?_) ⟨⟨o,vs,?_,hc,hdx,hd,h1⟩,nT,_,_,Heap.get?_update_self _ hT (Obj.isFreed_of_fields (Obj.data_mapFields hdT _)),Obj.data_mapFields hdT _,by simp [hz]⟩)
 ·rw [Heap.get?_update_other _ _ (Ne.symm hb)];exact hq
 ·rw [Heap.get?_update_other _ _ nT];exact hx
theorem leave_on(hfr:A.frames=some (env::outer))(hl:s.heap.FunFrames base (env::outer))(hf:env.frame=some L)(hx:s.heap.get? x=some o)(hd:o.data = .fields vs)(h1:vs[1]? = some head)
  (hh:head = .none∨∃ T u ts,head = .ref T∧T≠x∧s.heap.get? T=some u∧u.data = .fields ts∧ts[3]? = some .none)
  (h:∀ h' T,s.heap.objs.size≤T→Left (env::outer) x head s.heap h'→Air h' x T o.cls o.dict .none→Q () { s with heap:=h' }):wpAny M A (leaving env (.ref x)) Q E s:=by
 unfold leaving
 refine wpAny_bind (note_on hfr hl hf hx hd h1 hh fun h1 T a b c=>?_)
 refine flight_off (s:={ s with heap:=h1 }) c fun h2 k c2=>h h2 T a ⟨fun q r i1 i2 i3 i4=>?_,fun q r i1 i2=>?_,fun q r i1=>?_⟩ c2
 ·exact k q r (fun z=>absurd (Nat.lt_of_lt_of_le (Heap.lt_size i4) (z▸a)) (Nat.lt_irrefl _)) (b.keep q r i1 i2 i3 i4)
 ·obtain ⟨sl,e⟩:=b.slot q r i1 i2
  exact ⟨sl,k q _ (fun z=>absurd (Nat.lt_of_lt_of_le (Heap.lt_size i2) (z▸a)) (Nat.lt_irrefl _)) e⟩
 ·obtain ⟨u,e⟩:=b.there q r i1
  exact ⟨u,k q u (fun z=>absurd (Nat.lt_of_lt_of_le (Heap.lt_size i1) (z▸a)) (Nat.lt_irrefl _)) e⟩
end
end CX
end
section
set_option autoImplicit false
set_option maxRecDepth 100000
namespace CX
open PySem Builtin Builtin.ObjectAttr
section
variable{prog:Program}{w:World}{A:Around}{E:Value→Shared→Prop}{h:Heap}{g:Array GenState}{d:Drawn}{t:Nat}{os:OsState}
variable{nm qn:Str}{C N x:Addr}{bs bm:List Value}{sn:List Str}{sub:List Value}{ab:Bool}{col:Option Bool}{dd:Option Addr}{c0 c1 c2 c3 c5:Option Value}{B newId sa owner:String}
 {mN mA:Str→Option Value} {name:Str} {v:Value} {o:Obj}
structure First(h h':Heap)(x:Addr)(o:Obj)(name:Str)(v:Value):Prop where
 obj:h'.get? x=some { o with dict:=some h.objs.size }
 ns:h'.Ns1 h.objs.size (fun y=>if y=name then some v else none)
 keep:∀ b u,b≠x→h.get? b=some u→h'.get? b=some u
theorem first_entry{tk:Tok}{Q:Fin→Shared→Prop}(SF:StoreFacts B bm sa owner)(cls:h.get? C=some (excClassObj nm qn C N bs bm true sn sub ab col dd c0 c1 c2 c3 c5 newId))(hn:h.Ns N mN)(hna:mN name=none)
  (hB:typeLookup (.type B) name=pure none) (hx:h.get? x=some o) (hc:o.cls = .ref C) (hnc:∀ y,o.data≠.cls y) (hdn:o.dict=none)
  (hq:∀ h' tk',First h h' x o name v→Q (.done (.ret .none)) ⟨h',g,d,tk',os⟩) :
  wpAny (model prog w) A (Builtin.«object.__setattr__» ⟨[.ref x,.str name tk,v],[]⟩) Q E ⟨h,g,d,t,os⟩:=by
 have pas:=SF.passes (.ref x)
 unfold Builtin.«object.__setattr__»
 repeat (first
  | rw [refuse_eq]
  | (rw [refuseLoop_ref,pas])
  | (with_reducible refine wpAny_loadPart_at hx ?_
     rw [hc])
  | with_reducible refine wpAny_mroOf_exc cls ?_
  | (with_reducible refine wpAny_typeLookup_exc cls hn SF.mro hB ?_
     rw [hna])
  | wp_step)
 rw [hdn,if_neg (by simp [typeHasDict])]
 split
 ·rename_i q
  cases q
 split
 ·rename_i y q
  exact absurd q (hnc y)
 have hx1:(h.push { cls:=.type "dict",data:=.dict #[] }).get? x=some o:=Heap.get?_push_of_some _ hx
 have nx:x≠h.objs.size:=Nat.ne_of_lt (Heap.lt_size hx)
 refine wpAny_bind (wpAny_alloc' ?_)
 refine wpAny_bind (wpAny_update' hx1 ?_)
 refine wpAny_pure ?_
 have free:({ o with dict:=some h.objs.size }:Obj).isFreed=false:=by
  have z:=(Heap.get?_some_iff.mp hx).2
  obtain ⟨oc,od,odt,osl⟩:=o
  cases odt <;> first | rfl | exact z
 have gd:=(Heap.get?_update_other (h.push { cls:=.type "dict",data:=.dict #[] }) (fun u=>{ cls:=u.cls,dict:=some h.objs.size,data:=u.data,slots:=u.slots }) nx).trans (Heap.get?_push_at (h:=h) (o:={ cls:=.type "dict",data:=.dict #[] }) rfl rfl)
 have gx:=Heap.get?_update_self (fun u=>{ cls:=u.cls,dict:=some h.objs.size,data:=u.data,slots:=u.slots }) hx1 free
 have nd:((h.push { cls:=.type "dict",data:=.dict #[] }).update x fun u=>{ cls:=u.cls,dict:=some h.objs.size,data:=u.data,slots:=u.slots }).Ns h.objs.size (fun _=>none) :=
  ⟨_,#[],_,gd,rfl,fun e he=>absurd he (by simp),fun _=>rfl⟩
 show wpAny _ _ (storeInDict h.objs.size (.str name tk) name v) _ _ _
 unfold storeInDict newKeyGuard
 refine wpAny_bind (wpAny_pure (wpAny_bind (wpAny_nsSet1 (Heap.Ns1.of_empty nd) fun h2 n2 sb=>?_)))
 obtain ⟨oD,eD,pD,hoD,hdD,hcD⟩:=n2.count (Within.cons name v Within.nil)
 refine wpAny_bind (wpAny_lookBehind hoD (by rw [hdD];exact pastItsLine_dict (Nat.le_trans hcD (by rw [List.length_cons,List.length_nil,sizeLine_eq];omega))) ?_)
 wp_walk
 refine hq h2 _ ⟨(sb.2 x nx).trans gx,n2,fun b u hb e=>?_⟩
 exact (sb.2 b (Nat.ne_of_lt (Heap.lt_size e))).trans ((Heap.get?_update_ne _ _ _ _ hb).trans (Heap.get?_push_of_some _ e))
theorem first_attr{Q:Unit→Shared→Prop}(SF:StoreFacts B bm sa owner)(cls:h.get? C=some (excClassObj nm qn C N bs bm true sn sub ab col dd c0 c1 c2 c3 c5 newId))(hn:h.Ns N mN)(hns:mN "__setattr__"=none)
  (hna:mN name=none) (hB:typeLookup (.type B) name=pure none) (hx:h.get? x=some o) (hc:o.cls = .ref C) (hnc:∀ y,o.data≠.cls y) (hdn:o.dict=none)
  (hq:∀ h' tk',First h h' x o name v→Q () ⟨h',g,d,tk',os⟩):wpAny (model prog w) A (setAttr (.ref x) name v) Q E ⟨h,g,d,t,os⟩:=by
 have bd:=SF.slot.bind (.ref x)
 unfold setAttr callSpecial? specialOf
 repeat (any_goals (first
  | assumption
  | (with_reducible refine wpAny_loadPart_at hx ?_
     rw [hc])
  | (with_reducible refine wpAny_typeLookup_exc cls hn SF.mro SF.slot.lookup ?_
     rw [hns])
  | wp_step))
 refine codeAny_call_builtin SF.slot.plain SF.entry (wpAny_check_sa SF cls hx hc (first_entry SF cls hn hna hB hx hc hnc hdn fun h2 t2 f=>?_))
 repeat (any_goals (first | assumption | wp_step))
 exact hq h2 t2 f
end
end CX
end
section
set_option maxRecDepth 100000
namespace L2
open PySem PySem.Spec PyProof.Rows
def CXF(P:Program)(w:World):CXT:=fun outer H s E e s' =>
 ∃ (x T:Addr) (C:Value) (dx:Addr) (H':Hp),e = .ref x∧s'.os=s.os∧AllBare s'.gens∧Un (frs outer) [] H H' s.heap s'.heap∧HOk P w H' s'.heap∧s.heap.get? x=none∧s.heap.get? T=none∧H' x=none∧H' T=none∧
  CX.Air s'.heap x T C (some dx) .none∧E C (some dx) H'
theorem leave_air{X:Cx}{pins:List (Addr×Obj)}{σ:St}{H:Hp}{s:Shared}{E:XK}{E':Value→Shared→Prop}{x dx:Addr}{o:Obj}{vs:Array Value}{head:Value}
  (I:Inv X pins σ H s) (hst:X.stack=X.env::X.outer) (hf:X.env.frame=some X.env.locals) (hex:X.ex=[]) (hx:s.heap.get? x=some o) (hd:o.data = .fields vs) (h1:vs[1]? = some head) (hdx:o.dict=some dx)
  (hh:head = .none∨∃ T u ts,head = .ref T∧T≠x∧s.heap.get? T=some u∧u.data = .fields ts∧ts[3]? = some .none∧X.s_0.heap.get? T=none∧H T=none)
  (sx:X.s_0.heap.get? x=none) (nx:H x=none) (hE:E o.cls (some dx) H) :
  wpAny (model X.prog X.w) X.A (leaving X.env (.ref x)) (fun _ s''=>CXF X.prog X.w X.outer X.H_0 X.s_0 E (.ref x) s'') E' s:=by
 have fr:X.A.frames=some (X.env::X.outer):=by rw [← hst];exact I.ok.frames
 have fl:s.heap.FunFrames X.base (X.env::X.outer):=by rw [← hst];exact I.stack
 have nex:∀ b,b∉X.ex:=fun b z=>by rw [hex] at z;cases z
 have old:∀ {b:Addr} {u:Obj},X.s_0.heap.get? b=some u→b < X.s_0.heap.objs.size:=fun e=>Heap.lt_size e
 have neT:∀ b,head = .ref b→X.s_0.heap.get? b=none∧H b=none:=fun b e=>by
  rcases hh with z | ⟨T,_,_,z,_,_,_,_,z1,z2⟩
  ·rw [z] at e;cases e
  ·rw [z] at e;cases e;exact ⟨z1,z2⟩
 refine CX.leave_on fr fl hf hx hd h1 (hh.imp id fun ⟨T,u,ts,a1,a2,a3,a4,a5,_⟩=>⟨T,u,ts,a1,a2,a3,a4,a5⟩) fun h' T sT Lf ar=>?_
 have memL:∀ b,b∈CX.frm (X.env::X.outer)→b=X.env.locals∨b∈frs X.outer:=fun b hb=>by
  unfold CX.frm at hb
  rw [List.filterMap_cons,hf] at hb
  exact List.mem_cons.mp hb
 have outL:∀ b,b∈frs X.outer→b∈CX.frm (X.env::X.outer):=fun b hb=>by
  unfold CX.frm
  rw [List.filterMap_cons,hf]
  exact List.mem_cons_of_mem _ hb
 have nfr:∀ b u,X.s_0.heap.get? b=some u→b∉frs X.outer→b∉CX.frm (X.env::X.outer):=fun b u e nb z=>by
  rcases memL b z with z | z
  ·exact absurd (Nat.lt_of_lt_of_le (old e) (z▸I.ok.above)) (Nat.lt_irrefl _)
  ·exact nb z
 have nbx:∀ b u,X.s_0.heap.get? b=some u→b≠x:=fun b u e z=>by rw [z,sx] at e;cases e
 have nbT:∀ b u,X.s_0.heap.get? b=some u→head≠.ref b:=fun b u e z=>by rw [(neT b z).1] at e;cases e
 have un:Un (frs X.outer) [] X.H_0 H X.s_0.heap h':=by
  refine ⟨fun b u e n hb _=>Lf.keep b u (nbx b u e) (nbT b u e) (nfr b u e hb) (I.base.keep b u e n hb (nex b)),fun b u e n hb _=>?_,fun b u e n _=>I.base.free b u e n (nex b),fun b u e _=>?_,I.base.tups,I.base.frzs,I.base.tbls⟩
  ·obtain ⟨sl,e1⟩:=I.base.slot b u e n hb (nex b)
   obtain ⟨sl',e2⟩:=Lf.slot b _ (outL b hb) e1
   exact ⟨sl',e2⟩
  ·obtain ⟨u1,e1⟩:=I.base.there b u e (nex b)
   by_cases hb:b∈frs X.outer
   ·obtain ⟨sl,e2⟩:=Lf.slot b u1 (outL b hb) e1
    exact ⟨_,e2⟩
   ·exact ⟨u1,Lf.keep b u1 (nbx b u e) (nbT b u e) (nfr b u e hb) e1⟩
 have hok:HOk X.prog X.w H h':=fun a u e=>(I.hok a u e).stay (fun b v hb q=>by
  have tr:∃ z,H b=some z:=by
   rcases hb with rfl | hb
   ·exact ⟨_,e⟩
   ·exact ⟨_,hb⟩
  obtain ⟨z,hz⟩:=tr
  refine Lf.keep b v (fun y=>by rw [y,nx] at hz;cases hz) (fun y=>by rw [(neT b y).2] at hz;cases hz) (fun y=>?_) q
  have y':b∈frs X.stack:=by rw [hst];exact y
  rw [I.stkFree b y'] at hz
  cases hz) (fun _ q=>q) fun _ _ q=>q
 rw [hdx] at ar
 exact ⟨x,T,o.cls,dx,H,rfl,I.os,I.bare,un,hok,sx,Heap.get?_none_of_le (Nat.le_trans I.sz sT),nx,I.hok.fresh sT,ar,hE⟩
section
variable{P:Program}{w:World}{K:PySem.W.Frag}{mg:Str→Option Value}{base:Heap}{N:List Str}{qual:Str}{scope:Scope}{f:Addr}{cd:Value}{A:Around}{outer:List Env}{s:Shared}{H:Hp}{E:XK}
theorem passF:Passes (CXF P w) (cxOf (CXF P w) P w K mg base N qual scope f cd A outer s H E) E:=by
 rintro pins σ H1 s1 e s2 I ⟨x,T,C,dx,H2,rfl,os,bare,un,hok,sx,sT,nx,nT,ar,hE⟩
 have back:∀ b,s1.heap.get? b=none→s.heap.get? b=none:=fun b z=>by
  cases q:s.heap.get? b with
  | none=>rfl
  | some u =>
   obtain ⟨u',e'⟩:=I.base.there b u q (fun m=>nomatch (show b∈([]:List Addr) from m))
   rw [z] at e'
   cases e'
 have I2:=I.call' (ch:=[]) os un hok bare (fun b z=>absurd z (by simp))
 obtain ⟨⟨o,vs,hx,hc,hdx,hd,h1⟩,ne,u,ts,hT,hdT,h3⟩:=ar
 subst hc
 exact leave_air I2 rfl rfl rfl hx hd h1 hdx (.inr ⟨T,u,ts,rfl,ne,hT,hdT,h3,back T sT,nT⟩) (back x sx) nx hE
theorem Fun.okF{x qual:Str}{st:Stmt}{f:Addr}{fd:FuncData}{N ps:List Str}{k:Nat}{sp:Sp}(F:Fun K x qual st f fd)(S:FnScope N ps (defScope st))(len:∀ vs H Q E,sp vs H Q E→vs.length=ps.length)
  (hbody:∀ (cdv:Value) (A:Around) (outer:List Env) (s:Shared) (H:Hp) (vs:List V) (Q:VK) (E:XK),Room k (A.deeper (envOfC qual (defScope st) s.heap.objs.size f cdv))→sp vs H Q E→
   ∃ t,PSs (cxOf (CXF P w) P w K mg base N qual (defScope st) f cdv A outer s H E) (defBody st) t∧t { nx:=fun _ H'=>Q .non H',rt:=Q } (start N vs) H):FnOk P w K mg base (CXF P w) (k + 1) f fd ps sp:=by
 obtain ⟨oc,od,kV,doc,pm,an,cdv,ct,osl,rfl,lk,hcd⟩:=F.ex
 exact fn_of lk hcd S len fun A outer s H vs Q E hr hsp=>hbody cdv A outer s H vs Q E hr hsp
theorem ownF:PassesOwn (model P w) (cxOf (CXF P w) P w K mg base N qual scope f cd A outer s H E).A (cxOf (CXF P w) P w K mg base N qual scope f cd A outer s H E).env (cxOf (CXF P w) P w K mg base N qual scope f cd A outer s H E).xe:=PassesOwn.leaving
end
end L2
end
section
set_option maxRecDepth 100000
set_option maxHeartbeats 1000000
namespace L2
open PySem PySem.Spec PyProof.Rows
abbrev excBM:List Value:=[.type "Exception",.type "BaseException",.type "object"]
def keyStr(e:DictEntry):Bool:=match e.key with
 | .str _ _=>true
 | _=>false
def xcls(K:PySem.W.Frag)(C fI:Addr)(fs:List Str):Bool:=match K.lookup C with
 | some ⟨.type "type",_,.cls cd,sl⟩=>(match sl.toList with
  | [_,_,_,_,some (.builtin nw),_]=>cd.mro == .ref C::excBM && cd.hasDict && !cd.hasDel && nw == "Exception.__new__" && (match K.lookup cd.ns with
   | some ⟨_,_,.dict es _,_⟩=>es.toList.all keyStr && nsFind es "__init__" == some (.ref fI) && (nsFind es "__setattr__" == none && (nsFind es "__getattribute__" == none && (nsFind es "__getattr__" == none && fs.all fun f=>nsFind es f == none)))
   | _=>false) && PySem.W.typeIn K (.ref fI) == some (.type "function")
  | _=>false)
 | _=>false
theorem xcls_get{K:PySem.W.Frag}{h:Heap}{C fI:Addr}{fs:List Str}(X:K.In h)(q:xcls K C fI fs=true):∃ nm qn N bs sn sub ab col dd c0 c1 c2 c3 c5 mN,
  h.get? C=some (excClassObj nm qn C N bs excBM true sn sub ab col dd c0 c1 c2 c3 c5 "Exception.__new__")∧h.Ns N mN∧mN "__init__"=some (.ref fI)∧mN "__setattr__"=none∧mN "__getattribute__"=none∧mN "__getattr__"=none∧
   (∀ f∈fs,mN f=none)∧∃ oI,h.get? fI=some oI∧oI.cls = .type "function":=by
 unfold xcls at q
 split at q
 ·rename_i dd cd sl ho
  split at q
  ·rename_i c0 c1 c2 c3 nw c5 hs
   simp only [Bool.and_eq_true,beq_iff_eq,Bool.not_eq_true'] at q
   obtain ⟨⟨⟨⟨⟨q1,q2⟩,q3⟩,q4⟩,q5⟩,q6⟩:=q
   split at q5
   ·rename_i oc od es n osl hN
    simp only [Bool.and_eq_true,beq_iff_eq] at q5
    obtain ⟨⟨r1,r2⟩,r3,r4,r5,r6⟩:=q5
    obtain ⟨oI,hI,hIc⟩:=Option.map_eq_some_iff.mp (show (K.lookup fI).map (·.cls)=some (.type "function") from q6)
    obtain ⟨nm,bs,mro,ns,qn,hd,sn,sub,ab,col,del⟩:=cd
    dsimp only at q1 q2 q3 hN
    subst q1 q2 q3 q4
    have hsl:sl = #[c0,c1,c2,c3,some (.builtin "Exception.__new__"),c5]:=by
     obtain ⟨l⟩:=sl
     simp only at hs
     rw [hs]
    subst hsl
    refine ⟨nm,qn,ns,bs,sn,sub,ab,col,dd,c0,c1,c2,c3,c5,nsFind es,X _ _ ho,⟨_,es,n,X _ _ hN,rfl,fun e he=>?_,fun _=>rfl⟩,r2,r3,r4,r5,fun f hf=>beq_iff_eq.mp (List.all_eq_true.mp r6 f hf),oI,X _ _ hI,hIc⟩
    have z:=List.all_eq_true.mp r1 e (Array.mem_toList_iff.mpr he)
    unfold keyStr at z
    split at z
    ·rename_i a b c;exact ⟨a,b,c⟩
    ·cases z
   ·cases q5
  ·cases q
 ·cases q
abbrev excObj(C:Addr)(dxo:Option Addr)(t:Addr):Obj:={ cls:=.ref C,dict:=dxo,data:=.fields #[.ref t,.none,.none,.none,.bool false,.none] }
def XO(C:Addr)(dxo:Option Addr)(x:Addr):HO:=.ext fun h=>∃ t,h.get? x=some (excObj C dxo t)
def XD(dx:Addr)(fs:List (Str×V)):HO:=.ext fun h=>∃ mA,h.Ns1 dx mA∧(∀ f,RelO (fs.lookup f) (mA f))∧PySem.Within mA (fs.map (·.1))
section
variable{P:Program}{w:World}{H:Hp}{h:Heap}{x dx C t:Addr}{dxo:Option Addr}{fs:List (Str×V)}
theorem XO.ok(e:h.get? x=some (excObj C dxo t)):ObjOk P w H h x (XO C dxo x):=⟨⟨t,e⟩,⟨_,e⟩,fun h1 h2 ⟨t,e⟩ k=>⟨t,k _ e⟩⟩
theorem XD.ok{mA:Str→Option Value}(n:h.Ns1 dx mA)(r:∀ f,RelO (fs.lookup f) (mA f))(wi:PySem.Within mA (fs.map (·.1))):ObjOk P w H h dx (XD dx fs) :=
 ⟨⟨mA,n,r,wi⟩,let ⟨o,_,_,e,_⟩:=n;⟨o,e⟩,fun h1 h2 ⟨mA,n,r⟩ k=>⟨mA,n.at k,r⟩⟩
theorem XO.get(hok:HOk P w H h)(e:H x=some (XO C dxo x)):∃ t,h.get? x=some (excObj C dxo t):=(show ObjOk P w H h x (XO C dxo x) from hok x _ e).1
theorem XD.get(hok:HOk P w H h)(e:H dx=some (XD dx fs)):∃ mA,h.Ns1 dx mA∧(∀ f,RelO (fs.lookup f) (mA f))∧PySem.Within mA (fs.map (·.1)):=(show ObjOk P w H h dx (XD dx fs) from hok dx _ e).1
theorem XO.ne(hok:HOk P w H h)(e:H x=some (XO C dxo x))(e2:H dx=some (XD dx fs)):dx≠x:=fun z=>by
 obtain ⟨t,e3⟩:=XO.get hok e
 obtain ⟨mA,⟨o,es,ep,e4,d,_⟩,_⟩:=XD.get hok e2
 rw [z,e3] at e4
 cases e4
 cases d
end
theorem HOk.none_of{P:Program}{w:World}{H:Hp}{h:Heap}{a:Addr}(hok:HOk P w H h)(e:h.get? a=none):H a=none:=by
 cases q:H a with
 | none=>rfl
 | some o =>
  exfalso
  have z:ObjOk P w H h a o:=hok a o q
  cases o with
  | lst xs=>obtain ⟨_,_,_,_,y⟩:=z;rw [e] at y;cases y
  | tup xs=>obtain ⟨_,_,_,_,y,_⟩:=z;rw [e] at y;cases y
  | dK kvs=>obtain ⟨_,_,_,_,o,_,_,y,_⟩:=z;rw [e] at y;cases y
  | dT kvs=>obtain ⟨_,_,_,_,o,_,_,y,_⟩:=z;rw [e] at y;cases y
  | set S n=>obtain ⟨o,_,_,_,y,_⟩:=z;rw [e] at y;cases y
  | ins C dx fs=>obtain ⟨_,_,_,y,_⟩:=z;rw [e] at y;cases y
  | own y=>obtain ⟨_,y⟩:=z;rw [e] at y;cases y
  | xd fs=>obtain ⟨_,⟨_,_,_,y,_⟩,_⟩:=z;rw [e] at y;cases y
  | rng lo hi=>obtain ⟨_,_,_,y⟩:=z;rw [e] at y;cases y
  | frz ob u=>obtain ⟨y,_⟩:=z;rw [e] at y;cases y
  | tbl ps=>have y:h.get? a=some _:=z;rw [e] at y;cases y
  | met f y=>have y:h.get? a=some _:=z;rw [e] at y;cases y
  | ext φ=>obtain ⟨_,⟨_,y⟩,_⟩:=z;rw [e] at y;cases y
section
variable{X:Cx}{pins:List (Addr×Obj)}{σ:St}{H:Hp}{s:Shared}{h':Heap}{x dx C fI:Addr}{fs:List Str}{f:Str}{y:V}{u:Value}{A:Around}{E:Value→Shared→Prop}
theorem Inv.laidN{a:Addr}{o:HO}{t':Nat}(I:Inv X pins σ H s)(k:∀ b u,s.heap.get? b=some u→h'.get? b=some u)(hn:s.heap.get? a=none)(new:ObjOk X.prog X.w (upd H a o) h' a o) :
  Inv X pins σ (upd H a o) { s with heap:=h',toks:=t' }:=by
 have nH:=I.hok.none_of hn
 have nb:∀ b u,s.heap.get? b=some u→b≠a:=fun b u e z=>by rw [z,hn] at e;cases e
 refine I.un ⟨fun b u q _ _ _=>k b u q,fun b u q _ _ _=>⟨u.slots,k b u q⟩,fun b u q n _=>by rw [upd_ne (nb b u q)];exact n,fun b u q _=>⟨u,k b u q⟩,fun b xs q=>by rw [upd_ne (ne_of_none q nH)];exact q,
  fun b u xs q=>by rw [upd_ne (ne_of_none q nH)];exact q,fun b ps q=>⟨#[],by rw [upd_ne (ne_of_none q nH),q];simp⟩⟩ fun b u e=>?_
 by_cases hb:b=a
 ·subst hb;rw [upd_same] at e;cases e;exact new
 ·rw [upd_ne hb] at e
  exact (I.hok b u e).stay (fun c v _ q=>k c v q) (fun c q=>by rw [upd_ne (ne_of_none q nH)];exact q) fun c xs q=>by rw [upd_ne (ne_of_none q nH)];exact q
theorem setX1{Q:Unit→Shared→Prop}(I:Inv X pins σ H s)(e:H x=some (XO C none x))(q:xcls X.K C fI fs=true)(hf:f∈fs)(hB:typeLookup (.type "Exception") f=pure none)(ry:RelV y u)
  (h:∀ dx s',H dx=none→dx≠x→Inv X pins σ (upd (upd H x (XO C (some dx) x)) dx (XD dx [(f,y)])) s'→Q () s'):wpAny (model X.prog X.w) A (setAttr (.ref x) f u) Q E s:=by
 obtain ⟨t,hx⟩:=XO.get I.hok e
 obtain ⟨nm,qn,N,bs,sn,sub,ab,col,dd,c0,c1,c2,c3,c5,mN,hC,hN,_,n1,n2,n3,n4,_⟩:=xcls_get I.kIn q
 obtain ⟨hp,g,d,tk,os⟩:=s
 refine CX.first_attr PySem.F.store_Exception hC hN n1 (n4 f hf) hB hx rfl (fun y z=>by cases z) rfl fun h' tk' fr=>?_
 have nd:H hp.objs.size=none:=I.hok.fresh (Nat.le_refl _)
 have ne:hp.objs.size≠x:=Nat.ne_of_gt (Heap.lt_size hx)
 have nt:∀ b o,H b=some o→(∀ φ,o≠.ext φ)→b≠x:=fun b o q1 q2 z=>by rw [z,e] at q1;exact q2 _ (Option.some.inj q1).symm
 refine h hp.objs.size _ nd ne ?_
 have sk:∀ {b:Addr} {o:HO},b≠x→H b=some o→(upd (upd H x (XO C (some hp.objs.size) x)) hp.objs.size (XD hp.objs.size [(f,y)])) b=some o:=fun hb q1=>by
  rw [upd_ne (ne_of_none q1 nd),upd_ne hb];exact q1
 have I':=I.un (t':=tk') (h':=h') (H':=upd (upd H x (XO C (some hp.objs.size) x)) hp.objs.size (XD hp.objs.size [(f,y)])) ⟨fun b v q1 n _ _=>fr.keep b v (fun z=>by rw [z,e] at n;cases n) q1,fun b v q1 n _ _=>⟨v.slots,fr.keep b v (fun z=>by rw [z,e] at n;cases n) q1⟩,
  fun b v q1 n _=>by rw [upd_ne (Nat.ne_of_lt (Heap.lt_size q1)),upd_ne (fun z=>by rw [z,e] at n;cases n)];exact n,
  fun b v q1 _=>by
   by_cases hb:b=x
   ·subst hb;exact ⟨_,fr.obj⟩
   ·exact ⟨v,fr.keep b v hb q1⟩,
  fun b xs q1=>sk (nt b _ q1 fun φ z=>by cases z) q1,fun b o' u' q1=>sk (nt b _ q1 fun φ z=>by cases z) q1,fun b ps q1=>⟨#[],by rw [sk (nt b _ q1 fun φ z=>by cases z) q1];simp⟩⟩ fun b o' q1=>?_
 ·exact I'
 by_cases h1:b=hp.objs.size
 ·subst h1
  rw [upd_same] at q1
  cases q1
  refine XD.ok fr.ns (fun k=>?_) (fun k hk=>?_)
  ·show RelO (List.lookup k [(f,y)]) (if k=f then some u else none)
   by_cases hk:k=f
   ·have hb:(k == f)=true:=beq_iff_eq.mpr hk
    simp only [List.lookup,hb,if_pos hk];exact ry
   ·have hb:(k == f)=false:=beq_eq_false_iff_ne.mpr hk
    simp only [List.lookup,hb,if_neg hk];exact True.intro
  ·show k∈[f]
   by_cases hk':k=f
   ·rw [hk'];exact List.mem_singleton.mpr rfl
   ·exact absurd (if_neg hk') hk
 ·rw [upd_ne h1] at q1
  by_cases h2:b=x
  ·subst h2
   rw [upd_same] at q1
   cases q1
   exact XO.ok fr.obj
  ·rw [upd_ne h2] at q1
   exact (I.hok b o' q1).stay (fun c v hc z=>fr.keep c v (by
    rcases hc with rfl | hc
    ·exact h2
    ·exact nt c _ hc fun φ z=>by cases z) z) (fun c z=>sk (nt c _ z fun φ z=>by cases z) z) fun c xs z=>sk (nt c _ z fun φ z=>by cases z) z
theorem setX2{Q:Unit→Shared→Prop}{fs0:List (Str×V)}(I:Inv X pins σ H s)(e:H x=some (XO C (some dx) x))(e2:H dx=some (XD dx fs0))(q:xcls X.K C fI fs=true)(hf:f∈fs)(hB:typeLookup (.type "Exception") f=pure none)(ry:RelV y u)
  (hl:fs0.length≤1000) (h:∀ s',Inv X pins σ (upd H dx (XD dx (putF f y fs0))) s'→Q () s'):wpAny (model X.prog X.w) A (setAttr (.ref x) f u) Q E s:=by
 obtain ⟨t,hx⟩:=XO.get I.hok e
 obtain ⟨mA,ns,rel,wi⟩:=XD.get I.hok e2
 have ne:=XO.ne I.hok e e2
 obtain ⟨nm,qn,N,bs,sn,sub,ab,col,dd,c0,c1,c2,c3,c5,mN,hC,hN,_,n1,n2,n3,n4,_⟩:=xcls_get I.kIn q
 have nxC:x≠C:=fun z=>by rw [z,hC] at hx;cases hx
 obtain ⟨hp,g,d,tk,os⟩:=s
 refine PySem.store_attr (ns:=fs0.map (·.1)) PySem.F.store_Exception hC hN n1 (n4 f hf) hB nxC ⟨_,hx,rfl,(fun c z=>by cases z),.inr ⟨dx,rfl,ne,ns⟩⟩ (fun h' tk' J k o1=>h _ ?_) wi (by rw [List.length_map,sizeLine_eq];omega)
 obtain ⟨ob,hob,b1,b2,b3,b4⟩:=o1 _ hx
 have hx':h'.get? x=some (excObj C (some dx) t):=by
  rw [hob]
  obtain ⟨z1,z2,z3,z4⟩:=ob
  have b5:=b4 dx rfl
  dsimp only at b1 b2 b3 b5
  rw [b1,b2,b3,b5]
 obtain ⟨ob2,hob2,_,_,dn⟩:=J
 rw [hx'] at hob2
 cases hob2
 rcases dn with ⟨z,_⟩ | ⟨d2,z,_,ns'⟩
 ·cases z
 cases z
 refine I.write (x:=dx) (e:=dx) (by rw [e2];exact True.intro) (.inl rfl) (fun b v hb z=>?_) (let ⟨o,_,_,e',_⟩:=ns';⟨o,e'⟩) (XD.ok ns' (fun k=>?_) (fun k hk=>?_))
 ·by_cases hbx:b=x
  ·subst hbx;rw [hx] at z;cases z;exact hx'
  ·exact k b v hbx (fun o0 d0 z1 z2=>by rw [hx] at z1;cases z1;cases z2;exact hb) z
 ·show RelO ((putF f y fs0).lookup k) (if k=f then some u else mA k)
  rw [lookup_putF]
  by_cases z:k=f
  ·rw [if_pos z,if_pos z];exact ry
  ·rw [if_neg z,if_neg z];exact rel k
 ·by_cases z:k=f
  ·rw [z];exact (keys_putF f y fs0).1
  ·exact (keys_putF f y fs0).2 k (wi k fun z2=>hk (by show (if k=f then some u else mA k)=none;rw [if_neg z];exact z2))
end
end L2
end
section
set_option autoImplicit false
set_option maxRecDepth 100000
namespace CX
open PySem
def ExcCl(h:Heap)(C:Addr):Prop:=∃ (nm qn:Str) (N:Addr) (bs bm:List Value) (hdct:Bool) (sn:List Str) (sub:List Value) (ab:Bool) (col:Option Bool) (dd:Option Addr) (c0 c1 c2 c3 c5:Option Value) (newId:String),
 h.get? C=some (excClassObj nm qn C N bs bm hdct sn sub ab col dd c0 c1 c2 c3 c5 newId)∧bm.contains (.type "BaseException")=true
section
variable{M:Model}{A:Around}{E:Value→Shared→Prop}{env:Env}{C:Addr}
theorem raise_made{s:Shared}{y:Sem Value}{Q:Flow→Shared→Prop}(hh:A.handled=none)
  (hw:wpAny M A y (fun v s1=>∃ e t dx,v = .ref e∧ExcCl s1.heap C∧s1.heap.get? e=some { cls:=.ref C,dict:=dx,data:=.fields #[.ref t,.none,.none,.none,.bool false,.none] }∧E (.ref e) s1) E s) :
  wpAny M A (raiseStmt env (some y) none) Q E s:=by
 unfold raiseStmt
 refine wpAny_bind (wpAny_mono hw (fun v s1 h1=>?_) fun _ _ z=>z)
 obtain ⟨e,t,dx,rfl,⟨nm,qn,N,bs,bm,hdct,sn,sub,ab,col,dd,c0,c1,c2,c3,c5,newId,hC,hbase⟩,he,hE⟩:=h1
 have has:(Value.ref C::bm).contains (.type "BaseException")=true:=by rw [List.contains_cons,hbase,Bool.or_true]
 obtain ⟨hp,g,d,tk,os⟩:=s1
 repeat (first
  | with_reducible refine wpAny_loadPart_at he ?_
  | with_reducible refine wpAny_loadPart_at hC ?_
  | (with_reducible refine wpAny_isSubtype_exc hC ?_
     rw [has])
  | wp_step)
 exact wpAny_raiseNew_none hh hE
theorem raise_exec{s:Shared}{e:Expr}{pos:Pos}{Q:Flow→Shared→Prop}(hh:A.handled=none)
  (hw:wpAny M A (eval e env) (fun v s1=>∃ a t dx,v = .ref a∧ExcCl s1.heap C∧s1.heap.get? a=some { cls:=.ref C,dict:=dx,data:=.fields #[.ref t,.none,.none,.none,.bool false,.none] }∧E (.ref a) s1) E s) :
  wpAny M A (exec (.Raise (some e) none pos) env) Q E s:=by
 rw [arm_exec_Raise]
 refine wpAny_bind (wpAny_standAt ?_)
 show wpAny M A (raiseStmt env (some (do let v ← eval e env;standAt pos;pure v)) none) Q E s
 refine raise_made (C:=C) hh (wpAny_bind (wpAny_mono hw (fun v s1 h1=>?_) fun _ _ z=>z))
 exact wpAny_bind (wpAny_standAt (wpAny_pure h1))
end
end CX
end
section
set_option maxRecDepth 100000
set_option maxHeartbeats 1000000
namespace L2
open PySem PySem.Spec PyProof.Rows
def unt(H:Hp)(x:Addr):Hp:=fun b=>if b=x then none else H b
theorem unt_same{H:Hp}{x:Addr}:unt H x x=none:=by unfold unt;rw [if_pos rfl]
theorem unt_ne{H:Hp}{x b:Addr}(h:b≠x):unt H x b=H b:=by unfold unt;rw [if_neg h]
section
variable{X:Cx}{pins:List (Addr×Obj)}{σ:St}{H:Hp}{s:Shared}{x:Addr}
theorem Inv.untrack{φ:Heap→Prop}(I:Inv X pins σ H s)(e:H x=some (.ext φ)):Inv X pins σ (unt H x) s:=by
 have ns:∀ {b:Addr} {o:HO},H b=some o→(∀ φ,o≠.ext φ)→unt H x b=some o:=fun q1 q2=>by
  rw [unt_ne (fun z=>by rw [z,e] at q1;exact q2 _ (Option.some.inj q1).symm)];exact q1
 have nn:∀ {b:Addr},H b=none→unt H x b=none:=fun q=>by unfold unt;split <;> first | rfl | exact q
 refine ⟨I.ok,I.os,I.bare,⟨I.base.keep,I.base.slot,fun b o q n hx=>nn (I.base.free b o q n hx),I.base.there,fun b xs q=>ns (I.base.tups b xs q) (fun φ z=>by cases z),fun b o u q=>ns (I.base.frzs b o u q) (fun φ z=>by cases z),fun b ps q=>?_⟩,I.loc,I.cell,nn I.free,fun y c q=>nn (I.freeC y c q),fun p hp=>?_,fun b o q=>?_,I.len⟩
 ·obtain ⟨m,q2⟩:=I.base.tbls b ps q
  exact ⟨m,ns q2 (fun φ z=>by cases z)⟩
 ·obtain ⟨a,n,r⟩:=I.pin p hp
  exact ⟨a,nn n,r⟩
 ·have hb:b≠x:=fun z=>by rw [z,unt_same] at q;cases q
  rw [unt_ne hb] at q
  exact (I.hok b o q).stay (fun _ _ _ z=>z) (fun c z=>ns z (fun φ z=>by cases z)) fun c xs z=>ns z (fun φ z=>by cases z)
theorem Inv.old(I:Inv X pins σ H s){b:Addr}(hx:b∉X.ex)(z:s.heap.get? b=none):X.s_0.heap.get? b=none:=by
 cases q:X.s_0.heap.get? b with
 | none=>rfl
 | some u =>
  obtain ⟨u',e'⟩:=I.base.there b u q hx
  rw [z] at e'
  cases e'
end
section
variable{X:Cx}{CX:CXT}{k:Nat}{C fI:Addr}{fd:FuncData}{ps:List Str}{sp:Sp}{E:XK}{fs:List Str}
theorem run_makeX{pins:List (Addr×Obj)}{σ:St}{H:Hp}{s:Shared}{R:Addr→Hp→Prop}{us:List Value}{vs:List V}(q:xcls X.K C fI fs=true)(F:FnOk X.prog X.w X.K X.mg X.base CX k fI fd ps sp)(hr:Room (k + 1) X.A)
  (hb:Binds X.K fd ps []) (hx:Passes CX X E) (I:Inv X pins σ H s) (r:Vals vs us) (hlen:vs.length≤1000)
  (h:∀ x,H x=none→sp (.ref x::vs) (upd H x (XO C none x)) (fun v H2=>v = .non∧R x H2) E) :
  wpAny (model X.prog X.w) X.A (call (.ref C) us) (fun u s'=>∃ x H',u = .ref x∧s.heap.get? x=none∧Inv X pins σ H' s'∧R x H') X.xe s:=by
 obtain ⟨nm,qn,N,bs,sn,sub,ab,col,dd,c0,c1,c2,c3,c5,mN,hC,hN,n0,n1,n2,n3,n4,oI,hI,hIc⟩:=xcls_get I.kIn q
 obtain ⟨hp,g,d,tk,os⟩:=s
 refine wpAny_call_exc_init (F:=PySem.F.excBase_Exception) hC hN n0 hI hIc (fun h' e hm=>?_) (by rw [← r.length,sizeLine_eq];omega)
 obtain ⟨t,he,_,_⟩:=hm.there
 have I2:=I.laidN (a:=e) (o:=XO C none e) (h':=h') (t':=tk) hm.keeps hm.new (XO.ok he)
 have hq:=h e (I.hok.none_of hm.new)
 have r2:Vals (V.ref e::vs) (Value.ref e::us):=.cons rfl r
 have hl:(Value.ref e::us ++ []).length=ps.length:=by
  rw [List.append_nil,← r2.length]
  exact F.len _ _ _ _ hq
 have bd:=hb _ (Value.ref e::us) I2.kIn hl
 rw [List.append_nil] at bd
 refine wpAny_call (codeAny_mono (F.run _ X.stack _ _ ⟨Value.ref e::us,[]⟩ (Value.ref e::us) _ _ E (hr.make C us []) (I2.env0.make C us []) bd r2 hq) fun z s' hq'=>?_)
 cases z with
 | error y=>exact hx pins σ _ _ y s' I2 hq'
 | ok fl =>
  cases fl with
  | ret u =>
   obtain ⟨v,H',I3,rv,ev,q3⟩:=I2.after hq'
   subst ev
   exact ⟨rv,e,H',rfl,hm.new,I3,q3⟩
  | next=>exact False.elim hq'
  | brk=>exact False.elim hq'
  | cont=>exact False.elim hq'
def Raises(X:Cx)(C:Addr)(E:XK):Prop:=∀ (pins:List (Addr×Obj)) (σ:St) (H:Hp) (s:Shared) (x dx:Addr),Inv X pins σ H s→H x=some (XO C (some dx) x)→X.s_0.heap.get? x=none→E (.ref C) (some dx) (unt H x)→X.xe (.ref x) s
def tRaise(C:Addr)(sp:Sp)(E:XK)(t:TA):TS:=fun _ σ H=>t σ H fun vs H1=>vs.length≤1000∧∀ x,H1 x=none→
 sp (.ref x::vs) (upd H1 x (XO C none x)) (fun v H2=>v = .non∧∃ dx,H2 x=some (XO C (some dx) x)∧E (.ref C) (some dx) (unt H2 x)) E
theorem ps_raiseF{x:Str}{e:Expr}{es:List Expr}{t:TA}{np cpos pos:Pos}(q:xcls X.K C fI fs=true)(F:FnOk X.prog X.w X.K X.mg X.base CX k fI fd ps sp)(hr:Room (k + 1) X.A)(hg:Gl X x)(hm:X.mg x=some (.ref C))
  (hk:PySem.W.keepIn X.K (.ref C)=true) (hb:Binds X.K fd ps []) (hx:Passes CX X E) (hR:Raises X C E) (hc:X.calm=true) (hex:X.ex=[]) (ha:PA X (e::es) t)
  (hdb:(x == ("__debug__":Str))=false:=by decide) (he:starEach (e::es) X.env=(false,eval e X.env)::starEach es X.env:=by rfl) (hpl:(backTo cpos (starEach es X.env)).any (·.1)=false:=by rfl) :
  PS X (.Raise (some (.Call (.Name x np) (e::es) [] cpos)) none pos) (tRaise C sp E t):=by
 intro pins s σ H D I h
 refine _root_.CX.raise_exec (C:=C) (I.ok.hd hc) ?_
 refine wpAny_Call_Name_kw (ld_glob I hg hm ?_ hdb)
 refine PySem.W.callWith_K (h₀:=X.base) I.ok.mod.kin hk (thn (ha cpos pins s σ H _ I h) fun us s1 ⟨vs,H1,I1,r,z,q1⟩=>⟨I1.kIn,?_⟩) he hpl
 refine thn (run_makeX q F hr hb hx I1 r z q1) fun u s2 ⟨y,H2,eu,ny,I2,dx,e2,q2⟩=>?_
 obtain ⟨t,ht⟩:=XO.get I2.hok e2
 obtain ⟨nm,qn,N,bs,sn,sub,ab,col,dd,c0,c1,c2,c3,c5,mN,hC,_⟩:=xcls_get I2.kIn q
 exact ⟨y,t,some dx,eu,⟨nm,qn,N,bs,excBM,true,sn,sub,ab,col,dd,c0,c1,c2,c3,c5,_,hC,by decide⟩,ht,hR pins σ H2 s2 y dx I2 e2 (I1.old (by rw [hex];simp) ny) q2⟩
end
section
variable{P:Program}{w:World}{K:PySem.W.Frag}{mg:Str→Option Value}{base:Heap}{N:List Str}{qual:Str}{scope:Scope}{f:Addr}{cd:Value}{A:Around}{outer:List Env}{s:Shared}{H:Hp}{E:XK}{C:Addr}
theorem raiseF:Raises (cxOf (CXF P w) P w K mg base N qual scope f cd A outer s H E) C E:=by
 intro pins σ H1 s1 x dx I e n hE
 obtain ⟨t,ht⟩:=XO.get I.hok e
 have I2:=I.untrack e
 exact leave_air I2 rfl rfl rfl ht rfl rfl rfl (.inl rfl) n unt_same hE
end
end L2
end
section
set_option maxRecDepth 100000
set_option maxHeartbeats 1000000
namespace L2
open PySem PySem.Spec PyProof.Rows
abbrev Cx.with(X:Cx)(pn:List (Addr×Obj))(E:Value→Shared→Prop):Cx:={ X with pn:=pn,xe:=E }
abbrev Cx.clause(X:Cx)(pn:List (Addr×Obj))(e:Value):Cx:={ X with pn:=pn,xe:=fun _ _=>False,A:=X.A.mark (some e),calm:=false }
theorem Cx.Ok.with{X:Cx}(ok:X.Ok)(pn:List (Addr×Obj))(E:Value→Shared→Prop):(X.with pn E).Ok :=
 ⟨ok.mod,ok.kind,ok.glob,ok.blt,ok.above,ok.inj,ok.has,ok.cab,ok.hd,ok.frames,ok.stk,ok.exf,ok.bs,ok.bsz,ok.noex,ok.exfs,ok.funs,ok.frf⟩
theorem Cx.Ok.clause{X:Cx}(ok:X.Ok)(pn:List (Addr×Obj))(e:Value):(X.clause pn e).Ok :=
 ⟨ok.mod,ok.kind,ok.glob,ok.blt,ok.above,ok.inj,ok.has,ok.cab,(fun z=>nomatch z),ok.frames,ok.stk,ok.exf,ok.bs,ok.bsz,ok.noex,ok.exfs,ok.funs,ok.frf⟩
section
variable{X:Cx}{pins pn:List (Addr×Obj)}{σ:St}{H:Hp}{s:Shared}{x:Addr}
theorem Inv.toPn(I:Inv X pins σ H s)(E:Value→Shared→Prop):Inv (X.with (X.pn ++ pins) E) [] σ H s :=
 ⟨I.ok.with _ E,I.os,I.bare,I.base,I.loc,I.cell,I.free,I.freeC,fun p hp=>I.pin p (by simpa using hp),I.hok,I.len⟩
theorem Inv.ofPn{E:Value→Shared→Prop}{pins':List (Addr×Obj)}(ok:X.Ok)(I:Inv (X.with (X.pn ++ pins) E) pins' σ H s):Inv X pins σ H s :=
 ⟨ok,I.os,I.bare,I.base,I.loc,I.cell,I.free,I.freeC,fun p hp=>I.pin p (List.mem_append_left _ hp),I.hok,I.len⟩
theorem Inv.toClause{E:Value→Shared→Prop}{pins':List (Addr×Obj)}(ok:X.Ok)(I:Inv (X.with pn E) pins' σ H s)(e:Value):Inv (X.clause pn e) pins' σ H s :=
 ⟨ok.clause pn e,I.os,I.bare,I.base,I.loc,I.cell,I.free,I.freeC,I.pin,I.hok,I.len⟩
theorem Inv.ofClause{e:Value}{pins':List (Addr×Obj)}(ok:X.Ok)(I:Inv (X.clause (X.pn ++ pins) e) pins' σ H s):Inv X pins σ H s :=
 ⟨ok,I.os,I.bare,I.base,I.loc,I.cell,I.free,I.freeC,fun p hp=>I.pin p (List.mem_append_left _ hp),I.hok,I.len⟩
theorem Inv.track{φ:Heap→Prop}{o:Obj}{vs:Array Value}(I:Inv X pins σ H s)(nx:H x=none)(n0:X.s_0.heap.get? x=none)(hx:s.heap.get? x=some o)(hd:o.data = .fields vs)(hφ:φ s.heap)
  (hst:∀ h1 h2:Heap,φ h1→(∀ o,h1.get? x=some o→h2.get? x=some o)→φ h2) (hp:∀ p∈X.pn ++ pins,p.1≠x):Inv X pins σ (upd H x (.ext φ)) s:=by
 have sk:∀ {b:Addr} {o:HO},H b=some o→upd H x (.ext φ) b=some o:=fun q=>by rw [upd_ne (ne_of_none q nx)];exact q
 refine ⟨I.ok,I.os,I.bare,⟨I.base.keep,I.base.slot,fun b u q n hx'=>?_,I.base.there,fun b xs q=>sk (I.base.tups b xs q),fun b u' v q=>sk (I.base.frzs b u' v q),fun b ps q=>?_⟩,I.loc,I.cell,?_,fun y c q=>?_,fun p hp'=>?_,fun b u q=>?_,I.len⟩
 ·rw [upd_ne (fun z=>by rw [z,n0] at q;cases q)]
  exact I.base.free b u q n hx'
 ·obtain ⟨m,q2⟩:=I.base.tbls b ps q
  exact ⟨m,sk q2⟩
 ·rw [upd_ne (fun z=>?_)]
  ·exact I.free
  ·obtain ⟨m,⟨ol,es,ep,hl,hld,_⟩,_⟩:=I.loc
   rw [z,hx] at hl
   cases hl
   rw [hd] at hld
   cases hld
 ·rw [upd_ne (fun z=>?_)]
  ·exact I.freeC y c q
  ·obtain ⟨v,oc,hc,hcd⟩:=I.cell y c q
   rw [z,hx] at hc
   cases hc
   rw [hd] at hcd
   cases hcd
 ·obtain ⟨a,n,r⟩:=I.pin p hp'
  exact ⟨a,by rw [upd_ne (hp p hp')];exact n,r⟩
 ·by_cases hb:b=x
  ·subst hb
   rw [upd_same] at q
   cases q
   exact ⟨hφ,⟨o,hx⟩,hst⟩
  ·rw [upd_ne hb] at q
   exact (I.hok b u q).stay (fun _ _ _ z=>z) (fun c z=>sk z) fun c xs z=>sk z
end
def AnyO(x:Addr):HO:=.ext fun h=>∃ o,h.get? x=some o
theorem AnyO.ok{P:Program}{w:World}{H:Hp}{h:Heap}{x:Addr}{o:Obj}(e:h.get? x=some o):ObjOk P w H h x (AnyO x):=⟨⟨o,e⟩,⟨o,e⟩,fun h1 h2 ⟨o,e⟩ k=>⟨o,k o e⟩⟩
section
variable{X:Cx}{pins pins' pn:List (Addr×Obj)}{σ:St}{H:Hp}{s s2:Shared}{E':Value→Shared→Prop}{e:Value}{EB:XK}{M:Model}{A:Around}{E:Value→Shared→Prop}{Q:Unit→Shared→Prop}
theorem to_clause(hst:X.stack=X.env::X.outer)(hf:X.env.frame=some X.env.locals)(hex:X.ex=[])(I:Inv X pins σ H s)(c:CXF X.prog X.w X.stack H s EB e s2)
  (h:∀ (x T:Addr) (C:Value) (dx:Addr) (H2 H3:Hp) (s3:Shared),e = .ref x→EB C (some dx) H2→H2 x=none→Same H2 H3→H3 x=some (AnyO x)→H3 T=some (AnyO T)→CX.Air s3.heap x T C (some dx) .none→Inv X pins σ H3 s3→Q () s3)
  (hA:A.frames=X.A.frames):wpAny M A (noteFrame e X.env) (fun _ s3=>wpAny M A (setFlight e none) Q E s3) E s2:=by
 obtain ⟨x,T,C,dx,H2,rfl,os,bare,un,hok,sx,sT,nx,nT,ar,hE⟩:=c
 have I2:=I.call' (ch:=[]) os un hok bare (fun b z=>absurd z (by simp))
 obtain ⟨⟨o,vs,hx,hc,hdx,hd,h1⟩,ne,u,ts,hT,hdT,h3⟩:=ar
 have nox:∀ b,b∉X.ex:=fun b z=>by rw [hex] at z;cases z
 have px:∀ b,s.heap.get? b=none→∀ p∈X.pn ++ pins,p.1≠b:=fun b hb p hp z=>by
  have q:=(I.pin p hp).1
  rw [z,hb] at q
  cases q
 have I3:Inv X pins σ (upd H2 x (AnyO x)) s2:=I2.track (x:=x) (φ:=fun h=>∃ o,h.get? x=some o) nx (I.old (nox x) sx) hx hd ⟨o,hx⟩ (fun h1 h2 ⟨o,q⟩ k=>⟨o,k o q⟩) (px x sx)
 have nT':upd H2 x (AnyO x) T=none:=by rw [upd_ne ne];exact nT
 have I4:Inv X pins σ (upd (upd H2 x (AnyO x)) T (AnyO T)) s2:=I3.track (x:=T) (φ:=fun h=>∃ o,h.get? T=some o) nT' (I.old (nox T) sT) hT hdT ⟨u,hT⟩ (fun h1 h2 ⟨o,q⟩ k=>⟨o,k o q⟩) (px T sT)
 have fr:A.frames=some (X.env::X.outer):=by rw [hA,← hst];exact I.ok.frames
 have fl:s2.heap.FunFrames X.base (X.env::X.outer):=by rw [← hst];exact I2.stack
 have fe:frs X.stack=CX.frm (X.env::X.outer):=by rw [hst];rfl
 refine CX.note_on fr fl hf hx hd h1 (.inr ⟨T,u,ts,rfl,ne,hT,hdT,h3⟩) fun g1 T1 sT1 Lf ar1=>?_
 have tx:(upd (upd H2 x (AnyO x)) T (AnyO T)) x=some (AnyO x):=by rw [upd_ne (Ne.symm ne),upd_same]
 have tT:(upd (upd H2 x (AnyO x)) T (AnyO T)) T=some (AnyO T):=upd_same
 have fresh:(upd (upd H2 x (AnyO x)) T (AnyO T)) T1=none:=I4.hok.fresh sT1
 have nb:∀ b v,(upd (upd H2 x (AnyO x)) T (AnyO T)) b=none→s2.heap.get? b=some v→b≠x∧Value.ref T≠.ref b:=fun b v n _=>⟨fun z=>(by rw [z,tx] at n;cases n),fun z=>(by cases z;rw [tT] at n;cases n)⟩
 have oldT1:∀ b v,s2.heap.get? b=some v→b≠T1:=fun b v q=>Nat.ne_of_lt (Nat.lt_of_lt_of_le (Heap.lt_size q) sT1)
 have sk:∀ {b:Addr} {o:HO},(upd (upd H2 x (AnyO x)) T (AnyO T)) b=some o→(upd (upd (upd H2 x (AnyO x)) T (AnyO T)) T1 (AnyO T1)) b=some o:=fun q=>by rw [upd_ne (ne_of_none q fresh)];exact q
 obtain ⟨⟨ox,vx,hx1,cx1,dx1,dd1,v1⟩,neT1,oT1,tsT1,hT1,hdT1,h31⟩:=id ar1
 have I5:Inv X pins σ (upd (upd (upd H2 x (AnyO x)) T (AnyO T)) T1 (AnyO T1)) { s2 with heap:=g1 }:=by
  refine I4.call' (ch:=[]) (s':={ s2 with heap:=g1 }) rfl ⟨fun b v q n hb _=>Lf.keep b v (nb b v n q).1 (nb b v n q).2 (fe▸hb) q,fun b v q n hb _=>Lf.slot b v (fe▸hb) q,fun b v q n _=>by rw [upd_ne (oldT1 b v q)];exact n,fun b v q _=>Lf.there b v q,fun b xs q=>sk q,fun b o' u' q=>sk q,
   fun b ps q=>⟨#[],by rw [sk q];simp⟩⟩ (fun b v q=>?_) bare (fun b z=>absurd z (by simp))
  by_cases h1:b=T1
  ·subst h1;rw [upd_same] at q;cases q;exact AnyO.ok hT1
  ·rw [upd_ne h1] at q
   by_cases h2:b=T
   ·subst h2
    rw [upd_same] at q
    cases q
    obtain ⟨v',e'⟩:=Lf.there b u hT
    exact AnyO.ok e'
   ·have q':=q
    rw [upd_ne h2] at q
    by_cases h3:b=x
    ·subst h3;rw [upd_same] at q;cases q;exact AnyO.ok hx1
    ·rw [upd_ne h3] at q
     refine (I4.hok b v q').stay (fun c y hc z=>?_) (fun c z=>sk z) fun c xs z=>sk z
     have tr:∃ o',H2 c=some o':=by
      rcases hc with rfl | hc
      ·exact ⟨_,q⟩
      ·by_cases a1:c=T
       ·rw [a1,tT] at hc;cases hc
       ·by_cases a2:c=x
        ·rw [a2,tx] at hc;cases hc
        ·rw [upd_ne a1,upd_ne a2] at hc;exact ⟨_,hc⟩
     obtain ⟨o',ho'⟩:=tr
     refine Lf.keep c y (fun z=>by rw [z,nx] at ho';cases ho') (fun z=>by cases z;rw [nT] at ho';cases ho') (fun z=>?_) z
     have z':c∈frs X.stack:=fe▸z
     rw [I2.stkFree c z'] at ho'
     cases ho'
 refine CX.flight_off (s:={ s2 with heap:=g1 }) ar1 fun g2 k2 ar2=>?_
 obtain ⟨oT2,tsT2,hT2,_⟩:=ar2.tb
 have I6:=I5.write (x:=T1) (e:=T1) (o:=AnyO T1) (h':=g2) (t':=s2.toks) (by rw [upd_same];exact True.intro) (.inl rfl) (fun b v hb q=>k2 b v hb q) ⟨_,hT2⟩ (AnyO.ok hT2)
 subst hc
 rw [hdx] at ar2
 refine h x T1 o.cls dx H2 _ { s2 with heap:=g2 } rfl hE nx (fun b v q=>?_) ?_ upd_same ar2 I6
 ·have a1:b≠x:=ne_of_none q nx
  have a2:b≠T:=ne_of_none q nT
  have a3:(upd (upd H2 x (AnyO x)) T (AnyO T)) b=some v:=by rw [upd_ne a2,upd_ne a1];exact q
  rw [upd_upd]
  exact sk a3
 ·rw [upd_upd]
  exact sk tx
theorem again_clause{x T:Addr}{C:Value}{dx:Option Addr}(I:Inv X pins σ H s)(eT:H T=some (AnyO T))(ar:CX.Air s.heap x T C dx .none)
  (h:∀ s',CX.Air s'.heap x T C dx .none→Inv X pins σ H s'→Q () s'):wpAny M A (setFlight (.ref x) none) Q E s:=by
 refine CX.flight_off ar fun g k ar2=>?_
 obtain ⟨oT,tsT,hT,_⟩:=ar2.tb
 have I2:=I.write (x:=T) (e:=T) (o:=AnyO T) (h':=g) (t':=s.toks) (by rw [eT];exact True.intro) (.inl rfl) (fun b v hb q=>k b v hb q) ⟨_,hT⟩ (AnyO.ok hT)
 have e2:upd H T (AnyO T)=H:=by
  funext b
  unfold upd
  split
  ·rename_i z;rw [z,eT]
  ·rfl
 rw [e2] at I2
 exact h _ ar2 I2
end
end L2
end
section
set_option maxRecDepth 100000
set_option maxHeartbeats 1000000
namespace L2
open PySem PySem.Spec PyProof.Rows
def KDic(w:World)(K:PySem.W.Frag)(a:Addr)(kvs:List (Key×V)):Prop:=(a == sysModules)=false∧∃ o es ep,K.lookup a=some o∧o.ExactDict∧o.data = .dict es ep∧
 Paired (fun (e:DictEntry) (kv:Key×V)=>keyIs kv.1 e.key=true∧e.hash=keyH w kv.1∧RelV kv.2 e.val) es.toList kvs
theorem KDic.map{P:Program}{w:World}{K:PySem.W.Frag}{h:Heap}{a:Addr}{kvs:List (Key×V)}(X:K.In h)(d:KDic w K a kvs):∃ f,h.MapOf (mixKind P w) a f∧∀ k,RelO (valV kvs k) (f k):=by
 obtain ⟨_,o,es,ep,l,x,hd,p⟩:=d
 refine ⟨findBy (mixKind P w).is es,⟨o,es,ep,X _ _ l,x,hd,fun e he=>?_,fun _=>rfl⟩,fun k=>?_⟩
 ·have all:∀ {l:List DictEntry} {m:List (Key×V)},Paired (fun (e:DictEntry) (kv:Key×V)=>keyIs kv.1 e.key=true∧e.hash=keyH w kv.1∧RelV kv.2 e.val) l m→∀ e∈l,∃ k,keyIs k e.key=true∧e.hash=keyH w k:=by
   intro l m q
   induction q with
   | nil=>intro e he;cases he
   | cons r t ih =>
    intro e he
    rcases List.mem_cons.mp he with z | z
    ·subst z;exact ⟨_,r.1,r.2.1⟩
    ·exact ih e z
  exact all p e (Array.mem_toList_iff.mpr he)
 ·have all:∀ {l:List DictEntry} {m:List (Key×V)},Paired (fun (e:DictEntry) (kv:Key×V)=>keyIs kv.1 e.key=true∧e.hash=keyH w kv.1∧RelV kv.2 e.val) l m→
    RelO (valV m k) ((l.find? fun e=>keyIs k e.key).map (·.val)):=by
   intro l m q
   induction q with
   | nil=>exact True.intro
   | @cons e kv es' kvs' r t ih =>
    by_cases z:kv.1=k
    ·have b:keyIs k e.key=true:=by rw [← z];exact r.1
     rw [valV_pos z,List.find?_cons,b]
     exact r.2.2
    ·have b:keyIs k e.key=false:=by
      cases c:keyIs k e.key with
      | false=>rfl
      | true=>exact absurd ((mixKind P w).inj e.key kv.1 k r.1 c) z
     rw [valV_neg z,List.find?_cons,b]
     exact ih
  have e1:=all p
  obtain ⟨l⟩:=es
  unfold findBy
  rw [← Array.find?_toList]
  exact e1
section
variable{X:Cx}
def rInK(w:World)(K:PySem.W.Frag)(neg:Bool):R2:=fun x y H Q=>∃ a kvs k,y = .ref a∧KDic w K a kvs∧x=kV k∧Q (.bl (if neg then !(valV kvs k).isSome else (valV kvs k).isSome)) H
theorem op_inK:OpR X (compareOp .In) (rInK X.w X.K false):=by
 rintro pins s σ H x y v u Q I rx ry ⟨a,kvs,k,rfl,d,rfl,q⟩
 cases ry
 obtain ⟨f,m,rel⟩:=d.map (P:=X.prog) I.kIn
 refine wpAny_in_of (kV_is rx) d.1 m ?_
 rw [← (rel k).isSome_eq]
 exact ⟨.bl _,H,I.tok _,rfl,q⟩
theorem op_notInK:OpR X (compareOp .NotIn) (rInK X.w X.K true):=by
 rintro pins s σ H x y v u Q I rx ry ⟨a,kvs,k,rfl,d,rfl,q⟩
 cases ry
 obtain ⟨f,m,rel⟩:=d.map (P:=X.prog) I.kIn
 refine wpAny_notIn_of (kV_is rx) d.1 m ?_
 rw [← (rel k).isSome_eq]
 exact ⟨.bl _,H,I.tok _,rfl,q⟩
def tDGetK(w:World)(K:PySem.W.Frag)(td ty:TE):TE:=fun σ H Q=>td σ H fun x H1=>ty σ H1 fun y H2=>∃ a kvs k v,x = .ref a∧KDic w K a kvs∧y=kV k∧valV kvs k=some v∧Q v H2
theorem pe_dgetK{o i:Expr}{td ty:TE}{pos:Pos}(ho:PE X o td)(hi:PE X i ty)(hs:NoSl i):PE X (.Subscript o i pos) (tDGetK X.w X.K td ty):=by
 intro pins s σ H Q I h
 refine subD_of PySem.F.slot_dict_getitem.lookup hs (thn (ho pins s σ H _ I h) fun u s1 ⟨x,H1,I1,rx,q1⟩=>thn (hi pins s1 σ H1 _ I1 q1) fun iv s2 ⟨y,H2,I2,ry,a,kvs,k,v,ex,d,ey,l,q2⟩=>?_)
 subst ex ey
 obtain rfl:u=Value.ref a:=rx
 obtain ⟨f,m,rel⟩:=d.map (P:=X.prog) I2.kIn
 obtain ⟨w',hw,rw'⟩:=RelO.some_of (v:=v) (o:=f k) (by rw [← l];exact rel k)
 exact ⟨m.typeIs,wpAny_getItem_of (kV_is ry) m hw ⟨v,H2,I2.tok _,rw',q2⟩⟩
end
def KDicT(P:Program)(w:World)(K:PySem.W.Frag)(a:Addr)(kvs:List (List Key×V)):Prop:=(a == sysModules)=false∧∃ o es ep,∃ xs:List (List Key×Addr×Value),K.lookup a=some o∧o.ExactDict∧o.data = .dict es ep∧
 es.toList=xs.map (entryOfKey (tupleKind (mixKind P w)))∧(xs.map (·.1)).Nodup∧
 Paired (fun (p:List Key×V) (q:List Key×Addr×Value)=>p.1=q.1∧RelV p.2 q.2.2∧∃ o its n,K.lookup q.2.1=some o∧o.cls = .type "tuple"∧o.data = .seq its n∧ItemsAre (mixKind P w) q.1 its.toList) kvs xs
theorem KDicT.dic{P:Program}{w:World}{K:PySem.W.Frag}{h:Heap}{a:Addr}{kvs:List (List Key×V)}(X:K.In h)(d:KDicT P w K a kvs) :
  ∃ xs,h.DictOfH (tupleKind (mixKind P w)) a xs∧∀ k,RelO (valV kvs k) ((atKey xs k).map (·.2)):=by
 obtain ⟨_,o,es,ep,xs,l,x,hd,he,nd,p⟩:=d
 refine ⟨xs,⟨o,es,ep,X _ _ l,x,hd,he,?_,nd⟩,fun k=>?_⟩
 ·clear he nd
  induction p with
  | nil=>intro x hx;cases hx
  | cons r t ih =>
   intro x hx
   rcases List.mem_cons.mp hx with z | z
   ·subst z
    obtain ⟨_,_,o',its,n,q1,q2,q3,q4⟩:=r
    exact ⟨o',its,n,X _ _ q1,q2,q3,q4⟩
   ·exact ih x z
 ·clear he nd
  induction p with
  | nil=>exact True.intro
  | @cons p q ps qs r t ih =>
   obtain ⟨h1,h2,_⟩:=r
   by_cases e:p.1=k
   ·have e':q.1=k:=h1.symm.trans e
    have b:atKey (q::qs) k=some q.2:=by simp [atKey,List.find?_cons,e']
    rw [valV_pos e,b];exact h2
   ·have e':¬ q.1=k:=fun z=>e (h1.trans z)
    have b:atKey (q::qs) k=atKey qs k:=by simp [atKey,List.find?_cons,e']
    rw [valV_neg e,b];exact ih
section
variable{X:Cx}
def rInKT(P:Program)(w:World)(K:PySem.W.Frag):R2:=fun x y H Q=>∃ a kvs b k,y = .ref a∧KDicT P w K a kvs∧x = .ref b∧H b=some (.tup (k.map kV))∧Q (.bl (valV kvs k).isSome) H
theorem op_inKT(hu:X.A.units + 1 < cLine):OpR X (compareOp .In) (rInKT X.prog X.w X.K):=by
 rintro pins s σ H x y v u Q I rx ry ⟨a,kvs,b,k,rfl,d,rfl,eb,q⟩
 cases ry
 cases rx
 obtain ⟨xs,m,rel⟩:=d.dic I.kIn
 refine wpAny_in_heap (tupleKind_room_in1 hu) (key_of I.hok eb) d.1 m ?_
 have z:=(rel k).isSome_eq
 rw [Option.isSome_map] at z
 rw [← z]
 exact ⟨.bl _,H,I.tok _,rfl,q⟩
def tDGetKT(P:Program)(w:World)(K:PySem.W.Frag)(td ty:TE):TE:=fun σ H Q=>td σ H fun x H1=>ty σ H1 fun y H2=>∃ a kvs b k v,x = .ref a∧KDicT P w K a kvs∧y = .ref b∧H2 b=some (.tup (k.map kV))∧valV kvs k=some v∧Q v H2
theorem pe_dgetKT{o i:Expr}{td ty:TE}{pos:Pos}(hu:X.A.units + 1 < cLine)(ho:PE X o td)(hi:PE X i ty)(hs:NoSl i):PE X (.Subscript o i pos) (tDGetKT X.prog X.w X.K td ty):=by
 intro pins s σ H Q I h
 refine subD_of PySem.F.slot_dict_getitem.lookup hs (thn (ho pins s σ H _ I h) fun u s1 ⟨x,H1,I1,rx,q1⟩=>thn (hi pins s1 σ H1 _ I1 q1) fun iv s2 ⟨y,H2,I2,ry,a,kvs,b,k,v,ex,d,ey,eb,l,q2⟩=>?_)
 subst ex ey
 obtain rfl:u=Value.ref a:=rx
 obtain rfl:iv=Value.ref b:=ry
 obtain ⟨xs,m,rel⟩:=d.dic I2.kIn
 obtain ⟨w',hw,rw'⟩:=RelO.some_of (v:=v) (o:=(atKey xs k).map (·.2)) (by rw [← l];exact rel k)
 obtain ⟨p,hp,hp2⟩:=Option.map_eq_some_iff.mp hw
 refine ⟨m.typeIs,wpAny_getItem_heap (tupleKind_room_in1 hu) (key_of I2.hok eb) m hp ?_⟩
 rw [hp2]
 exact ⟨v,H2,I2.tok _,rw',q2⟩
end
end L2
end
section
set_option maxRecDepth 100000
set_option maxHeartbeats 1000000
namespace L2
open PySem PySem.Spec PyProof.Rows
section
variable{X:Cx}{C fI:Addr}{fs:List Str}{o value:Expr}{f:Str}{pos pos':Pos}{ta tv:TE}
def sFldX1(C:Addr)(ta tv:TE)(f:Str):TS:=fun D σ H=>tv σ H fun y H1=>ta σ H1 fun v H2=>∃ x,v = .ref x∧H2 x=some (XO C none x)∧∀ dx,H2 dx=none→dx≠x→D.nx σ (upd (upd H2 x (XO C (some dx) x)) dx (XD dx [(f,y)]))
def sFldX2(C:Addr)(ta tv:TE)(f:Str):TS:=fun D σ H=>tv σ H fun y H1=>ta σ H1 fun v H2=>∃ x dx fs0,v = .ref x∧H2 x=some (XO C (some dx) x)∧H2 dx=some (XD dx fs0)∧fs0.length≤1000∧D.nx σ (upd H2 dx (XD dx (putF f y fs0)))
theorem ps_fldX1(q:xcls X.K C fI fs=true)(hf:f∈fs)(hB:typeLookup (.type "Exception") f=pure none)(ha:PE X o ta)(hv:PE X value tv)(hs:swapsWith value (some (.Attribute o f pos')) pos.line X.env=pure false) :
  PS X (.Assign [.Attribute o f pos'] value pos) (sFldX1 C ta tv f):=by
 intro pins s σ H D I h
 refine plainObj_wpAny_Assign_Attribute (thn (hv pins s σ H _ I h) fun u s1 ⟨y,H1,I1,ry,q1⟩=>thn (ha pins s1 σ H1 _ I1 q1) fun ov s2 ⟨v,H2,I2,rx,x,ex,e1,q2⟩=>?_) hs
 subst ex
 obtain rfl:ov=Value.ref x:=rx
 exact setX1 I2 e1 q hf hB ry fun dx s3 n1 n2 I3=>⟨σ,_,I3,q2 dx n1 n2⟩
theorem ps_fldX2(q:xcls X.K C fI fs=true)(hf:f∈fs)(hB:typeLookup (.type "Exception") f=pure none)(ha:PE X o ta)(hv:PE X value tv)(hs:swapsWith value (some (.Attribute o f pos')) pos.line X.env=pure false) :
  PS X (.Assign [.Attribute o f pos'] value pos) (sFldX2 C ta tv f):=by
 intro pins s σ H D I h
 refine plainObj_wpAny_Assign_Attribute (thn (hv pins s σ H _ I h) fun u s1 ⟨y,H1,I1,ry,q1⟩=>thn (ha pins s1 σ H1 _ I1 q1) fun ov s2 ⟨v,H2,I2,rx,x,dx,fs0,ex,e1,e2,l,q2⟩=>?_) hs
 subst ex
 obtain rfl:ov=Value.ref x:=rx
 exact setX2 I2 e1 e2 q hf hB ry l fun s3 I3=>⟨σ,_,I3,q2⟩
end
end L2
end
section
set_option autoImplicit false
namespace Cell
open Vanbka
def bw(t:Tok):Int:=if opening t.lex then 1 else if closing t.lex then -1 else 0
def bal:List Tok→Int
 | []=>0
 | t::r=>bw t + bal r
theorem bal_app:∀ (c d:List Tok),bal (c ++ d)=bal c + bal d
 | [],d=>by simp [bal]
 | t::c,d=>by
  have ih:=bal_app c d
  simp only [List.cons_append,bal,ih]
  omega
def Con(ts r:List Tok)(z:Int)(m:Nat):Prop:=∃ c,ts=c ++ r∧bal c=z∧m≤c.length
theorem Con.refl(ts:List Tok):Con ts ts 0 0:=⟨[],rfl,rfl,Nat.zero_le _⟩
theorem Con.trans{a b c:List Tok}{z y:Int}{m k:Nat}(h:Con a b z m)(g:Con b c y k):Con a c (z + y) (m + k):=by
 obtain ⟨p,rfl,hp,lp⟩:=h
 obtain ⟨q,rfl,hq,lq⟩:=g
 refine ⟨p ++ q,by simp,by rw [bal_app,hp,hq],?_⟩
 rw [List.length_append];omega
theorem Con.to{a b:List Tok}{z y:Int}{m k:Nat}(h:Con a b z m)(e:z=y)(l:k≤m):Con a b y k:=by
 obtain ⟨p,h1,h2,h3⟩:=h
 exact ⟨p,h1,h2.trans e,by omega⟩
theorem Con.len{a b:List Tok}{z:Int}{m:Nat}(h:Con a b z m):b.length + m≤a.length:=by
 obtain ⟨p,rfl,_,h3⟩:=h
 rw [List.length_append];omega
theorem Con.one(t:Tok)(r:List Tok):Con (t::r) r (bw t) 1:=⟨[t],rfl,by simp [bal],by simp⟩
def Res{α:Type}(x:Except Nat (α×List Tok))(ts:List Tok)(z:Int)(m:Nat):Prop:=match x with
 | .ok (_,r)=>Con ts r z m
 | .error l=>l≤ts.length
def ResE(x:Except Nat (List Tok))(ts:List Tok)(z:Int)(m:Nat):Prop:=match x with
 | .ok r=>Con ts r z m
 | .error l=>l≤ts.length
section
variable{α β:Type}{ts:List Tok}{z y:Int}{m k:Nat}
theorem Res.halt:Res (halt_ ts:Except Nat (α×List Tok)) ts z m:=Nat.le_refl _
theorem Res.ret{a:α}{r:List Tok}:Res (Except.ok (a,r)) r 0 0:=Con.refl r
theorem Res.bind{x:Except Nat (α×List Tok)}{f:α×List Tok→Except Nat (β×List Tok)}(hx:Res x ts z m)(hf:∀ a r,x = .ok (a,r)→Res (f (a,r)) r y k):Res (x >>= f) ts (z + y) (m + k):=by
 cases x with
 | error l=>exact hx
 | ok p =>
  obtain ⟨a,r⟩:=p
  have hx:Con ts r z m:=hx
  have q:=hf a r rfl
  show Res (f (a,r)) ts _ _
  cases e:f (a,r) with
  | error l =>
   rw [e] at q
   have q:l≤r.length:=q
   have:=hx.len
   show l≤ts.length
   omega
  | ok p2 =>
   rw [e] at q
   exact hx.trans q
theorem ResE.bind{x:Except Nat (List Tok)}{f:List Tok→Except Nat (β×List Tok)}(hx:ResE x ts z m)(hf:∀ r,x = .ok r→Res (f r) r y k):Res (x >>= f) ts (z + y) (m + k):=by
 cases x with
 | error l=>exact hx
 | ok r =>
  have hx:Con ts r z m:=hx
  have q:=hf r rfl
  show Res (f r) ts _ _
  cases e:f r with
  | error l =>
   rw [e] at q
   have q:l≤r.length:=q
   have:=hx.len
   show l≤ts.length
   omega
  | ok p2 =>
   rw [e] at q
   exact hx.trans q
theorem Res.to{x:Except Nat (α×List Tok)}(h:Res x ts z m)(e:z=y)(l:k≤m):Res x ts y k:=by
 cases x with
 | error _=>exact h
 | ok p=>exact Con.to h e l
theorem Res.after{x:Except Nat (α×List Tok)}{r:List Tok}(c:Con ts r z m)(h:Res x r y k):Res x ts (z + y) (m + k):=by
 cases x with
 | error l =>
  have h:l≤r.length:=h
  have:=c.len
  show l≤ts.length
  omega
 | ok p=>exact c.trans h
end
def sw(s:String):Int:=bw { lex:=.sign (b s),place:=0,len:=0 }
theorem bw_sign{s:String}{t:Tok}(h:isSign s t=true):bw t=sw s:=by
 have e:t.lex = .sign (b s):=by simpa [isSign] using h
 unfold sw bw
 rw [e]
theorem bw_word{w:Bytes}{t:Tok}(h:t.lex = .word w):bw t=0:=by
 unfold bw opening closing
 rw [h]
 simp
theorem bw_isWord{s:String}{t:Tok}(h:isWord s t=true):bw t=0:=bw_word (w:=b s) (by simpa [isWord] using h)
theorem next_cons{p:Tok→Bool}{ts:List Tok}(h:next p ts=true):∃ t r,ts=t::r∧p t=true∧ts.drop 1=r:=by
 cases ts with
 | nil=>simp [next] at h
 | cons t r=>exact ⟨t,r,rfl,h,rfl⟩
theorem con_sign{s:String}{ts:List Tok}(h:next (isSign s) ts=true):Con ts (ts.drop 1) (sw s) 1:=by
 obtain ⟨t,r,rfl,hp,_⟩:=next_cons h
 rw [← bw_sign hp]
 exact Con.one t r
theorem con_word{s:String}{ts:List Tok}(h:next (isWord s) ts=true):Con ts (ts.drop 1) 0 1:=by
 obtain ⟨t,r,rfl,hp,_⟩:=next_cons h
 have:=Con.one t r
 rw [bw_isWord hp] at this
 exact this
theorem res_eatS{s:String}{ts:List Tok}:ResE (eat (isSign s) ts) ts (sw s) 1:=by
 unfold eat
 split
 ·rename_i h;exact con_sign h
 ·exact Nat.le_refl _
theorem res_eatW{s:String}{ts:List Tok}:ResE (eat (isWord s) ts) ts 0 1:=by
 unfold eat
 split
 ·rename_i h;exact con_word h
 ·exact Nat.le_refl _
theorem nameNext_cons{ts:List Tok}{x:Bytes}(h:nameNext ts=some x):∃ t r,ts=t::r∧t.lex = .word x∧reserved.contains x=false:=by
 unfold nameNext at h
 split at h
 ·rename_i w p l r
  split at h
  ·cases h
  ·rename_i hr
   cases h
   exact ⟨_,_,rfl,rfl,by simpa using hr⟩
 ·cases h
theorem con_name{ts:List Tok}{x:Bytes}(h:nameNext ts=some x):Con ts (ts.drop 1) 0 1:=by
 obtain ⟨t,r,rfl,e,_⟩:=nameNext_cons h
 have:=Con.one t r
 rw [bw_word e] at this
 exact this
theorem res_name{ts:List Tok}:Res (name ts) ts 0 1:=by
 unfold name
 split
 ·rename_i x h;exact con_name h
 ·exact Nat.le_refl _
theorem bw_num{n:Nat}{t:Tok}(h:t.lex = .num n):bw t=0:=by
 unfold bw opening closing
 rw [h];simp
theorem bw_quoted{s:Bytes}{t:Tok}(h:t.lex = .quoted s):bw t=0:=by
 unfold bw opening closing
 rw [h];simp
theorem res_number{ts:List Tok}:Res (number ts) ts 0 1:=by
 unfold number
 split
 ·rename_i n p l r
  have:=Con.one { lex:=.num n,place:=p,len:=l } r
  rw [bw_num rfl] at this
  exact this
 ·exact Nat.le_refl _
theorem res_quoted{ts:List Tok}:Res (quoted ts) ts 0 1:=by
 unfold quoted
 split
 ·rename_i n p l r
  have:=Con.one { lex:=.quoted n,place:=p,len:=l } r
  rw [bw_quoted rfl] at this
  exact this
 ·exact Nat.le_refl _
theorem sw_minus:sw "-"=0:=by decide +kernel
theorem sw_comma:sw ","=0:=by decide +kernel
theorem sw_colon:sw ":"=0:=by decide +kernel
theorem sw_semi:sw ";"=0:=by decide +kernel
theorem sw_eq:sw "="=0:=by decide +kernel
theorem sw_q:sw "?"=0:=by decide +kernel
theorem sw_dot:sw "."=0:=by decide +kernel
theorem sw_po:sw "("=1:=by decide +kernel
theorem sw_pc:sw ")" = -1:=by decide +kernel
theorem sw_bo:sw "["=1:=by decide +kernel
theorem sw_bc:sw "]" = -1:=by decide +kernel
theorem sw_co:sw "{"=1:=by decide +kernel
theorem sw_cc:sw "}" = -1:=by decide +kernel
theorem res_whole{ts:List Tok}:Res (whole ts) ts 0 1:=by
 unfold whole
 split
 ·rename_i h
  refine Res.to (Res.after (con_sign h) (Res.bind (y:=0) (k:=0) res_number ?_)) (by rw [sw_minus];rfl) (by omega)
  intro a r _;exact Res.ret
 ·refine Res.to (Res.bind (y:=0) (k:=0) res_number ?_) rfl (by omega)
  intro a r _;exact Res.ret
theorem res_namesMore:∀ (n:Nat) (ts:List Tok),Res (namesMore n ts) ts 0 0
 | 0,ts=>Con.refl ts
 | n + 1,ts=>by
  unfold namesMore
  split
  ·rename_i h
   refine Res.to (Res.after (con_sign h) (Res.bind (y:=0 + 0) (k:=0 + 0) res_name ?_)) (by rw [sw_comma];rfl) (by omega)
   intro a r _
   refine Res.bind (res_namesMore n r) ?_
   intro a r _;exact Res.ret
  ·exact Con.refl ts
theorem res_quotedMore:∀ (n:Nat) (ts:List Tok),Res (quotedMore n ts) ts 0 0
 | 0,ts=>Con.refl ts
 | n + 1,ts=>by
  unfold quotedMore
  split
  ·rename_i h
   refine Res.to (Res.after (con_sign h) (Res.bind (y:=0 + 0) (k:=0 + 0) res_quoted ?_)) (by rw [sw_comma];rfl) (by omega)
   intro a r _
   refine Res.bind (res_quotedMore n r) ?_
   intro a r _;exact Res.ret
  ·exact Con.refl ts
theorem res_params{ts:List Tok}:Res (params ts) ts (-1) 1:=by
 unfold params
 split
 ·rename_i h
  exact (con_sign h).to (by rw [sw_pc]) (Nat.le_refl _)
 ·refine Res.to (Res.bind (y:=0 + (sw ")" + 0)) (k:=0 + (1 + 0)) res_name ?_) (by rw [sw_pc];rfl) (by omega)
  intro a r _
  refine Res.bind (res_namesMore _ r) ?_
  intro l r _
  refine ResE.bind res_eatS ?_
  intro r _;exact Res.ret
theorem opOf_bw{k:Nat}{t:Tok}{o:Op}(h:opOf k t.lex=some o):bw t=0:=by
 unfold opOf at h
 split at h
 ·rename_i e;exact bw_word e
 ·rename_i e;exact bw_word e
 all_goals first
  | (cases h;done)
  | (rename_i s e
     repeat' split at h
     all_goals first
      | (cases h;done)
      | (rename_i q;have q:=eq_of_beq q;subst q;unfold bw;rw [e];decide +kernel))
theorem con_op{k:Nat}{ts:List Tok}{o:Op}(h:opNext k ts=some o):Con ts (ts.drop 1) 0 1:=by
 cases ts with
 | nil=>simp [opNext] at h
 | cons t r =>
  have e:bw t=0:=opOf_bw h
  have:=Con.one t r
  rw [e] at this
  exact this
end Cell
end
section
set_option autoImplicit false
namespace Cell
open Vanbka
structure Fine(n:Nat):Prop where
 expr:∀ ts,Res (expr n ts) ts 0 1
 line:∀ k ts,Res (line n k ts) ts 0 1
 chain:∀ k x ts,Res (chain n k x ts) ts 0 0
 reach:∀ x ts,Res (reach n x ts) ts 0 0
 listed:∀ s ts,Res (listed n s ts) ts (sw s) 1
 more:∀ ts,Res (more n ts) ts 0 0
 fields:∀ ts,Res (fields n ts) ts 0 1
 simple:∀ ts,Res (simple n ts) ts 0 1
 parts:∀ k ts,Res (parts n k ts) ts (-1) 1
 inBrackets:∀ ts,Res (inBrackets n ts) ts (-1) 1
 function:∀ ts,Res (function n ts) ts 0 1
 block:∀ ts,Res (block n ts) ts 0 1
 statements:∀ ts,Res (statements n ts) ts 0 0
 statement:∀ ts,Res (statement n ts) ts 0 1
theorem fine0:Fine 0:=by
 constructor <;> intros <;> simp only [expr,line,chain,reach,listed,more,fields,simple,parts,inBrackets,function,block,statements,statement] <;> exact Res.halt
theorem con_tok{t:Tok}{r:List Tok}{z:Int}(e:bw t=z):Con (t::r) r z 1:=e▸Con.one t r
section
variable{n:Nat}(F:Fine n)
include F
theorem fine_expr(ts:List Tok):Res (expr (n + 1) ts) ts 0 1:=by
 rw [expr]
 refine Res.to (Res.bind (y:=0) (k:=0) (F.line 1 ts) ?_) rfl (by omega)
 intro c r _
 dsimp only
 split
 ·rename_i h
  refine Res.to (Res.after (con_sign h) (Res.bind (y:=sw ":" + (0 + 0)) (k:=1 + (1 + 0)) (F.line 1 _) ?_)) (by rw [sw_q,sw_colon];rfl) (by omega)
  intro x r _
  refine ResE.bind res_eatS ?_
  intro r _
  refine Res.bind (F.line 1 r) ?_
  intro y r _
  exact Res.ret
 ·exact Res.ret
theorem fine_line(k:Nat)(ts:List Tok):Res (line (n + 1) k ts) ts 0 1:=by
 rw [line]
 split
 ·split
  ·rename_i h
   refine Res.to (Res.after (con_word h) (Res.bind (y:=0) (k:=0) (F.line 4 _) ?_)) rfl (by omega)
   intro e r _;exact Res.ret
  ·exact F.line 4 ts
 split
 ·refine Res.to (Res.bind (y:=0) (k:=0) (F.line 5 ts) ?_) rfl (by omega)
  intro x r _
  dsimp only
  split
  ·rename_i o h
   refine Res.to (Res.after (con_op h) (Res.bind (y:=0) (k:=0) (F.line 5 _) ?_)) rfl (by omega)
   intro y r _;exact Res.ret
  ·exact Res.ret
 split
 ·split
  ·rename_i h
   refine Res.to (Res.after (con_sign h) (Res.bind (y:=0) (k:=0) (F.line 9 _) ?_)) (by rw [sw_minus];rfl) (by omega)
   intro e r _;exact Res.ret
  ·exact F.line 9 ts
 split
 ·refine Res.to (Res.bind (y:=0) (k:=0) (F.simple ts) ?_) rfl (by omega)
  intro x r _;exact F.reach x r
 ·refine Res.to (Res.bind (y:=0) (k:=0) (F.line _ ts) ?_) rfl (by omega)
  intro x r _;exact F.chain k x r
theorem fine_chain(k:Nat)(x:Expr)(ts:List Tok):Res (chain (n + 1) k x ts) ts 0 0:=by
 rw [chain]
 split
 ·rename_i o h
  refine Res.to (Res.after (con_op h) (Res.bind (y:=0) (k:=0) (F.line _ _) ?_)) rfl (by omega)
  intro y r _;exact F.chain k _ r
 ·exact Con.refl ts
theorem fine_reach(x:Expr)(ts:List Tok):Res (reach (n + 1) x ts) ts 0 0:=by
 rw [reach]
 split
 ·rename_i h
  refine Res.to (Res.after (con_sign h) (Res.bind (y:=0) (k:=0) (F.listed ")" _) ?_)) (by rw [sw_po,sw_pc];rfl) (by omega)
  intro l r _;exact F.reach _ r
 split
 ·rename_i h
  refine Res.to (Res.after (con_sign h) (Res.bind (y:=sw "]" + 0) (k:=1 + 0) (F.expr _) ?_)) (by rw [sw_bo,sw_bc];rfl) (by omega)
  intro e r _
  refine ResE.bind res_eatS ?_
  intro r _;exact F.reach _ r
 split
 ·rename_i h
  refine Res.to (Res.after (con_sign h) (Res.bind (y:=0) (k:=0) res_name ?_)) (by rw [sw_dot];rfl) (by omega)
  intro y r _;exact F.reach _ r
 ·exact Con.refl ts
theorem fine_listed(s:String)(ts:List Tok):Res (listed (n + 1) s ts) ts (sw s) 1:=by
 rw [listed]
 split
 ·rename_i h;exact con_sign h
 ·refine Res.to (Res.bind (y:=0 + (sw s + 0)) (k:=0 + (1 + 0)) (F.expr _) ?_) (by omega) (by omega)
  intro e r _
  refine Res.bind (F.more r) ?_
  intro l r _
  refine ResE.bind res_eatS ?_
  intro r _;exact Res.ret
theorem fine_more(ts:List Tok):Res (more (n + 1) ts) ts 0 0:=by
 rw [more]
 split
 ·rename_i h
  refine Res.to (Res.after (con_sign h) (Res.bind (y:=0 + 0) (k:=0 + 0) (F.expr _) ?_)) (by rw [sw_comma];rfl) (by omega)
  intro e r _
  refine Res.bind (F.more r) ?_
  intro l r _;exact Res.ret
 ·exact Con.refl ts
theorem fine_fields(ts:List Tok):Res (fields (n + 1) ts) ts 0 1:=by
 rw [fields]
 refine Res.to (Res.bind (y:=sw ":" + (0 + 0)) (k:=1 + (1 + 0)) res_name ?_) (by rw [sw_colon];rfl) (by omega)
 intro x r _
 refine ResE.bind res_eatS ?_
 intro r _
 refine Res.bind (F.expr r) ?_
 intro e r _
 dsimp only
 split
 ·rename_i h
  refine Res.to (Res.after (con_sign h) (Res.bind (y:=0) (k:=0) (F.fields _) ?_)) (by rw [sw_comma];rfl) (by omega)
  intro l r _;exact Res.ret
 ·exact Res.ret
theorem fine_simple(ts:List Tok):Res (simple (n + 1) ts) ts 0 1:=by
 rw [simple.eq_def]
 dsimp only
 split
 ·exact con_tok (bw_num rfl)
 ·exact con_tok (bw_quoted rfl)
 ·rename_i t r _ _
  split
  ·rename_i h
   refine Res.to (Res.after (con_tok (bw_sign h)) (Res.bind (y:=0) (k:=0) (F.listed "]" r) ?_)) (by rw [sw_bo,sw_bc];rfl) (by omega)
   intro l r _;exact Res.ret
  split
  ·rename_i h
   exact Res.to (Res.after (con_tok (bw_sign h)) (F.inBrackets r)) (by rw [sw_po];rfl) (by omega)
  split
  ·rename_i h
   exact Res.to (Res.after (con_tok (bw_isWord h)) (F.function r)) rfl (by omega)
  split
  ·rename_i h;exact con_tok (bw_isWord h)
  split
  ·rename_i h;exact con_tok (bw_isWord h)
  split
  ·rename_i h;exact con_tok (bw_isWord h)
  split
  ·rename_i x h;exact con_name h
  split
  ·rename_i p k h
   have hw:∃ w,t.lex = .word w:=by
    cases e:wordNext (t::r) with
    | none=>rw [e] at h;cases h
    | some w =>
     unfold wordNext at e
     split at e
     ·rename_i w' _ _ _ q
      exact ⟨w',by have:=(List.cons.inj q).1;rw [this]⟩
     ·cases e
   obtain ⟨w,hw⟩:=hw
   refine Res.to (Res.after (con_tok (bw_word hw)) (ResE.bind (y:=-1 + 0) (k:=1 + 0) res_eatS ?_)) (by rw [sw_po];rfl) (by omega)
   intro r _
   refine Res.bind (F.parts _ r) ?_
   intro l r _;exact Res.ret
  ·exact Res.halt
 ·exact Res.halt
theorem fine_parts(k:Nat)(ts:List Tok):Res (parts (n + 1) k ts) ts (-1) 1:=by
 rw [parts]
 refine Res.to (Res.bind (y:=-1) (k:=0) (F.expr ts) ?_) rfl (by omega)
 intro e r _
 dsimp only
 split
 ·refine Res.to (ResE.bind (y:=0) (k:=0) res_eatS ?_) (by rw [sw_pc];rfl) (by omega)
  intro r _;exact Res.ret
 ·refine Res.to (ResE.bind (y:=-1 + 0) (k:=1 + 0) res_eatS ?_) (by rw [sw_comma];rfl) (by omega)
  intro r _
  refine Res.bind (F.parts _ r) ?_
  intro l r _;exact Res.ret
theorem fine_inBrackets(ts:List Tok):Res (inBrackets (n + 1) ts) ts (-1) 1:=by
 rw [inBrackets]
 split
 ·rename_i h
  refine Res.to (Res.after (con_sign h) (ResE.bind (y:=0) (k:=0) res_eatS ?_)) (by rw [sw_colon,sw_pc];rfl) (by omega)
  intro r _;exact Res.ret
 split
 ·refine Res.to (Res.bind (y:=sw ")" + 0) (k:=1 + 0) (F.fields ts) ?_) (by rw [sw_pc];rfl) (by omega)
  intro l r _
  refine ResE.bind res_eatS ?_
  intro r _;exact Res.ret
 ·refine Res.to (Res.bind (y:=sw ")" + 0) (k:=1 + 0) (F.expr ts) ?_) (by rw [sw_pc];rfl) (by omega)
  intro l r _
  refine ResE.bind res_eatS ?_
  intro r _;exact Res.ret
theorem fine_block(ts:List Tok):Res (block (n + 1) ts) ts 0 1:=by
 rw [block]
 refine Res.to (ResE.bind (y:=0 + (sw "}" + 0)) (k:=0 + (1 + 0)) res_eatS ?_) (by rw [sw_co,sw_cc];rfl) (by omega)
 intro r _
 refine Res.bind (F.statements r) ?_
 intro s r _
 refine ResE.bind res_eatS ?_
 intro r _;exact Res.ret
theorem fine_function(ts:List Tok):Res (function (n + 1) ts) ts 0 1:=by
 rw [function]
 dsimp only
 cases e:nameNext ts with
 | none =>
  refine Res.to (ResE.bind (y:=-1 + (0 + 0)) (k:=1 + (1 + 0)) res_eatS ?_) (by rw [sw_po];rfl) (by omega)
  intro r _
  refine Res.bind res_params ?_
  intro l r _
  refine Res.bind (F.block r) ?_
  intro s r _;exact Res.ret
 | some x =>
  refine Res.to (Res.after (con_name e) (ResE.bind (y:=-1 + (0 + 0)) (k:=1 + (1 + 0)) res_eatS ?_)) (by rw [sw_po];rfl) (by omega)
  intro r _
  refine Res.bind res_params ?_
  intro l r _
  refine Res.bind (F.block r) ?_
  intro s r _;exact Res.ret
theorem fine_statements(ts:List Tok):Res (statements (n + 1) ts) ts 0 0:=by
 rw [statements]
 split
 ·exact Con.refl ts
 ·refine Res.to (Res.bind (y:=0 + 0) (k:=0 + 0) (F.statement ts) ?_) rfl (by omega)
  intro s r _
  refine Res.bind (F.statements r) ?_
  intro l r _;exact Res.ret
theorem wordNext_con{ts:List Tok}{w:Bytes}(h:wordNext ts=some w):Con ts (ts.drop 1) 0 1:=by
 unfold wordNext at h
 split at h
 ·exact con_tok (bw_word rfl)
 ·cases h
theorem fine_statement(ts:List Tok):Res (statement (n + 1) ts) ts 0 1:=by
 rw [statement]
 dsimp only
 split
 ·rename_i h
  refine Res.to (Res.after (con_word h) (Res.bind (y:=sw "=" + (0 + (sw ";" + 0))) (k:=0) res_name ?_)) (by rw [sw_eq,sw_semi];rfl) (by omega)
  intro x r _
  refine Res.to (ResE.bind (y:=0 + (sw ";" + 0)) (k:=0) res_eatS ?_) rfl (by omega)
  intro r _
  refine Res.to (Res.bind (y:=sw ";" + 0) (k:=0) (F.expr r) ?_) rfl (by omega)
  intro e r _
  refine Res.to (ResE.bind (y:=0) (k:=0) res_eatS ?_) rfl (by omega)
  intro r _;exact Res.ret
 split
 ·rename_i h
  refine Res.to (Res.after (con_word h) (Res.bind (y:=sw "=" + (0 + (sw ";" + 0))) (k:=0) res_name ?_)) (by rw [sw_eq,sw_semi];rfl) (by omega)
  intro x r _
  refine Res.to (ResE.bind (y:=0 + (sw ";" + 0)) (k:=0) res_eatS ?_) rfl (by omega)
  intro r _
  refine Res.to (Res.bind (y:=sw ";" + 0) (k:=0) (F.expr r) ?_) rfl (by omega)
  intro e r _
  refine Res.to (ResE.bind (y:=0) (k:=0) res_eatS ?_) rfl (by omega)
  intro r _;exact Res.ret
 split
 ·rename_i h
  refine Res.to (Res.after (con_word h) (Res.bind (y:=0 + 0) (k:=0) (F.expr _) ?_)) rfl (by omega)
  intro c r _
  refine Res.to (Res.bind (y:=0) (k:=0) (F.block r) ?_) rfl (by omega)
  intro x r _
  dsimp only
  split
  ·rename_i h2
   refine Res.to (Res.after (con_word h2) (Res.bind (y:=0) (k:=0) (F.block _) ?_)) rfl (by omega)
   intro y r _;exact Res.ret
  ·exact Res.ret
 split
 ·rename_i h
  refine Res.to (Res.after (con_word h) (Res.bind (y:=0 + 0) (k:=0) (F.expr _) ?_)) rfl (by omega)
  intro c r _
  refine Res.to (Res.bind (y:=0) (k:=0) (F.block r) ?_) rfl (by omega)
  intro x r _;exact Res.ret
 split
 ·rename_i h
  refine Res.to (Res.after (con_word h) (Res.bind (y:=0 + (0 + (0 + 0))) (k:=0) res_name ?_)) rfl (by omega)
  intro x r _
  refine Res.to (ResE.bind (y:=0 + (0 + 0)) (k:=0) res_eatW ?_) rfl (by omega)
  intro r _
  refine Res.to (Res.bind (y:=0 + 0) (k:=0) (F.expr r) ?_) rfl (by omega)
  intro e r _
  refine Res.to (Res.bind (y:=0) (k:=0) (F.block r) ?_) rfl (by omega)
  intro l r _;exact Res.ret
 split
 ·rename_i h
  refine Res.to (Res.after (con_word h) (Res.bind (y:=0) (k:=0) res_name ?_)) rfl (by omega)
  intro x r _
  refine Res.to (ResE.bind (y:=0) (k:=0) res_eatS ?_) (by rw [sw_eq];rfl) (by omega)
  intro r _
  refine Res.to (Res.bind (y:=0) (k:=0) res_whole ?_) rfl (by omega)
  intro v r _
  refine Res.to (ResE.bind (y:=0) (k:=0) res_eatW ?_) rfl (by omega)
  intro r _
  refine Res.to (Res.bind (y:=0) (k:=0) res_whole ?_) rfl (by omega)
  intro lo r _
  refine Res.to (ResE.bind (y:=0) (k:=0) res_eatS ?_) (by rw [sw_comma];rfl) (by omega)
  intro r _
  refine Res.to (Res.bind (y:=0) (k:=0) res_whole ?_) rfl (by omega)
  intro hi r _
  refine Res.to (ResE.bind (y:=0) (k:=0) res_eatS ?_) (by rw [sw_semi];rfl) (by omega)
  intro r _;exact Res.ret
 split
 ·rename_i h
  refine Res.to (Res.after (con_word h) (Res.bind (y:=0) (k:=0) res_name ?_)) rfl (by omega)
  intro x r _
  refine Res.to (ResE.bind (y:=0) (k:=0) res_eatS ?_) (by rw [sw_eq];rfl) (by omega)
  intro r _
  refine Res.to (Res.bind (y:=0) (k:=0) res_number ?_) rfl (by omega)
  intro v r _
  refine Res.to (ResE.bind (y:=0) (k:=0) res_eatW ?_) rfl (by omega)
  intro r _
  refine Res.to (Res.bind (y:=0) (k:=0) res_quoted ?_) rfl (by omega)
  intro o r _
  refine Res.to (Res.bind (y:=0) (k:=0) (res_quotedMore _ r) ?_) rfl (by omega)
  intro l r _
  refine Res.to (ResE.bind (y:=0) (k:=0) res_eatS ?_) (by rw [sw_semi];rfl) (by omega)
  intro r _;exact Res.ret
 split
 ·rename_i w h
  have hw:∃ u,wordNext ts=some u:=by
   cases e:wordNext ts with
   | none=>rw [e] at h;cases h
   | some u=>exact ⟨u,rfl⟩
  obtain ⟨u,hu⟩:=hw
  refine Res.to (Res.after (wordNext_con F hu) (Res.bind (y:=sw ";" + 0) (k:=0) (F.expr _) ?_)) (by rw [sw_semi];rfl) (by omega)
  intro e r _
  refine Res.to (ResE.bind (y:=0) (k:=0) res_eatS ?_) rfl (by omega)
  intro r _;exact Res.ret
 ·exact Res.halt
end
theorem fine:∀ n,Fine n
 | 0=>fine0
 | n + 1=>by
  have F:=fine n
  exact ⟨fine_expr F,fine_line F,fine_chain F,fine_reach F,fine_listed F,fine_more F,fine_fields F,fine_simple F,fine_parts F,fine_inBrackets F,fine_function F,fine_block F,fine_statements F,fine_statement F⟩
end Cell
end
section
set_option autoImplicit false
namespace Cell
open Vanbka
theorem bw_open{t:Tok}(h:opening t.lex=true):bw t=1:=by unfold bw;rw [if_pos h]
theorem deep_con{h:Int}:∀ {c r:List Tok},tooDeepAt h (c ++ r)=none→tooDeepAt (h + bal c) r=none:=by
 intro c
 induction c generalizing h with
 | nil=>intro r q;simpa [bal] using q
 | cons t c ih =>
  intro r q
  rw [List.cons_append,tooDeepAt] at q
  have e:bal (t::c)=bw t + bal c:=rfl
  rw [e]
  split at q
  ·rename_i o
   split at q
   ·cases q
   ·have:=ih q
    rw [bw_open o,show h + (1 + bal c)=h + 1 + bal c by omega]
    exact this
  ·rename_i o
   split at q
   ·rename_i cl
    have:=ih q
    have z:bw t = -1:=by unfold bw;rw [if_neg o,if_pos cl]
    rw [z,show h + (-1 + bal c)=h - 1 + bal c by omega]
    exact this
   ·rename_i cl
    have z:bw t=0:=by unfold bw;rw [if_neg o,if_neg cl]
    rw [z,show h + (0 + bal c)=h + bal c by omega]
    exact ih q
theorem Con.deep{h:Int}{ts r:List Tok}{z:Int}{m:Nat}(c:Con ts r z m)(q:tooDeepAt h ts=none):tooDeepAt (h + z) r=none:=by
 obtain ⟨p,rfl,rfl,_⟩:=c
 exact deep_con q
theorem deep_open{h:Int}{t:Tok}{r:List Tok}(o:opening t.lex=true)(q:tooDeepAt h (t::r)=none):h < 24:=by
 rw [tooDeepAt,if_pos o] at q
 split at q
 ·cases q
 ·omega
end Cell
end
section
set_option autoImplicit false
namespace Cell
open Vanbka
def skip:Bool→Bytes→Nat
 | _,[]=>0
 | cm,c::r=>if c=10 then skip false r + 1 else if c=35 then skip true r + 1 else if c≠32∧cm=false then 0 else skip cm r + 1
theorem skip_le:∀ (cm:Bool) (t:Bytes),skip cm t≤t.length
 | _,[]=>Nat.le_refl _
 | cm,c::r=>by
  have h1:=skip_le false r
  have h2:=skip_le true r
  have h3:=skip_le cm r
  rw [skip,List.length_cons]
  repeat' split
  all_goals omega
theorem skip_end:∀ (t:Bytes) (cm:Bool),t.drop (skip cm t)=[]∨∃ c r,t.drop (skip cm t)=c::r∧c≠10∧c≠32∧c≠35
 | [],_=>.inl rfl
 | c::r,cm=>by
  rw [skip]
  split
  ·rw [List.drop_succ_cons];exact skip_end r false
  split
  ·rw [List.drop_succ_cons];exact skip_end r true
  split
  ·rename_i h1 h2 h3
   exact .inr ⟨c,r,rfl,h1,h3.1,h2⟩
  ·rw [List.drop_succ_cons];exact skip_end r cm
theorem lexAt_len{t:Bytes}{l:Lex}{k:Nat}(h:lexAt t=some (l,k)):1≤k∧k≤t.length:=by
 have tw:∀ (p:UInt8→Bool) (u:Bytes),(u.takeWhile p).length≤u.length:=fun p u=>by
  have:=List.takeWhile_prefix p (l:=u)
  exact this.length_le
 have qf:∀ (u:Bytes) (x:Bytes×Nat),quotedFrom u=some x→x.2≤u.length:=by
  intro u
  induction u using quotedFrom.induct <;> intro x hx <;> simp only [quotedFrom,Option.map_eq_some_iff,Option.some.injEq,reduceCtorEq] at hx
  all_goals first
   | (subst hx;simp)
   | (obtain ⟨y,hy,rfl⟩:=hx;rename_i ih _ ;have:=ih _ hy;simp only [List.length_cons];omega)
   | (obtain ⟨y,hy,rfl⟩:=hx;rename_i ih;have:=ih _ hy;simp only [List.length_cons];omega)
   | skip
 unfold lexAt at h
 split at h
 ·cases h
 ·rename_i c r
  split at h
  ·rename_i hl
   dsimp only at h
   split at h
   ·cases h
    have hw:wordByte c=true:=by unfold wordByte;rw [hl];rfl
    refine ⟨?_,tw _ _⟩
    rw [List.takeWhile_cons,if_pos hw,List.length_cons];omega
   ·cases h
  split at h
  ·rename_i hd
   dsimp only at h
   split at h
   ·cases h
    refine ⟨?_,tw _ _⟩
    rw [List.takeWhile_cons,if_pos hd,List.length_cons];omega
   ·cases h
  split at h
  ·cases e:quotedFrom r with
   | none=>rw [e] at h;cases h
   | some x =>
    rw [e] at h
    cases h
    have:=qf r x e
    rw [List.length_cons]
    omega
  split at h
  ·rename_i hc
   cases h
   refine ⟨by omega,?_⟩
   have hm:(c::r).take 2∈doubleSigns:=by simpa using hc
   have:∀ s∈doubleSigns,s.length=2:=by decide
   have:=this _ hm
   rw [List.length_take] at this
   omega
  split at h
  ·cases h
   rw [List.length_cons];omega
  ·cases h
end Cell
end
section
set_option autoImplicit false
namespace Cell
open Vanbka
theorem tokens_fuel:∀ (n m p:Nat) (t:Bytes),t.length < n→t.length < m→tokensFrom n p t=tokensFrom m p t:=by
 intro n
 induction n with
 | zero=>intro m p t h;omega
 | succ n ih =>
  intro m p t h1 h2
  obtain ⟨m,rfl⟩:∃ k,m=k + 1:=⟨m - 1,by omega⟩
  cases t with
  | nil=>rfl
  | cons c r =>
   rw [List.length_cons] at h1 h2
   rw [tokensFrom,tokensFrom]
   split
   ·exact ih m (p + 1) r (by omega) (by omega)
   split
   ·rename_i hb hh
    dsimp only
    have hk:1≤((c::r).takeWhile fun x=>x != 10).length:=by
     have hc:c=35:=by simpa using hh
     subst hc
     rw [List.takeWhile_cons,if_pos (by decide),List.length_cons];omega
    have hl:((c::r).drop ((c::r).takeWhile fun x=>x != 10).length).length < n:=by rw [List.length_drop,List.length_cons];omega
    have hl2:((c::r).drop ((c::r).takeWhile fun x=>x != 10).length).length < m:=by rw [List.length_drop,List.length_cons];omega
    exact ih m _ _ hl hl2
   ·cases e:lexAt (c::r) with
    | none=>rfl
    | some x =>
     obtain ⟨l,k⟩:=x
     dsimp only
     have hk:=lexAt_len e
     rw [ih m (p + k) ((c::r).drop k) (by rw [List.length_drop,List.length_cons];omega) (by rw [List.length_drop,List.length_cons];omega)]
def tokAt(t:Bytes)(q:Nat):Except Nat (List Tok):=tokensFrom (t.length + 1) q (t.drop q)
theorem tokens_eq(t:Bytes):tokens t=tokAt t 0:=rfl
theorem tokAt_end{t:Bytes}{q:Nat}(h:t.length≤q):tokAt t q = .ok []:=by
 unfold tokAt
 rw [List.drop_eq_nil_of_le h]
 rfl
theorem drop_one{t r:Bytes}{q:Nat}{c:UInt8}(h:t.drop q=c::r):t.drop (q + 1)=r∧q < t.length:=by
 refine ⟨?_,?_⟩
 ·rw [← List.drop_drop,h];rfl
 ·rcases Nat.lt_or_ge q t.length with z | z
  ·exact z
  ·rw [List.drop_eq_nil_of_le z] at h;cases h
theorem comment_skip:∀ (r:Bytes),skip true r=(r.takeWhile fun x=>x != 10).length + skip false (r.drop (r.takeWhile fun x=>x != 10).length):=by
 intro r
 induction r with
 | nil=>rfl
 | cons c r ih =>
  rw [List.takeWhile_cons]
  by_cases hc:c=10
  ·subst hc
   rw [if_neg (by decide)]
   simp only [List.length_nil,List.drop_zero,Nat.zero_add]
   rw [skip,if_pos rfl,skip,if_pos rfl]
  ·have hb:(c != 10)=true:=by simpa using hc
   rw [if_pos hb,List.length_cons,List.drop_succ_cons,skip,if_neg hc]
   split
   ·rw [ih];omega
   ·rw [if_neg (by simp),ih];omega
theorem tokAt_skip(t:Bytes):∀ (n q:Nat),t.length - q≤n→tokAt t q=tokAt t (q + skip false (t.drop q)):=by
 intro n
 induction n with
 | zero =>
  intro q h
  rw [List.drop_eq_nil_of_le (show t.length≤q by omega)];rfl
 | succ n ih =>
  intro q h
  cases e:t.drop q with
  | nil=>rfl
  | cons c r =>
   obtain ⟨h1,h2⟩:=drop_one e
   have e0:tokAt t q=tokensFrom (t.length + 1) q (c::r):=by unfold tokAt;rw [e]
   have lr:r.length + 1 + q=t.length:=by
    have:=congrArg List.length e
    rw [List.length_drop,List.length_cons] at this
    omega
   rw [skip]
   split
   ·rename_i hc
    subst hc
    rw [e0,tokensFrom,if_pos (by decide),tokens_fuel _ (t.length + 1) (q + 1) r (by omega) (by omega)]
    have:tokensFrom (t.length + 1) (q + 1) r=tokAt t (q + 1):=by unfold tokAt;rw [h1]
    rw [this,ih (q + 1) (by omega),h1]
    congr 1
    omega
   split
   ·rename_i hc
    subst hc
    rw [e0,tokensFrom,if_neg (by decide),if_pos (by decide)]
    dsimp only
    have hk:(((35:UInt8)::r).takeWhile fun x=>x != 10).length=(r.takeWhile fun x=>x != 10).length + 1:=by
     rw [List.takeWhile_cons,if_pos (by decide),List.length_cons]
    have hd:((35:UInt8)::r).drop (((35:UInt8)::r).takeWhile fun x=>x != 10).length=t.drop (q + ((r.takeWhile fun x=>x != 10).length + 1)):=by
     rw [hk,← e,List.drop_drop]
    rw [tokens_fuel _ (t.length + 1) _ _ (by rw [hk,List.drop_succ_cons,List.length_drop];omega) (by rw [hk,List.drop_succ_cons,List.length_drop];omega),hd,hk]
    have:tokensFrom (t.length + 1) (q + ((r.takeWhile fun x=>x != 10).length + 1)) (t.drop (q + ((r.takeWhile fun x=>x != 10).length + 1)))=tokAt t (q + ((r.takeWhile fun x=>x != 10).length + 1)):=rfl
    rw [this,ih _ (by omega)]
    have hd2:t.drop (q + ((r.takeWhile fun x=>x != 10).length + 1))=r.drop (r.takeWhile fun x=>x != 10).length:=by
     rw [← hd,hk,List.drop_succ_cons]
    rw [hd2,comment_skip r]
    congr 1
    omega
   split
   ·rfl
   ·rename_i h3 h4 h5
    have hb:blank c=true:=by
     unfold blank
     by_cases z:c=32
     ·subst z;decide
     ·exact absurd ⟨z,rfl⟩ h5
    rw [e0,tokensFrom,if_pos hb,tokens_fuel _ (t.length + 1) (q + 1) r (by omega) (by omega)]
    have:tokensFrom (t.length + 1) (q + 1) r=tokAt t (q + 1):=by unfold tokAt;rw [h1]
    rw [this,ih (q + 1) (by omega),h1]
    congr 1
    omega
theorem tokAt_pass(t:Bytes)(q:Nat):tokAt t q=tokAt t (q + skip false (t.drop q)):=tokAt_skip t _ q (Nat.le_refl _)
theorem tokAt_step{t r:Bytes}{q:Nat}{c:UInt8}(e:t.drop q=c::r)(h1:c≠10)(h2:c≠32)(h3:c≠35) :
  tokAt t q=match lexAt (t.drop q) with
   | none=>.error q
   | some (l,k)=>match tokAt t (q + k) with
    | .error z=>.error z
    | .ok ts=>.ok ({ lex:=l,place:=q,len:=k }::ts):=by
 have hb:¬ blank c=true:=by unfold blank;simp [h1,h2]
 have hh:¬ (c == 35)=true:=by simpa using h3
 have e0:tokAt t q=tokensFrom (t.length + 1) q (c::r):=by unfold tokAt;rw [e]
 rw [e0,tokensFrom,if_neg hb,if_neg hh,e]
 cases el:lexAt (c::r) with
 | none=>rfl
 | some x =>
  obtain ⟨l,k⟩:=x
  dsimp only
  have hk:=lexAt_len el
  have lr:r.length + 1 + q=t.length:=by
   have:=congrArg List.length e
   rw [List.length_drop,List.length_cons] at this
   have:=(drop_one e).2
   omega
  rw [tokens_fuel _ (t.length + 1) (q + k) ((c::r).drop k) (by rw [List.length_drop,List.length_cons];omega) (by rw [List.length_drop,List.length_cons];omega)]
  have:(c::r).drop k=t.drop (q + k):=by rw [← e,List.drop_drop]
  rw [this]
  rfl
end Cell
end
section
set_option maxRecDepth 100000
set_option maxHeartbeats 4000000
namespace Prg
open PySem L2
def top(i:Nat):PySem.Stmt:=PySem.Challenge.pw_celltexts_s05_same.main.body.getD i (.Pass ⟨0,0,0,0⟩)
abbrev sFaultInit:PySem.Stmt:=inClass (top 6) 0
abbrev sGreatest:PySem.Stmt:=top 9
abbrev sTreeInit:PySem.Stmt:=inClass (top 10) 0
abbrev sReaderInit:PySem.Stmt:=inClass (top 18) 0
abbrev sLook:PySem.Stmt:=inClass (top 18) 1
abbrev sLookBehind:PySem.Stmt:=inClass (top 18) 2
abbrev sHere:PySem.Stmt:=inClass (top 18) 3
abbrev sBehindLast:PySem.Stmt:=inClass (top 18) 4
abbrev sMoveOn:PySem.Stmt:=inClass (top 18) 5
abbrev sTake:PySem.Stmt:=inClass (top 18) 6
abbrev sTokenInit:PySem.Stmt:=inClass (top 64) 0
abbrev sCheckBytes:PySem.Stmt:=top 65
abbrev sCutTokens:PySem.Stmt:=top 66
abbrev sPassOver:PySem.Stmt:=top 68
abbrev sCutToken:PySem.Stmt:=top 69
abbrev sIsDigit:PySem.Stmt:=top 70
abbrev sIsWordByte:PySem.Stmt:=top 71
abbrev sCutNumber:PySem.Stmt:=top 72
abbrev sCutWord:PySem.Stmt:=top 73
abbrev sSpellLower:PySem.Stmt:=top 74
abbrev sCutQuoted:PySem.Stmt:=top 75
abbrev sCutSign:PySem.Stmt:=top 76
def CI(mg:Str→Option Value)(x:Str)(i:Int):Prop:=∃ t,mg x=some (.int i t)
theorem pe_ci{X:Cx}{x:Str}{i:Int}{pos:Pos}(c:CI X.mg x i)(hg:Gl X x)(hd:(x == ("__debug__":Str))=false:=by decide):PE X (.Name x pos) (tC (.int i)):=by
 obtain ⟨t,h⟩:=c
 exact pe_glob hg h ⟨t,rfl⟩ hd
theorem nb_number:typeLookup (.type "Exception") "number"=pure none:=by rw [typeLookup_type,builtinLookup_eq_fast];kernel_rfl
theorem nb_told:typeLookup (.type "Exception") "told"=pure none:=by rw [typeLookup_type,builtinLookup_eq_fast];kernel_rfl
section
variable{P:Program}{w:World}{K:PySem.W.Frag}{mg:Str→Option Value}{base:Heap}{f CF fI:Addr}{fd fdI:FuncData}
abbrev xfs(n p:Int):List (Str×V):=[("number",.int n),("told",.int p)]
def spFI(CF:Addr):Sp:=fun vs H Q _=>∃ x n p,vs=[.ref x,.int n,.int p]∧H x=some (XO CF none x)∧
 ∀ dx,H dx=none→dx≠x→Q .non (upd (upd (upd H x (XO CF (some dx) x)) dx (XD dx [("number",.int n)])) dx (XD dx (xfs n p)))
theorem scFI:FnScope ["self", "number", "told"] ["self", "number", "told"] (defScope sFaultInit):=⟨rfl,rfl,rfl,by decide +kernel,rfl,by decide +kernel,by decide +kernel⟩
theorem ok_FI(F:Fun K "__init__" "Fault.__init__" sFaultInit f fd)(q:xcls K CF f ["number", "told"]=true):FnOk P w K mg base (CXF P w) 1 f fd ["self", "number", "told"] (spFI CF):=by
 refine F.okF (k:=0) scFI (fun vs H Q E h=>?_) (fun cdv A outer s H vs Q E hr h=>?_)
 ·obtain ⟨x,n,p,rfl,_⟩:=h
  rfl
 obtain ⟨x,n,p,rfl,hx,k⟩:=h
 refine ⟨_,pss_cons (ps_fldX1 q (.head _) nb_number (pv 0) (pv 1) rfl) (pss_one (ps_fldX2 q (.tail _ (.head _)) nb_told (pv 0) (pv 2) rfl)),?_⟩
 refine ⟨_,rfl,_,rfl,x,rfl,hx,fun dx n1 n2=>?_⟩
 exact ⟨_,rfl,_,rfl,x,dx,_,rfl,by rw [upd_ne (Ne.symm n2),upd_same],upd_same,(by show 1≤1000;decide),k dx n1 n2⟩
def Err(CF:Addr)(E:XK)(n p:Int):Prop:=∀ dx H',H' dx=some (XD dx (xfs n p))→E (.ref CF) (some dx) H'
theorem raise_says{E:XK}{H1:Hp}{n p:Int}(hE:Err CF E n p):([V.int n,.int p]:List V).length≤1000∧∀ x,H1 x=none→
  spFI CF (.ref x::[.int n,.int p]) (upd H1 x (XO CF none x)) (fun v H2=>v = .non∧∃ dx,H2 x=some (XO CF (some dx) x)∧E (.ref CF) (some dx) (unt H2 x)) E:=by
 refine ⟨by show 2≤1000;decide,fun x hx=>⟨x,n,p,rfl,upd_same,fun dx n1 n2=>⟨rfl,dx,?_,?_⟩⟩⟩
 ·rw [upd_ne (Ne.symm n2),upd_ne (Ne.symm n2),upd_same]
 ·refine hE dx _ ?_
  rw [unt_ne n2,upd_same]
structure FaultAt(K:PySem.W.Frag)(mg:Str→Option Value)(CF fI:Addr)(fdI:FuncData):Prop where
 x:xcls K CF fI ["number", "told"]=true
 F:Fun K "__init__" "Fault.__init__" sFaultInit fI fdI
 b:Binds K fdI ["self", "number", "told"] []
 m:mg "Fault"=some (.ref CF)
 kp:PySem.W.keepIn K (.ref CF)=true
theorem ps_fault{N:List Str}{qual:Str}{scope:Scope}{f:Addr}{cd:Value}{A:Around}{outer:List Env}{s:Shared}{H:Hp}{E:XK}{a b:PySem.Expr}{ta tb:TE}{np cpos pos:Pos}(T:FaultAt K mg CF fI fdI)
  (hr:Room 2 (cxOf (CXF P w) P w K mg base N qual scope f cd A outer s H E).A) (hg:Gl (cxOf (CXF P w) P w K mg base N qual scope f cd A outer s H E) "Fault") (ha:PA (cxOf (CXF P w) P w K mg base N qual scope f cd A outer s H E) [a,b] (tCons ta (tCons tb tNil)))
  (he:starEach [a,b] (cxOf (CXF P w) P w K mg base N qual scope f cd A outer s H E).env=(false,eval a (cxOf (CXF P w) P w K mg base N qual scope f cd A outer s H E).env)::starEach [b] (cxOf (CXF P w) P w K mg base N qual scope f cd A outer s H E).env:=by rfl)
  (hpl:(backTo cpos (starEach [b] (cxOf (CXF P w) P w K mg base N qual scope f cd A outer s H E).env)).any (·.1)=false:=by rfl) :
  PS (cxOf (CXF P w) P w K mg base N qual scope f cd A outer s H E) (.Raise (some (.Call (.Name "Fault" np) [a,b] [] cpos)) none pos) (tRaise CF (spFI CF) E (tCons ta (tCons tb tNil))) :=
 ps_raiseF T.x (ok_FI T.F T.x) hr hg T.m T.kp T.b passF raiseF rfl rfl ha (by decide) he hpl
def spDigit:Sp:=fun vs H Q _=>∃ i,vs=[.int i]∧Q (.bl (decide (48≤i) && decide (i≤57))) H
theorem scDigit:FnScope ["byte"] ["byte"] (defScope sIsDigit):=⟨rfl,rfl,rfl,by decide +kernel,rfl,by decide +kernel,by decide +kernel⟩
theorem ok_digit(F:Fun K "is_digit" "is_digit" sIsDigit f fd)(c1:CI mg "ZERO" 48)(c2:CI mg "NINE" 57):FnOk P w K mg base (CXF P w) 1 f fd ["byte"] spDigit:=by
 refine F.okF (k:=0) scDigit (fun vs H Q E h=>?_) (fun cdv A outer s H vs Q E hr h=>?_)
 ·obtain ⟨i,rfl,_⟩:=h
  rfl
 obtain ⟨i,rfl,q⟩:=h
 refine ⟨_,pss_one (ps_ret (pe_chain op_le op_le (pe_ci c1 rfl) (pv 0) (pe_ci c2 rfl))),?_⟩
 refine ⟨_,rfl,_,_,rfl,rfl,_,rfl,?_⟩
 by_cases h:48≤i
 ·rw [decide_eq_true h,Bool.true_and] at q
  rw [decide_eq_true h,if_pos rfl]
  exact ⟨_,_,rfl,rfl,q⟩
 ·rw [decide_eq_false h,Bool.false_and] at q
  rw [decide_eq_false h,if_neg Bool.false_ne_true]
  exact q
end
end Prg
end
section
set_option maxRecDepth 100000
set_option maxHeartbeats 4000000
namespace Prg
open PySem L2
open Vanbka (Bytes)
def vb(t:Bytes):List V:=t.map fun c=>V.int (c.toNat:Int)
theorem vb_len(t:Bytes):(vb t).length=t.length:=List.length_map _
theorem vb_get{t:Bytes}{q:Nat}{c:UInt8}(h:t[q]? = some c):atI (vb t) (q:Int)=some (.int (c.toNat:Int)):=atI_nat (by unfold vb;rw [List.getElem?_map,h];rfl)
theorem get_drop{t r:Bytes}{q:Nat}{c:UInt8}(h:t.drop q=c::r):t[q]? = some c:=by
 have:=congrArg (fun l=>l[0]?) h
 simpa using this
theorem drop_get{t:Bytes}{q:Nat}(h:q < t.length):∃ c r,t.drop q=c::r∧t[q]? = some c∧t.drop (q + 1)=r:=by
 refine ⟨t[q],t.drop (q + 1),List.drop_eq_getElem_cons h,List.getElem?_eq_getElem h,rfl⟩
theorem chainQ{a b c:Int}{Q:V→Prop}(q:Q (.bl (decide (a≤b) && decide (b≤c)))):if decide (a≤b)=true then (∃ i j,V.int b = .int i∧V.int c = .int j∧Q (.bl (decide (i≤j)))) else Q (.bl false):=by
 by_cases h:a≤b
 ·rw [decide_eq_true h,Bool.true_and] at q
  rw [decide_eq_true h,if_pos rfl]
  exact ⟨_,_,rfl,rfl,q⟩
 ·rw [decide_eq_false h,Bool.false_and] at q
  rw [decide_eq_false h,if_neg Bool.false_ne_true]
  exact q
theorem orQ{x:Bool}{T R:Prop}(h1:x=true→T)(h2:x=false→R):∃ c,V.bl x = .bl c∧if c=true then T else R:=by
 refine ⟨x,rfl,?_⟩
 cases x with
 | true=>rw [if_pos rfl];exact h1 rfl
 | false=>rw [if_neg Bool.false_ne_true];exact h2 rfl
theorem byte_eq{c:UInt8}{n:Nat}(h:n < 256):((c.toNat:Int)=(n:Int))↔c=UInt8.ofNat n:=by
 constructor
 ·intro e
  have e':c.toNat=n:=by omega
  apply UInt8.toNat_inj.mp
  rw [UInt8.toNat_ofNat',e']
  exact (Nat.mod_eq_of_lt h).symm
 ·intro e
  subst e
  rw [UInt8.toNat_ofNat']
  have:=Nat.mod_eq_of_lt h
  simp only [Nat.reducePow] at *
  omega
section
variable{P:Program}{w:World}{K:PySem.W.Frag}{mg:Str→Option Value}{base:Heap}{f g CF fI:Addr}{fd gd fdI:FuncData}
def wordI(i:Int):Bool:=(decide (65≤i) && decide (i≤90)) || ((decide (97≤i) && decide (i≤122)) || (decide (i=95) || (decide (48≤i) && decide (i≤57))))
def spWordB:Sp:=fun vs H Q _=>∃ i,vs=[.int i]∧Q (.bl (wordI i)) H
theorem scWordB:FnScope ["byte"] ["byte"] (defScope sIsWordByte):=⟨rfl,rfl,rfl,by decide +kernel,rfl,by decide +kernel,by decide +kernel⟩
theorem ok_wordB(F:Fun K "is_word_byte" "is_word_byte" sIsWordByte f fd)(G:FnOk P w K mg base (CXF P w) 1 g gd ["byte"] spDigit)(bG:Binds K gd ["byte"] [])(kG:PySem.W.keepIn K (.ref g)=true)(mG:mg "is_digit"=some (.ref g))
  (c1:CI mg "UNDERSCORE" 95):FnOk P w K mg base (CXF P w) 2 f fd ["byte"] spWordB:=by
 refine F.okF (k:=1) scWordB (fun vs H Q E h=>?_) (fun cdv A outer s H vs Q E hr h=>?_)
 ·obtain ⟨i,rfl,_⟩:=h
  rfl
 obtain ⟨i,rfl,q⟩:=h
 refine ⟨_,pss_one (ps_ret (pe_or (pe_chain op_le op_le pe_int (pv 0) pe_int) (pe_or (pe_chain op_le op_le pe_int (pv 0) pe_int) (pe_or (pe_cmpR op_eq (pv 0) (pe_ci c1 rfl) (nomark _)) (pe_one (pe_call G hr rfl mG kG bG .nil passF (pa_cons (pv 0) pa_nil))))))),?_⟩
 refine ⟨_,rfl,_,_,rfl,rfl,_,rfl,chainQ (Q:=fun x=>∃ c,x=V.bl c∧if c=true then Q (.bl true) H else _) (orQ (fun h1=>?_) (fun h1=>?_))⟩
 ·unfold wordI at q;rw [h1,Bool.true_or] at q;exact q
 refine ⟨_,rfl,_,_,rfl,rfl,_,rfl,chainQ (Q:=fun x=>∃ c,x=V.bl c∧if c=true then Q (.bl true) H else _) (orQ (fun h2=>?_) (fun h2=>?_))⟩
 ·unfold wordI at q;rw [h1,h2,Bool.false_or,Bool.true_or] at q;exact q
 refine ⟨_,rfl,rfl,orQ (fun h3=>?_) (fun h3=>?_)⟩
 ·have e:i=95:=by have:=of_decide_eq_true h3;injection this
  unfold wordI at q;rw [h1,h2,decide_eq_true e,Bool.false_or,Bool.false_or,Bool.true_or] at q;exact q
 ·have e:¬ i=95:=fun z=>by subst z;exact absurd h3 (by simp)
  unfold wordI at q;rw [h1,h2,decide_eq_false e,Bool.false_or,Bool.false_or,Bool.false_or] at q
  exact ⟨_,rfl,i,rfl,q⟩
def spPass(K:PySem.W.Frag):Sp:=fun vs H Q _=>∃ (a:Addr) (t:Bytes) (p:Nat),vs=[.ref a,.int p]∧SqL K H a (vb t)∧p≤t.length∧Q (.int ((p + Cell.skip false (t.drop p):Nat):Int)) H
theorem scPass:FnScope ["text", "place", "in_comment", "byte"] ["text", "place"] (defScope sPassOver):=⟨rfl,rfl,rfl,by decide +kernel,rfl,by decide +kernel,by decide +kernel⟩
theorem ok_pass(F:Fun K "pass_over" "pass_over" sPassOver f fd)(ml:mg "len"=none)(c1:CI mg "LINE_FEED" 10)(c2:CI mg "HASH" 35)(c3:CI mg "BLANK" 32):FnOk P w K mg base (CXF P w) 1 f fd ["text", "place"] (spPass K):=by
 refine F.okF (k:=0) scPass (fun vs H Q E h=>?_) (fun cdv A outer s H vs Q E hr h=>?_)
 ·obtain ⟨a,t,p,rfl,_⟩:=h
  rfl
 obtain ⟨a,t,p,rfl,hS,hp,q⟩:=h
 have nd:=scPass.nd
 refine ⟨_,pss_cons (ps_set (i:=2) nd rfl (Or.inl rfl) pe_bl)
  (pss_cons (ps_while ownF (pt_cmpR op_lt (pv 1) (pe_callB call_len_seq rfl ml PySem.boot_len (pa_cons (pv 0) pa_nil)) (nomark _))
   (pss_cons (ps_set (i:=3) nd rfl (Or.inl rfl) (pe_ix ix_list (pv 0) (pv 1) (fun _ _=>rfl)))
   (pss_cons (ps_if (pt_cmpR op_eq (pv 3) (pe_ci c1 rfl) (nomark _)) (pss_one (ps_set (i:=2) nd rfl (Or.inl rfl) pe_bl))
    (pss_one (ps_if (pt_cmpR op_eq (pv 3) (pe_ci c2 rfl) (nomark _)) (pss_one (ps_set (i:=2) nd rfl (Or.inl rfl) pe_bl))
     (pss_one (ps_if (PW.pt (pw_and (pt_cmpR op_ne (pv 3) (pe_ci c3 rfl) (nomark _)) (pw_and1 (pt_not (pt_val (pv 2)))))) (pss_one (ps_ret (pv 1))) pss_nil)))))
   (pss_one (ps_aug (i:=1) nd rfl (Or.inl rfl) pe_int ip_add)))))
  (pss_one (ps_ret (pv 1)))),?_⟩
 refine ⟨fun m σ H'=>H'=H∧∃ (j:Nat) (cm:Bool) (v3:Option V),σ=[some (.ref a),some (.int (j:Int)),some (.bl cm),v3]∧m=t.length - j∧j≤t.length∧p + Cell.skip false (t.drop p)=j + Cell.skip cm (t.drop j),
  ⟨_,rfl,p,false,none,rfl,rfl,hp,rfl⟩,?_⟩
 rintro m σ H' ⟨rfl,j,cm,v3,rfl,rfl,hj,inv⟩
 refine ⟨_,rfl,_,rfl,a,_,rfl,.inl hS,_,_,rfl,rfl,_,rfl,ite2 (fun c=>?_) (fun c=>?_)⟩
 ·have hlt:j < t.length:=by
   have:=of_decide_eq_true c
   rw [vb_len] at this
   omega
  obtain ⟨b,r,hd,hb,hr'⟩:=drop_get hlt
  refine ⟨fun σ' H2=>∃ m',m' < t.length - j∧(H2=H'∧∃ (j:Nat) (cm:Bool) (v3:Option V),σ'=[some (.ref a),some (.int (j:Int)),some (.bl cm),v3]∧m'=t.length - j∧j≤t.length∧p + Cell.skip false (t.drop p)=j + Cell.skip cm (t.drop j)),fun _ _ z=>z,?_⟩
  refine ⟨_,rfl,_,rfl,a,_,_,_,rfl,rfl,hS,vb_get hb,?_⟩
  have step:∀ cm',Cell.skip cm (t.drop j)=Cell.skip cm' (t.drop (j + 1)) + 1→∃ m',m' < t.length - j∧(H'=H'∧∃ (j':Nat) (cm2:Bool) (v3:Option V),([some (.ref a),some (.int ((j:Int) + 1)),some (.bl cm'),some (.int (b.toNat:Int))]:St)=[some (.ref a),some (.int (j':Int)),some (.bl cm2),v3]∧m'=t.length - j'∧j'≤t.length∧p + Cell.skip false (t.drop p)=j' + Cell.skip cm2 (t.drop j')):=by
   intro cm' e
   exact ⟨t.length - (j + 1),by omega,rfl,j + 1,cm',_,rfl,rfl,by omega,by omega⟩
  rw [hd] at step
  refine ⟨_,rfl,rfl,_,rfl,ite2 (fun c1=>?_) (fun c1=>?_)⟩
  ·have e:b=10:=(byte_eq (n:=10) (by decide)).mp (by have:=of_decide_eq_true c1;injection this)
   refine ⟨_,rfl,_,_,rfl,rfl,step false ?_⟩
   rw [hr',Cell.skip,if_pos e]
  have n1:¬ b=10:=fun e=>c1 (decide_eq_true (by rw [(byte_eq (n:=10) (by decide)).mpr e];rfl))
  refine ⟨_,rfl,rfl,_,rfl,ite2 (fun c2=>?_) (fun c2=>?_)⟩
  ·have e:b=35:=(byte_eq (n:=35) (by decide)).mp (by have:=of_decide_eq_true c2;injection this)
   refine ⟨_,rfl,_,_,rfl,rfl,step true ?_⟩
   rw [hr',Cell.skip,if_neg n1,if_pos e]
  have n2:¬ b=35:=fun e=>c2 (decide_eq_true (by rw [(byte_eq (n:=35) (by decide)).mpr e];rfl))
  refine ⟨_,rfl,rfl,_,rfl,ite2 (fun c3=>?_) (fun c3=>?_)⟩
  ·have n3:b≠32:=fun e=>by
    have:(V.int (b.toNat:Int))=V.int 32:=by rw [(byte_eq (n:=32) (by decide)).mpr e];rfl
    rw [decide_eq_true this] at c3
    cases c3
   refine ⟨_,rfl,_,rfl,ite2 (fun c4=>?_) (fun c4=>?_)⟩
   ·have ecm:cm=false:=by simpa using c4
    refine ⟨_,rfl,?_⟩
    have:Cell.skip cm (t.drop j)=0:=by rw [hd,Cell.skip,if_neg n1,if_neg n2,if_pos ⟨n3,ecm⟩]
    rw [inv,this] at q
    exact q
   ·have ecm:cm=true:=by simpa using c4
    refine ⟨_,rfl,_,_,rfl,rfl,step cm ?_⟩
    rw [hr',Cell.skip,if_neg n1,if_neg n2,if_neg (fun z=>by rw [ecm] at z;exact absurd z.2 (by decide))]
  ·have e:b=32:=(byte_eq (n:=32) (by decide)).mp (by
    have:decide (V.int (b.toNat:Int)=V.int 32)=true:=by simpa using c3
    have:=of_decide_eq_true this
    injection this)
   refine ite2 (fun z=>?_) (fun _=>?_)
   ·exact absurd z (by decide)
   ·refine ⟨_,rfl,_,_,rfl,rfl,step cm ?_⟩
    rw [hr',Cell.skip,if_neg n1,if_neg n2,if_neg (fun z=>z.1 e)]
 ·have e:j=t.length:=by
   have:¬ ((j:Int) < ((vb t).length:Int)):=fun z=>c (decide_eq_true z)
   rw [vb_len] at this
   omega
  refine ⟨_,rfl,?_⟩
  have:Cell.skip cm (t.drop j)=0:=by rw [e,List.drop_length];rfl
  rw [inv,this] at q
  exact q
end
end Prg
end
section
set_option maxRecDepth 100000
set_option maxHeartbeats 4000000
namespace Prg
open PySem L2
open Vanbka (Bytes allowed)
theorem chainT{a b c:Int}{R:Bool→Prop}(q:R (decide (a≤b) && decide (b≤c))):if decide (a≤b)=true then (∃ i j,V.int b = .int i∧V.int c = .int j∧∃ k,V.bl (decide (i≤j)) = .bl k∧R k) else ∃ k,V.bl false = .bl k∧R k:=by
 by_cases h:a≤b
 ·rw [decide_eq_true h,Bool.true_and] at q
  rw [decide_eq_true h,if_pos rfl]
  exact ⟨_,_,rfl,rfl,_,rfl,q⟩
 ·rw [decide_eq_false h,Bool.false_and] at q
  rw [decide_eq_false h,if_neg Bool.false_ne_true]
  exact ⟨_,rfl,q⟩
section
variable{P:Program}{w:World}{K:PySem.W.Frag}{mg:Str→Option Value}{base:Heap}{f g CF fI CT:Addr}{fd gd fdI:FuncData}
def allowI(i:Int):Bool:=decide (i=10) || (decide (32≤i) && decide (i≤126))
theorem allow_byte(c:UInt8):allowI (c.toNat:Int)=allowed c:=by
 unfold allowI allowed
 have h1:decide ((c.toNat:Int)=10)=(c == 10):=by
  by_cases h:c=10
  ·subst h;decide
  ·have hne:¬ ((c.toNat:Int)=10):=fun e=>h ((byte_eq (n:=10) (by decide)).mp e)
   rw [decide_eq_false hne]
   exact (beq_eq_false_iff_ne.mpr h).symm
 have h2:decide ((32:Int)≤(c.toNat:Int))=decide ((32:UInt8)≤c):=by
  apply decide_eq_decide.mpr
  rw [UInt8.le_iff_toNat_le]
  show (32:Int)≤_↔32≤c.toNat
  omega
 have h3:decide ((c.toNat:Int)≤126)=decide (c≤(126:UInt8)):=by
  apply decide_eq_decide.mpr
  rw [UInt8.le_iff_toNat_le]
  show _≤(126:Int)↔c.toNat≤126
  omega
 rw [h1,h2,h3]
theorem find_bad{t:Bytes}{i:Nat}{c:UInt8}(h:∀ b∈t.take i,allowed b=true)(e:t[i]? = some c)(n:allowed c=false):t.findIdx? (fun c => !allowed c)=some i:=by
 obtain ⟨hi,ec⟩:=List.getElem?_eq_some_iff.mp e
 rw [List.findIdx?_eq_some_iff_getElem]
 refine ⟨hi,by rw [ec,n];rfl,fun j hj=>?_⟩
 have:t[j]∈t.take i:=by
  rw [List.mem_take_iff_getElem]
  exact ⟨j,by omega,rfl⟩
 rw [h _ this]
 simp
theorem find_none{t:Bytes}(h:∀ b∈t,allowed b=true):t.findIdx? (fun c => !allowed c)=none:=by
 rw [List.findIdx?_eq_none_iff]
 intro b hb
 rw [h b hb];rfl
def spBytes(K:PySem.W.Frag)(CF:Addr):Sp:=fun vs H Q E=>∃ (a:Addr) (t:Bytes),vs=[.ref a]∧SqL K H a (vb t)∧match t.findIdx? (fun c => !allowed c) with
 | some p=>Err CF E 1 (p:Int)
 | none=>∀ H',Same H H'→Q .non H'
theorem scBytes:FnScope ["text", "place", "byte"] ["text"] (defScope sCheckBytes):=⟨rfl,rfl,rfl,by decide +kernel,rfl,by decide +kernel,by decide +kernel⟩
theorem same_new{H:Hp}{p:Addr}(h:H p=none)(o:HO):Same H (upd H p o):=fun b u q=>by rw [upd_ne (ne_of_none q h)];exact q
theorem ok_bytes(F:Fun K "check_bytes" "check_bytes" sCheckBytes f fd)(T:FaultAt K mg CF fI fdI)(me:mg "enumerate"=none)(c1:CI mg "LINE_FEED" 10)(c2:CI mg "BLANK" 32)(c3:CI mg "LAST_ALLOWED" 126)(c4:CI mg "FORBIDDEN_BYTE" 1) :
  FnOk P w K mg base (CXF P w) 3 f fd ["text"] (spBytes K CF):=by
 refine F.okF (k:=2) scBytes (fun vs H Q E h=>?_) (fun cdv A outer s H vs Q E hr h=>?_)
 ·obtain ⟨a,t,rfl,_⟩:=h
  rfl
 obtain ⟨a,t,rfl,hS,q⟩:=h
 have nd:=scBytes.nd
 refine ⟨_,pss_one (ps_for ownF rfl (pi_enum rfl me (pa_cons (pv 0) pa_nil)) (pg_tup rfl (pgs_cons (pg_name (i:=1) nd rfl (Or.inl rfl)) (pgs_cons (pg_name (i:=2) nd rfl (Or.inl rfl)) pgs_nil)))
  (pss_one (ps_if (PW.pt (pw_and (pt_cmpR op_ne (pv 2) (pe_ci c1 rfl) (nomark _)) (pw_and1 (pt_not (pt_chain op_le op_le (pe_ci c2 rfl) (pv 2) (pe_ci c3 rfl)))))) (pss_one (ps_fault T hr rfl (pa_cons (pe_ci c4 rfl) (pa_cons (pv 1) pa_nil)))) pss_nil))),?_⟩
 refine ⟨_,rfl,a,_,rfl,hS,fun i m σ H'=>m=t.length - i∧i≤t.length∧Same H H'∧(∃ v1 v2,σ=[some (.ref a),v1,v2])∧∀ b∈t.take i,allowed b=true,⟨_,rfl,Nat.zero_le _,Same.refl H,⟨none,none,rfl⟩,fun b hb=>by simp at hb⟩,?_⟩
 rintro i m σ H' ⟨rfl,hi,sm,⟨v1,v2,rfl⟩,al⟩
 have hS':=sm.seq hS
 by_cases hlt:i < t.length
 ·obtain ⟨c,r,hd,hc,_⟩:=drop_get hlt
  have hx:(vb t)[i]? = some (.int (c.toNat:Int)):=by unfold vb;rw [List.getElem?_map,hc];rfl
  refine .inr ⟨⟨_,_,hS',hx⟩,fun σ' H2=>∃ m',m' < t.length - i∧(m'=t.length - (i + 1)∧i + 1≤t.length∧Same H H2∧(∃ v1 v2,σ'=[some (.ref a),v1,v2])∧∀ b∈t.take (i + 1),allowed b=true),fun _ _ z=>z,?_⟩
  rintro x H2 ⟨Tp,y,rfl,hT,rfl,hy⟩
  have ey:=hy _ hS'
  rw [hx] at ey
  cases ey
  refine ⟨Tp,_,rfl,SqT.of upd_same,rfl,_,_,rfl,_,_,rfl,rfl,?_⟩
  have sm2:Same H (upd H' Tp (.tup [.int (i:Nat),.int (c.toNat:Int)])):=sm.trans (same_new hT _)
  have good:allowed c=true→∃ m',m' < t.length - i∧(m'=t.length - (i + 1)∧i + 1≤t.length∧Same H (upd H' Tp (.tup [.int (i:Nat),.int (c.toNat:Int)]))∧(∃ v1 v2,([some (.ref a),some (.int (i:Nat)),some (.int (c.toNat:Int))]:St)=[some (.ref a),v1,v2])∧∀ b∈t.take (i + 1),allowed b=true):=fun hac =>
   ⟨_,by omega,rfl,hlt,sm2,⟨_,_,rfl⟩,fun b hb=>by
    rw [List.take_add_one,hc] at hb
    rcases List.mem_append.mp hb with z | z
    ·exact al b z
    ·have:b=c:=by simpa using z
     rw [this];exact hac⟩
  refine ⟨_,rfl,rfl,_,rfl,ite2 (fun k1=>?_) (fun k1=>?_)⟩
  ·have n1:¬ (c.toNat:Int)=10:=fun e=>by
    rw [e] at k1
    exact absurd k1 (by decide)
   refine ⟨_,rfl,_,_,rfl,rfl,_,rfl,chainT (ite2 (fun k2=>?_) (fun k2=>?_))⟩
   ·have bad:allowed c=false:=by
     rw [← allow_byte]
     unfold allowI
     rw [decide_eq_false n1,Bool.false_or]
     exact (Bool.not_eq_true' _).mp k2
    rw [find_bad al hc bad] at q
    exact ⟨_,rfl,raise_says q⟩
   ·refine good ?_
    rw [← allow_byte]
    unfold allowI
    rw [decide_eq_false n1,Bool.false_or]
    simpa using k2
  ·have e:(c.toNat:Int)=10:=by
    have:decide (V.int (c.toNat:Int)=V.int 10)=true:=by simpa using k1
    have:=of_decide_eq_true this
    injection this
   refine ite2 (fun z=>?_) (fun _=>?_)
   ·exact absurd z (by decide)
   ·refine good ?_
    rw [← allow_byte]
    unfold allowI
    rw [decide_eq_true e,Bool.true_or]
 ·have e:i=t.length:=by omega
  subst e
  rw [List.take_length] at al
  rw [find_none al] at q
  exact .inl ⟨⟨_,hS',by rw [vb_len];exact Nat.le_refl _⟩,q H' sm⟩
end
end Prg
end
section
set_option maxRecDepth 100000
set_option maxHeartbeats 4000000
namespace Prg
open PySem L2
open Vanbka (Bytes Lex reserved lexAt digit letter wordByte natOf)
def strOf(x:Bytes):Str:=⟨(x.map (·.toNat)).toArray⟩
def kindS:Lex→Str
 | .word x=>if reserved.contains x then strOf x else "NAME"
 | .num _ => "NUMBER"
 | .quoted _ => "QUOTED"
 | .sign x=>if x == [37] then "percent" else strOf x
def ValIs(H:Hp):Lex→V→Prop
 | .word x,v=>if reserved.contains x then v = .non else ∃ a,v = .ref a∧H a=some (.lst (vb x))
 | .num n,v=>v = .int n
 | .quoted x,v=>∃ a,v = .ref a∧H a=some (.lst (vb x))
 | .sign _,v=>v = .non
theorem ValIs.lists{H H':Hp}(s:∀ a us,H a=some (.lst us)→H' a=some (.lst us)){l:Lex}{v:V}(h:ValIs H l v):ValIs H' l v:=by
 cases l with
 | word x =>
  have h:if reserved.contains x then v = .non else ∃ a,v = .ref a∧H a=some (.lst (vb x)):=h
  show if reserved.contains x then v = .non else ∃ a,v = .ref a∧H' a=some (.lst (vb x))
  by_cases c:reserved.contains x=true
  ·rw [if_pos c] at h ⊢;exact h
  ·rw [if_neg c] at h ⊢
   obtain ⟨a,e,q⟩:=h
   exact ⟨a,e,s _ _ q⟩
 | num n=>exact h
 | quoted x =>
  obtain ⟨a,e,q⟩:=h
  exact ⟨a,e,s _ _ q⟩
 | sign x=>exact h
theorem ValIs.same{H H':Hp}(s:Same H H'){l:Lex}{v:V}(h:ValIs H l v):ValIs H' l v:=h.lists fun _ _ q=>s _ _ q
abbrev tokF(k:Str)(p e:Int)(v:V):List (Str×V):=[("kind",.str k),("place",.int p),("end",.int e),("value",v)]
def TokAt(CT:Addr)(H:Hp)(x:Addr)(t:Vanbka.Tok):Prop:=∃ dx v,H x=some (.ins CT dx (tokF (kindS t.lex) t.place ((t.place + t.len:Nat):Int) v))∧ValIs H t.lex v
theorem TokAt.same{CT:Addr}{H H':Hp}(s:Same H H'){x:Addr}{t:Vanbka.Tok}(h:TokAt CT H x t):TokAt CT H' x t:=by
 obtain ⟨dx,v,e,q⟩:=h
 exact ⟨dx,v,s _ _ e,q.same s⟩
abbrev noH:Hp:=fun _=>none
def Cut(T H H':Hp):Hp:=fun b=>match T b with
 | some o=>some o
 | none=>match H b with
  | none=>H' b
  | some _=>none
theorem cut_new{T H H':Hp}{b:Addr}{o:HO}(t:T b=none)(h:H b=none)(e:H' b=some o):Cut T H H' b=some o:=by
 unfold Cut;rw [t,h];exact e
theorem cut_old{T H H':Hp}{b:Addr}{o:HO}(t:T b=some o):Cut T H H' b=some o:=by
 unfold Cut;rw [t]
theorem cut_cases{T H H':Hp}{b:Addr}{o:HO}(h:Cut T H H' b=some o):T b=some o∨(T b=none∧H b=none∧H' b=some o):=by
 unfold Cut at h
 cases ht:T b with
 | some u=>rw [ht] at h;exact .inl h
 | none =>
  rw [ht] at h
  cases hh:H b with
  | none=>rw [hh] at h;exact .inr ⟨rfl,rfl,h⟩
  | some u=>rw [hh] at h;cases h
theorem none_of_same{H H1:Hp}{x:Addr}(s:Same H H1)(n:H1 x=none):H x=none:=by
 cases e:H x with
 | none=>rfl
 | some o=>rw [s _ _ e] at n;cases n
section
variable{P:Program}{w:World}{K:PySem.W.Frag}{mg:Str→Option Value}{base:Heap}{f g CF fI CT tI:Addr}{fd gd fdI tdI:FuncData}
def But(x:Addr)(H H':Hp):Prop:=∀ b o,H b=some o→b≠x→H' b=some o
theorem But.same{x dx C:Addr}{H H1:Hp}(nx:H x=none)(nd:H dx=none)(k:But x (upd (upd H dx (.own x)) x (.ins C dx [])) H1):Same H H1:=Same.made nx nd k
def spTI(CT:Addr):Sp:=fun vs H Q _=>∃ x dx k p e v,vs=[.ref x,.str k,.int p,.int e,v]∧H x=some (.ins CT dx [])∧∀ H',But x H H'→H' x=some (.ins CT dx (tokF k p e v))→Q .non H'
theorem scTI:FnScope ["self", "kind", "place", "end", "value"] ["self", "kind", "place", "end", "value"] (defScope sTokenInit):=⟨rfl,rfl,rfl,by decide +kernel,rfl,by decide +kernel,by decide +kernel⟩
structure ClsAt(K:PySem.W.Frag)(mg:Str→Option Value)(x:Str)(C:Addr)(flds:List Str):Prop where
 cl:Cls K C
 no:∀ f∈flds,NoAttr K C f
 m:mg x=some (.ref C)
structure TokenAt(K:PySem.W.Frag)(mg:Str→Option Value)(CT tI:Addr)(tdI:FuncData):Prop where
 c:ClsAt K mg "Token" CT ["kind", "place", "end", "value"]
 make:Mk K CT tI
 F:Fun K "__init__" "Token.__init__" sTokenInit tI tdI
 b:Binds K tdI ["self", "kind", "place", "end", "value"] []
theorem ok_TI(T:TokenAt K mg CT tI tdI):FnOk P w K mg base (CXF P w) 1 tI tdI ["self", "kind", "place", "end", "value"] (spTI CT):=by
 refine T.F.okF (k:=0) scTI (fun vs H Q E h=>?_) (fun cdv A outer s H vs Q E hr h=>?_)
 ·obtain ⟨x,dx,k,p,e,v,rfl,_⟩:=h
  rfl
 obtain ⟨x,dx,k,p,e,v,rfl,hx,q⟩:=h
 refine ⟨_,pss_cons (ps_fld (pv 0) (pv 1) rfl) (pss_cons (ps_fld (pv 0) (pv 2) rfl) (pss_cons (ps_fld (pv 0) (pv 3) rfl) (pss_one (ps_fld (pv 0) (pv 4) rfl)))),?_⟩
 refine ⟨_,rfl,_,rfl,x,CT,dx,_,rfl,hx,T.c.cl,T.c.no _ (.head _),(by show 0 < 1000;decide),?_⟩
 refine ⟨_,rfl,_,rfl,x,CT,dx,_,rfl,upd_same,T.c.cl,T.c.no _ (.tail _ (.head _)),(by show 1 < 1000;decide),?_⟩
 refine ⟨_,rfl,_,rfl,x,CT,dx,_,rfl,upd_same,T.c.cl,T.c.no _ (.tail _ (.tail _ (.head _))),(by show 2 < 1000;decide),?_⟩
 refine ⟨_,rfl,_,rfl,x,CT,dx,_,rfl,upd_same,T.c.cl,T.c.no _ (.tail _ (.tail _ (.tail _ (.head _)))),(by show 3 < 1000;decide),?_⟩
 exact q _ (fun b o hb ne=>by rw [upd_ne ne,upd_ne ne,upd_ne ne,upd_ne ne];exact hb) upd_same
def spCut(K:PySem.W.Frag)(CF CT:Addr)(G:UInt8→Prop):Sp:=fun vs H Q E=>∃ (a:Addr) (t r:Bytes) (q:Nat) (c:UInt8),vs=[.ref a,.int q]∧SqL K H a (vb t)∧t.length≤900000∧t.drop q=c::r∧G c∧match lexAt (t.drop q) with
 | some (l,k)=>∀ x H',Same H H'→TokAt CT (Cut noH H H') x { lex:=l,place:=q,len:=k }→Q (.ref x) H'
 | none=>Err CF E 2 (q:Int)
theorem digit_byte(c:UInt8):(decide (48≤(c.toNat:Int)) && decide ((c.toNat:Int)≤57))=digit c:=by
 unfold digit
 have h2:decide ((48:Int)≤(c.toNat:Int))=decide ((48:UInt8)≤c):=by
  apply decide_eq_decide.mpr
  rw [UInt8.le_iff_toNat_le]
  show (48:Int)≤_↔48≤c.toNat
  omega
 have h3:decide ((c.toNat:Int)≤57)=decide (c≤(57:UInt8)):=by
  apply decide_eq_decide.mpr
  rw [UInt8.le_iff_toNat_le]
  show _≤(57:Int)↔c.toNat≤57
  omega
 rw [h2,h3]
theorem digit_letter{c:UInt8}(hc:digit c=true):letter c=false:=by
 unfold digit at hc
 unfold letter
 simp only [Bool.and_eq_true,decide_eq_true_eq,UInt8.le_iff_toNat_le] at hc
 simp only [Bool.or_eq_false_iff,Bool.and_eq_false_iff,decide_eq_false_iff_not,UInt8.le_iff_toNat_le,beq_eq_false_iff_ne]
 obtain ⟨h1,h2⟩:=hc
 have h2:c.toNat≤57:=h2
 refine ⟨⟨.inl ?_,.inl ?_⟩,fun e=>?_⟩
 ·show ¬ 65≤c.toNat
  omega
 ·show ¬ 97≤c.toNat
  omega
 ·subst e
  exact absurd h2 (by decide)
theorem tw_end{p:UInt8→Bool}{u:Bytes}{j:Nat}(h:∀ b∈u.take j,p b=true)(e:j=u.length∨∃ c,u[j]? = some c∧p c=false):u.takeWhile p=u.take j:=by
 induction u generalizing j with
 | nil=>simp
 | cons b u ih =>
  cases j with
  | zero =>
   rcases e with e | ⟨c,e1,e2⟩
   ·simp at e
   ·have:b=c:=by simpa using e1
    subst this
    rw [List.takeWhile_cons,e2]
    simp
  | succ j =>
   have hb:p b=true:=h b (by simp)
   rw [List.takeWhile_cons,hb,if_pos rfl,List.take_succ_cons,ih (fun c hc=>h c (by rw [List.take_succ_cons];exact List.mem_cons_of_mem _ hc))]
   rcases e with e | ⟨c,e1,e2⟩
   ·left;simpa using e
   ·right;exact ⟨c,by simpa using e1,e2⟩
theorem take_snoc{u:Bytes}{j:Nat}{c:UInt8}(h:u[j]? = some c):u.take (j + 1)=u.take j ++ [c]:=by
 rw [List.take_add_one,h];rfl
theorem natOf_snoc(u:Bytes)(c:UInt8):natOf (u ++ [c])=10 * natOf u + (c.toNat - 48):=by
 unfold natOf
 rw [List.foldl_append]
 rfl
theorem drop_at{t:Bytes}{q j:Nat}:(t.drop q)[j]? = t[q + j]? := by rw [List.getElem?_drop]
theorem scNum:FnScope ["text", "place", "end", "value", "size"] ["text", "place"] (defScope sCutNumber):=⟨rfl,rfl,rfl,by decide +kernel,rfl,by decide +kernel,by decide +kernel⟩
theorem ok_num(F:Fun K "cut_number" "cut_number" sCutNumber f fd)(T:FaultAt K mg CF fI fdI)(U:TokenAt K mg CT tI tdI)(G:FnOk P w K mg base (CXF P w) 1 g gd ["byte"] spDigit)(bG:Binds K gd ["byte"] [])(kG:PySem.W.keepIn K (.ref g)=true)
  (mG:mg "is_digit"=some (.ref g)) (ml:mg "len"=none) (c1:CI mg "ZERO" 48) (c2:CI mg "LONGEST_NUMBER" 30) (c3:CI mg "WRONG_TOKEN" 2):FnOk P w K mg base (CXF P w) 3 f fd ["text", "place"] (spCut K CF CT fun c=>digit c=true):=by
 refine F.okF (k:=2) scNum (fun vs H Q E h=>?_) (fun cdv A outer s H vs Q E hr h=>?_)
 ·obtain ⟨a,t,r,q,c,rfl,_⟩:=h
  rfl
 obtain ⟨a,t,r,q,c,rfl,hS,hlen,hd,hc,k⟩:=h
 have nd:=scNum.nd
 refine ⟨_,pss_cons (ps_set (i:=2) nd rfl (Or.inl rfl) (pv 1)) (pss_cons (ps_set (i:=3) nd rfl (Or.inl rfl) pe_int)
  (pss_cons (ps_while ownF (PW.pt (pw_and (pt_cmpR op_lt (pv 2) (pe_callB call_len_seq rfl ml PySem.boot_len (pa_cons (pv 0) pa_nil)) (nomark _))
    (pw_and1 (pt_val (pe_call G (hr.mono (by decide)) rfl mG kG bG .nil passF (pa_cons (pe_ix ix_list (pv 0) (pv 2) (fun _ _=>rfl)) pa_nil))))))
   (pss_cons (ps_set (i:=3) nd rfl (Or.inl rfl) (pe_op op_sub (pe_op op_add (pe_op op_mul (pv 3) pe_int) (pe_ix ix_list (pv 0) (pv 2) (fun _ _=>rfl))) (pe_ci c1 rfl)))
    (pss_one (ps_aug (i:=2) nd rfl (Or.inl rfl) pe_int ip_add))))
  (pss_cons (ps_set (i:=4) nd rfl (Or.inl rfl) (pe_op op_sub (pv 2) (pv 1)))
  (pss_cons (ps_if (PW.pt (pw_or (pt_cmpR op_gt (pv 4) (pe_ci c2 rfl) (nomark _)) (pw_or1 (PW.pt (pw_and (pt_cmpR op_gt (pv 4) pe_int (nomark _)) (pw_and1 (pt_cmpR op_eq (pe_ix ix_list (pv 0) (pv 1) (fun _ _=>rfl)) (pe_ci c1 rfl) (nomark _))))))))
    (pss_one (ps_fault T hr rfl (pa_cons (pe_ci c3 rfl) (pa_cons (pv 1) pa_nil)))) pss_nil)
  (pss_one (ps_ret (pe_make U.make (ok_TI U) hr rfl U.c.m U.b .nil passF (pa_cons pe_str (pa_cons (pv 1) (pa_cons (pv 2) (pa_cons (pv 3) pa_nil)))))))))))
  ,?_⟩
 have hq:q < t.length:=(Cell.drop_one hd).2
 have lenu:(t.drop q).length=t.length - q:=List.length_drop
 refine ⟨_,rfl,?_⟩
 refine ⟨fun m σ H'=>H'=H∧∃ (j:Nat) (v4:Option V),σ=[some (.ref a),some (.int (q:Int)),some (.int ((q + j:Nat):Int)),some (.int (natOf ((t.drop q).take j):Int)),v4]∧m=t.length - (q + j)∧q + j≤t.length∧∀ b∈(t.drop q).take j,digit b=true,
  ⟨_,rfl,0,none,rfl,rfl,by omega,fun b hb=>by simp at hb⟩,?_⟩
 rintro m σ H' ⟨rfl,j,v4,rfl,rfl,hj,al⟩
 refine (fun (fin:(j=(t.drop q).length∨∃ c,(t.drop q)[j]? = some c∧digit c=false)→?A)=>?main) ?fin
 case main =>
  refine ⟨_,rfl,_,rfl,a,_,rfl,.inl hS,_,_,rfl,rfl,_,rfl,ite2 (fun c1=>?_) (fun c1=>?_)⟩
  ·have hlt:q + j < t.length:=by
    have:=of_decide_eq_true c1
    rw [vb_len] at this
    omega
   obtain ⟨b,r2,hd2,hb,_⟩:=drop_get hlt
   refine ⟨_,rfl,_,rfl,a,_,_,_,rfl,rfl,hS,vb_get hb,_,rfl,_,rfl,ite2 (fun c2=>?_) (fun c2=>?_)⟩
   ·rw [digit_byte] at c2
    have d2:=c2
    unfold digit at d2
    refine ⟨fun σ' H2=>∃ m',m' < t.length - (q + j)∧(H2=H'∧∃ (j:Nat) (v4:Option V),σ'=[some (.ref a),some (.int (q:Int)),some (.int ((q + j:Nat):Int)),some (.int (natOf ((t.drop q).take j):Int)),v4]∧m'=t.length - (q + j)∧q + j≤t.length∧∀ b∈(t.drop q).take j,digit b=true),fun _ _ z=>z,?_⟩
    refine ⟨_,rfl,_,_,rfl,rfl,.inr ⟨by decide,by decide⟩,_,rfl,_,rfl,a,_,_,_,rfl,rfl,hS,vb_get hb,_,_,rfl,rfl,_,_,rfl,rfl,?_⟩
    have e1:(t.drop q)[j]? = some b:=by rw [drop_at];exact hb
    have ge:48≤b.toNat:=by
     have:=digit_byte b
     rw [c2] at this
     have:=(Bool.and_eq_true_iff.mp this).1
     have:=of_decide_eq_true this
     omega
    refine ⟨_,rfl,_,_,rfl,rfl,t.length - (q + (j + 1)),by omega,rfl,j + 1,v4,?_,rfl,by omega,fun z hz=>?_⟩
    ·have e2:(natOf ((t.drop q).take (j + 1)):Int)=(natOf ((t.drop q).take j):Int) * 10 + (b.toNat:Int) - 48:=by
      rw [take_snoc e1,natOf_snoc]
      omega
     rw [e2]
     rfl
    ·rw [take_snoc e1] at hz
     rcases List.mem_append.mp hz with y | y
     ·exact al z y
     ·have:z=b:=by simpa using y
      rw [this];exact c2
   ·refine fin (.inr ⟨b,by rw [drop_at];exact hb,?_⟩)
    rw [← digit_byte]
    exact Bool.eq_false_iff.mpr c2
  ·refine fin (.inl ?_)
   have:¬ (((q + j:Nat):Int) < ((vb t).length:Int)):=fun z=>c1 (decide_eq_true z)
   rw [vb_len] at this
   omega
 case fin =>
  intro e
  have tw:=tw_end al e
  have jl:((t.drop q).takeWhile digit).length=j:=by rw [tw,List.length_take,lenu];omega
  have lx:lexAt (t.drop q)=if ((t.drop q).takeWhile digit).length≤30 && (((t.drop q).takeWhile digit).length == 1 || c != 48) then some (.num (natOf ((t.drop q).takeWhile digit)),((t.drop q).takeWhile digit).length) else none:=by
   rw [hd]
   show (if letter c then _ else if digit c then _ else _)=_
   rw [digit_letter hc,hc]
   rfl
  rw [lx,jl,tw] at k
  have j1:1≤j:=by
   rw [hd,List.takeWhile_cons,hc,if_pos rfl,List.length_cons] at jl
   omega
  have sz:((q + j:Nat):Int) - (q:Int)=(j:Int):=by omega
  have raise:(decide (j≤30) && (j == 1 || c != 48))=false→Err CF E 2 (q:Int):=fun z=>by
   rw [z] at k
   exact k
  have token:(decide (j≤30) && (j == 1 || c != 48))=true→∀ x H2,Same H' H2→TokAt CT (Cut noH H' H2) x { lex:=.num (natOf ((t.drop q).take j)),place:=q,len:=j }→Q (.ref x) H2:=fun z=>by
   rw [z] at k
   exact k
  have give:(decide (j≤30) && (j == 1 || c != 48))=true→∀ x dx,H' x=none→H' dx=none→dx≠x→
    spTI CT [.ref x,.str "NUMBER",.int (q:Int),.int ((q + j:Nat):Int),.int (natOf ((t.drop q).take j):Int)] (upd (upd H' dx (.own x)) x (.ins CT dx [])) (fun v H2=>v = .non∧Q (.ref x) H2) E:=fun z x dx nx ndx ne =>
   ⟨x,dx,_,_,_,_,rfl,upd_same,fun H2 b e=>⟨rfl,token z x H2 (But.same nx ndx b) ⟨dx,_,cut_new rfl nx e,rfl⟩⟩⟩
  refine ⟨_,rfl,_,rfl,_,_,rfl,rfl,?_⟩
  refine ⟨_,rfl,_,_,rfl,rfl,_,rfl,ite2 (fun k1=>?_) (fun k1=>?_)⟩
  ·have:¬ j≤30:=by
    have:=of_decide_eq_true k1
    omega
   exact ⟨_,rfl,raise_says (raise (by rw [decide_eq_false this];rfl))⟩
  have j30:j≤30:=by
   have:¬ ((30:Int) < ((q + j:Nat):Int) - (q:Int)):=fun z=>k1 (decide_eq_true z)
   omega
  refine ⟨_,rfl,_,_,rfl,rfl,_,rfl,ite2 (fun k2=>?_) (fun k2=>?_)⟩
  ·have j2:1 < j:=by
    have:=of_decide_eq_true k2
    omega
   have n1:(j == 1)=false:=by simpa using (show j≠1 by omega)
   refine ⟨_,rfl,_,rfl,a,_,_,_,rfl,rfl,hS,vb_get (get_drop hd),rfl,_,rfl,ite2 (fun k3=>?_) (fun k3=>?_)⟩
   ·have e48:c=48:=(byte_eq (n:=48) (by decide)).mp (by have:=of_decide_eq_true k3;injection this)
    refine ⟨_,rfl,raise_says (raise ?_)⟩
    rw [n1,e48]
    simp
   ·have n48:c≠48:=fun e=>k3 (decide_eq_true (by rw [(byte_eq (n:=48) (by decide)).mpr e];rfl))
    refine ⟨_,rfl,_,rfl,_,rfl,give ?_⟩
    rw [decide_eq_true j30]
    simpa using Or.inr n48
  ·have e1:j=1:=by
    have:¬ ((1:Int) < ((q + j:Nat):Int) - (q:Int)):=fun z=>k2 (decide_eq_true z)
    omega
   refine ite2 (fun z=>absurd z (by decide)) (fun _=>?_)
   refine ⟨_,rfl,_,rfl,_,rfl,give ?_⟩
   rw [decide_eq_true j30,e1]
   simp
end
end Prg
end
section
set_option maxRecDepth 100000
set_option maxHeartbeats 4000000
namespace Prg
open PySem L2
open Vanbka (Bytes Lex reserved lexAt digit letter wordByte natOf)
def CS(mg:Str→Option Value)(x:Str)(z:Str):Prop:=∃ t,mg x=some (.str z t)
theorem pe_cs{X:Cx}{x z:Str}{pos:Pos}(c:CS X.mg x z)(hg:Gl X x)(hd:(x == ("__debug__":Str))=false:=by decide):PE X (.Name x pos) (tC (.str z)):=by
 obtain ⟨t,h⟩:=c
 exact pe_glob hg h ⟨t,rfl⟩ hd
theorem pe_cr{X:Cx}{x:Str}{a:Addr}{pos:Pos}(c:X.mg x=some (.ref a))(hg:Gl X x)(hd:(x == ("__debug__":Str))=false:=by decide):PE X (.Name x pos) (tC (.ref a)):=pe_glob hg c rfl hd
theorem ip_add_str{X:Cx}:PIp X .Add (fun x y H Q=>∃ i j,x = .str i∧y = .str j∧i.length + j.length≤sizeLine∧Q (.str (i ++ j)) H):=iop_add_str
theorem strOf_nil:strOf [] = "":=rfl
theorem strOf_snoc(u:Bytes)(c:UInt8):strOf (u ++ [c])=strOf u ++ (⟨#[c.toNat]⟩:Str):=by
 show (⟨((u ++ [c]).map (·.toNat)).toArray⟩:Str)=Str.append ⟨(u.map (·.toNat)).toArray⟩ ⟨#[c.toNat]⟩
 unfold Str.append
 simp
theorem strOf_len(u:Bytes):(strOf u).length=u.length:=by
 show ((u.map (·.toNat)).toArray).size=_
 simp
theorem strOf_inj{u v:Bytes}(h:strOf u=strOf v):u=v:=by
 have e:(u.map (·.toNat)).toArray=(v.map (·.toNat)).toArray:=Str.mk.inj h
 have e:u.map (·.toNat)=v.map (·.toNat):=by simpa using e
 exact (List.map_inj_right (fun a b q=>UInt8.toNat_inj.mp q)).mp e
def lower(c:UInt8):Bool:=decide (97≤c.toNat) && decide (c.toNat≤122)
def spell(u:Bytes):Str:=if u.all lower then strOf u else ""
def letters:Str := "abcdefghijklmnopqrstuvwxyz"
theorem letters_at:∀ n:Nat,n < 26→letters.cps.toList[n]? = some (97 + n):=by decide
section
variable{P:Program}{w:World}{K:PySem.W.Frag}{mg:Str→Option Value}{base:Heap}{f g CF fI CT tI:Addr}{fd gd fdI tdI:FuncData}
def spSpell(K:PySem.W.Frag):Sp:=fun vs H Q _=>∃ (a:Addr) (u:Bytes),vs=[.ref a]∧SqL K H a (vb u)∧u.length≤900000∧Q (.str (spell u)) H
theorem scSpell:FnScope ["word", "spelled", "byte", "at"] ["word"] (defScope sSpellLower):=⟨rfl,rfl,rfl,by decide +kernel,rfl,by decide +kernel,by decide +kernel⟩
theorem ok_spell(F:Fun K "spell_lower" "spell_lower" sSpellLower f fd)(ml:mg "len"=none)(c1:CI mg "LOWER_A" 97)(c2:CS mg "LOWER_LETTERS" letters):FnOk P w K mg base (CXF P w) 1 f fd ["word"] (spSpell K):=by
 refine F.okF (k:=0) scSpell (fun vs H Q E h=>?_) (fun cdv A outer s H vs Q E hr h=>?_)
 ·obtain ⟨a,u,rfl,_⟩:=h
  rfl
 obtain ⟨a,u,rfl,hS,hu,q⟩:=h
 have nd:=scSpell.nd
 refine ⟨_,pss_cons (ps_set (i:=1) nd rfl (Or.inl rfl) pe_str)
  (pss_cons (ps_for ownF rfl (pi_list (pv 0)) (pg_name (i:=2) nd rfl (Or.inl rfl))
   (pss_cons (ps_set (i:=3) nd rfl (Or.inl rfl) (pe_op op_sub (pv 2) (pe_ci c1 rfl)))
   (pss_cons (ps_if (pt_not (pt_chain op_le op_lt pe_int (pv 3) (pe_callB call_len_str rfl ml PySem.boot_len (pa_cons (pe_cs c2 rfl) pa_nil)))) (pss_one (ps_ret pe_str)) pss_nil)
   (pss_one (ps_aug (i:=1) nd rfl (Or.inl rfl) (pe_ix ix_str (pe_cs c2 rfl) (pv 3) (fun _ _=>rfl)) ip_add_str)))))
  (pss_one (ps_ret (pv 1)))),?_⟩
 refine ⟨_,rfl,a,rfl,⟨_,hS⟩,fun i m σ H'=>H'=H∧m=u.length - i∧i≤u.length∧(∃ v2 v3,σ=[some (.ref a),some (.str (strOf (u.take i))),v2,v3])∧∀ b∈u.take i,lower b=true,⟨_,rfl,rfl,Nat.zero_le _,⟨none,none,rfl⟩,fun b hb=>by simp at hb⟩,?_⟩
 rintro i m σ H' ⟨rfl,rfl,hi,⟨v2,v3,rfl⟩,al⟩
 by_cases hlt:i < u.length
 ·obtain ⟨c,r,hd,hc,_⟩:=drop_get hlt
  have hx:(vb u)[i]? = some (.int (c.toNat:Int)):=by unfold vb;rw [List.getElem?_map,hc];rfl
  refine .inr ⟨⟨_,_,hS,hx⟩,fun σ' H2=>∃ m',m' < u.length - i∧(H2=H'∧m'=u.length - (i + 1)∧i + 1≤u.length∧(∃ v2 v3,σ'=[some (.ref a),some (.str (strOf (u.take (i + 1)))),v2,v3])∧∀ b∈u.take (i + 1),lower b=true),fun _ _ z=>z,?_⟩
  rintro x H2 ⟨rfl,hy⟩
  have ey:=hy _ hS
  rw [hx] at ey
  cases ey
  have l26:letters.length=26:=by decide
  have no:lower c=false→spell u = "":=fun z=>by
   unfold spell
   refine if_neg fun y=>?_
   have:=List.all_eq_true.mp y c (List.mem_of_getElem? hc)
   rw [z] at this
   cases this
  refine ⟨_,rfl,_,_,rfl,rfl,?_⟩
  refine ⟨_,rfl,_,_,rfl,rfl,_,rfl,ite2 (fun k1=>?_) (fun k1=>?_)⟩
  ·have g1:97≤c.toNat:=by have:=of_decide_eq_true k1;omega
   refine ⟨_,rfl,by decide,_,_,rfl,rfl,_,rfl,ite2 (fun k2=>?_) (fun k2=>?_)⟩
   ·have g2:¬ c.toNat≤122:=fun z=>by
     rw [l26,decide_eq_true (by omega)] at k2
     cases k2
    rw [no (by unfold lower;rw [decide_eq_false g2,Bool.and_false])] at q
    exact q
   ·have g2:c.toNat≤122:=by
     have k3:decide ((c.toNat:Int) - 97 < (letters.length:Int))=true:=by simpa using k2
     rw [l26] at k3
     have:=of_decide_eq_true k3
     omega
    have lc:lower c=true:=by unfold lower;rw [decide_eq_true g1,decide_eq_true g2];rfl
    have ec:((c.toNat:Int) - 97)=((c.toNat - 97:Nat):Int):=by omega
    have eat:atI letters.cps.toList ((c.toNat:Int) - 97)=some c.toNat:=by
     rw [ec]
     refine atI_nat ?_
     rw [letters_at _ (by omega)]
     congr 1
     omega
    refine ⟨_,rfl,_,rfl,_,_,_,rfl,rfl,by decide,eat,_,_,rfl,rfl,?_,u.length - (i + 1),by omega,rfl,rfl,by omega,⟨some (.int (c.toNat:Int)),some (.int ((c.toNat:Int) - 97)),?_⟩,fun b hb=>?_⟩
    ·rw [strOf_len,List.length_take]
     show min i u.length + 1≤2 ^ 24
     omega
    ·rw [take_snoc hc,strOf_snoc]
     rfl
    ·rw [take_snoc hc] at hb
     rcases List.mem_append.mp hb with y | y
     ·exact al b y
     ·have:b=c:=by simpa using y
      rw [this];exact lc
  ·have g1:¬ 97≤c.toNat:=fun z=>k1 (decide_eq_true (by omega))
   refine ⟨_,rfl,ite2 (fun _=>?_) (fun z=>absurd rfl z)⟩
   rw [no (by unfold lower;rw [decide_eq_false g1,Bool.false_and])] at q
   exact q
 ·have e:i=u.length:=by omega
  subst e
  rw [List.take_length] at al ⊢
  have:spell u=strOf u:=by unfold spell;rw [if_pos (List.all_eq_true.mpr al)]
  rw [this] at q
  exact .inl ⟨⟨_,hS,by rw [vb_len];exact Nat.le_refl _⟩,_,rfl,q⟩
end
end Prg
end
section
set_option maxRecDepth 100000
set_option maxHeartbeats 4000000
namespace Prg
open PySem L2
open Vanbka (Bytes Lex reserved lexAt digit letter wordByte natOf)
theorem word_byte(c:UInt8):wordI (c.toNat:Int)=wordByte c:=by
 unfold wordI wordByte letter
 rw [digit_byte]
 have h1:decide ((65:Int)≤(c.toNat:Int))=decide ((65:UInt8)≤c):=by
  apply decide_eq_decide.mpr;rw [UInt8.le_iff_toNat_le];show (65:Int)≤_↔65≤c.toNat;omega
 have h2:decide ((c.toNat:Int)≤90)=decide (c≤(90:UInt8)):=by
  apply decide_eq_decide.mpr;rw [UInt8.le_iff_toNat_le];show _≤(90:Int)↔c.toNat≤90;omega
 have h3:decide ((97:Int)≤(c.toNat:Int))=decide ((97:UInt8)≤c):=by
  apply decide_eq_decide.mpr;rw [UInt8.le_iff_toNat_le];show (97:Int)≤_↔97≤c.toNat;omega
 have h4:decide ((c.toNat:Int)≤122)=decide (c≤(122:UInt8)):=by
  apply decide_eq_decide.mpr;rw [UInt8.le_iff_toNat_le];show _≤(122:Int)↔c.toNat≤122;omega
 have h5:decide ((c.toNat:Int)=95)=(c == 95):=by
  by_cases h:c=95
  ·subst h;decide
  ·have hne:¬ ((c.toNat:Int)=95):=fun e=>h ((byte_eq (n:=95) (by decide)).mp e)
   rw [decide_eq_false hne]
   exact (beq_eq_false_iff_ne.mpr h).symm
 rw [h1,h2,h3,h4,h5]
 simp only [Bool.or_assoc]
def resV:List V:=reserved.map fun x=>V.str (strOf x)
theorem res_lower:∀ x∈reserved,x.all lower=true:=by decide +kernel
theorem res_some:∀ x∈reserved,x≠[]:=by decide +kernel
theorem res_flat:resV.all flatV=true:=by decide +kernel
theorem res_in(u:Bytes)(hu:u≠[]):inV (.str (spell u)) resV=reserved.contains u:=by
 have key:∀ l:List Bytes,(∀ x∈l,x.all lower=true)→(∀ x∈l,x≠[])→inV (.str (spell u)) (l.map fun x=>V.str (strOf x))=l.contains u:=by
  intro l
  induction l with
  | nil=>intros;rfl
  | cons x l ih =>
   intro h1 h2
   have i1:=ih (fun y hy=>h1 y (List.mem_cons_of_mem _ hy)) (fun y hy=>h2 y (List.mem_cons_of_mem _ hy))
   rw [List.contains_cons,← i1]
   show (strOf x == spell u || _)=_
   have:(strOf x == spell u)=(u == x):=by
    by_cases e:u=x
    ·subst e
     have:spell u=strOf u:=by unfold spell;rw [h1 u (.head _)];rfl
     rw [this];simp
    ·have ne:¬ strOf x=spell u:=fun z=>by
      unfold spell at z
      by_cases c:u.all lower=true
      ·rw [if_pos c] at z
       exact e (strOf_inj z).symm
      ·rw [if_neg c] at z
       exact h2 x (.head _) (strOf_inj (z.trans strOf_nil.symm))
     rw [beq_eq_false_iff_ne.mpr ne,beq_eq_false_iff_ne.mpr e]
   rw [this]
   rfl
 exact key reserved res_lower res_some
theorem res_spell{u:Bytes}(h:reserved.contains u=true):spell u=strOf u:=by
 have m:u∈reserved:=by simpa using h
 unfold spell
 rw [res_lower u m];rfl
def KTup(K:PySem.W.Frag)(mg:Str→Option Value)(x:Str)(vs:List V):Prop:=∃ a,mg x=some (.ref a)∧∀ H,SqT K H a vs
theorem cut_vb{t:Bytes}{q j:Nat}(h:q + j≤t.length):cutV (vb t) (some (q:Int)) (some ((q + j:Nat):Int))=vb ((t.drop q).take j):=by
 unfold cutV
 rw [HT.sIx_nat,HT.sIx_nat,vb_len,Nat.min_eq_left (show q≤t.length by omega),Nat.min_eq_left h]
 unfold vb
 rw [← List.map_drop,← List.map_take]
 congr 2
 omega
section
variable{P:Program}{w:World}{K:PySem.W.Frag}{mg:Str→Option Value}{base:Heap}{f g g2 CF fI CT tI:Addr}{fd gd gd2 fdI tdI:FuncData}
theorem scWord:FnScope ["text", "place", "end", "word", "spelled"] ["text", "place"] (defScope sCutWord):=⟨rfl,rfl,rfl,by decide +kernel,rfl,by decide +kernel,by decide +kernel⟩
theorem ok_word(F:Fun K "cut_word" "cut_word" sCutWord f fd)(T:FaultAt K mg CF fI fdI)(U:TokenAt K mg CT tI tdI)(G:FnOk P w K mg base (CXF P w) 2 g gd ["byte"] spWordB)(bG:Binds K gd ["byte"] [])(kG:PySem.W.keepIn K (.ref g)=true)
  (mG:mg "is_word_byte"=some (.ref g)) (S:FnOk P w K mg base (CXF P w) 1 g2 gd2 ["word"] (spSpell K)) (bS:Binds K gd2 ["word"] []) (kS:PySem.W.keepIn K (.ref g2)=true)
  (mS:mg "spell_lower"=some (.ref g2)) (ml:mg "len"=none) (R:KTup K mg "RESERVED" resV) (c2:CI mg "LONGEST_WORD" 16) (c3:CI mg "WRONG_TOKEN" 2):FnOk P w K mg base (CXF P w) 3 f fd ["text", "place"] (spCut K CF CT fun c=>letter c=true):=by
 refine F.okF (k:=2) scWord (fun vs H Q E h=>?_) (fun cdv A outer s H vs Q E hr h=>?_)
 ·obtain ⟨a,t,r,q,c,rfl,_⟩:=h
  rfl
 obtain ⟨a,t,r,q,c,rfl,hS,hlen,hd,hc,k⟩:=h
 obtain ⟨ra,mR,sR⟩:=R
 have nd:=scWord.nd
 refine ⟨_,pss_cons (ps_set (i:=2) nd rfl (Or.inl rfl) (pv 1))
  (pss_cons (ps_while ownF (PW.pt (pw_and (pt_cmpR op_lt (pv 2) (pe_callB call_len_seq rfl ml PySem.boot_len (pa_cons (pv 0) pa_nil)) (nomark _))
    (pw_and1 (pt_val (pe_call G hr rfl mG kG bG .nil passF (pa_cons (pe_ix ix_list (pv 0) (pv 2) (fun _ _=>rfl)) pa_nil))))))
   (pss_one (ps_aug (i:=2) nd rfl (Or.inl rfl) pe_int ip_add)))
  (pss_cons (ps_if (pt_cmpR op_gt (pe_op op_sub (pv 2) (pv 1)) (pe_ci c2 rfl) (nomark _))
    (pss_one (ps_fault T hr rfl (pa_cons (pe_ci c3 rfl) (pa_cons (pv 1) pa_nil)))) pss_nil)
  (pss_cons (ps_set (i:=3) nd rfl (Or.inl rfl) (pe_slice sl_list (pv 0) (po_some (pv 1)) (po_some (pv 2))))
  (pss_cons (ps_set (i:=4) nd rfl (Or.inl rfl) (pe_call S (hr.mono (by decide)) rfl mS kS bS .nil passF (pa_cons (pv 3) pa_nil)))
  (pss_cons (ps_if (pt_cmpR op_in_seq (pv 4) (pe_cr mR rfl) rfl)
   (pss_one (ps_ret (pe_make U.make (ok_TI U) hr rfl U.c.m U.b .nil passF (pa_cons (pv 4) (pa_cons (pv 1) (pa_cons (pv 2) (pa_cons pe_non pa_nil))))))) pss_nil)
  (pss_one (ps_ret (pe_make U.make (ok_TI U) hr rfl U.c.m U.b .nil passF (pa_cons pe_str (pa_cons (pv 1) (pa_cons (pv 2) (pa_cons (pv 3) pa_nil))))))))))))
  ,?_⟩
 have hq:q < t.length:=(Cell.drop_one hd).2
 have lenu:(t.drop q).length=t.length - q:=List.length_drop
 refine ⟨_,rfl,?_⟩
 refine ⟨fun m σ H'=>H'=H∧∃ (j:Nat),σ=[some (.ref a),some (.int (q:Int)),some (.int ((q + j:Nat):Int)),none,none]∧m=t.length - (q + j)∧q + j≤t.length∧∀ b∈(t.drop q).take j,wordByte b=true,
  ⟨_,rfl,0,rfl,rfl,by omega,fun b hb=>by simp at hb⟩,?_⟩
 rintro m σ H' ⟨rfl,j,rfl,rfl,hj,al⟩
 refine (fun (fin:(j=(t.drop q).length∨∃ c,(t.drop q)[j]? = some c∧wordByte c=false)→?A)=>?main) ?fin
 case main =>
  refine ⟨_,rfl,_,rfl,a,_,rfl,.inl hS,_,_,rfl,rfl,_,rfl,ite2 (fun c1=>?_) (fun c1=>?_)⟩
  ·have hlt:q + j < t.length:=by
    have:=of_decide_eq_true c1
    rw [vb_len] at this
    omega
   obtain ⟨b,r2,hd2,hb,_⟩:=drop_get hlt
   refine ⟨_,rfl,_,rfl,a,_,_,_,rfl,rfl,hS,vb_get hb,_,rfl,_,rfl,ite2 (fun c2=>?_) (fun c2=>?_)⟩
   ·rw [word_byte] at c2
    refine ⟨fun σ' H2=>∃ m',m' < t.length - (q + j)∧(H2=H'∧∃ (j:Nat),σ'=[some (.ref a),some (.int (q:Int)),some (.int ((q + j:Nat):Int)),none,none]∧m'=t.length - (q + j)∧q + j≤t.length∧∀ b∈(t.drop q).take j,wordByte b=true),fun _ _ z=>z,?_⟩
    have e1:(t.drop q)[j]? = some b:=by rw [drop_at];exact hb
    refine ⟨_,rfl,_,_,rfl,rfl,t.length - (q + (j + 1)),by omega,rfl,j + 1,rfl,rfl,by omega,fun z hz=>?_⟩
    rw [take_snoc e1] at hz
    rcases List.mem_append.mp hz with y | y
    ·exact al z y
    ·have:z=b:=by simpa using y
     rw [this];exact c2
   ·refine fin (.inr ⟨b,by rw [drop_at];exact hb,?_⟩)
    rw [← word_byte]
    exact Bool.eq_false_iff.mpr c2
  ·refine fin (.inl ?_)
   have:¬ (((q + j:Nat):Int) < ((vb t).length:Int)):=fun z=>c1 (decide_eq_true z)
   rw [vb_len] at this
   omega
 case fin =>
  intro e
  have tw:=tw_end al e
  have jl:((t.drop q).takeWhile wordByte).length=j:=by rw [tw,List.length_take,lenu];omega
  have lx:lexAt (t.drop q)=if ((t.drop q).takeWhile wordByte).length≤16 then some (.word ((t.drop q).takeWhile wordByte),((t.drop q).takeWhile wordByte).length) else none:=by
   rw [hd]
   show (if letter c then _ else if digit c then _ else _)=_
   rw [hc]
   rfl
  have j1:1≤j:=by
   have wc:wordByte c=true:=by unfold wordByte;rw [hc];rfl
   rw [hd,List.takeWhile_cons,wc,if_pos rfl,List.length_cons] at jl
   omega
  rw [lx,jl,tw] at k
  refine ⟨_,rfl,_,rfl,_,_,rfl,rfl,_,_,rfl,rfl,_,rfl,ite2 (fun k1=>?_) (fun k1=>?_)⟩
  ·have:¬ j≤16:=by
    have:=of_decide_eq_true k1
    omega
   rw [if_neg this] at k
   exact ⟨_,rfl,raise_says k⟩
  have j16:j≤16:=by
   have:¬ ((16:Int) < ((q + j:Nat):Int) - (q:Int)):=fun z=>k1 (decide_eq_true z)
   omega
  rw [if_pos j16] at k
  have ne:(t.drop q).take j≠[]:=fun z=>by
   have:=congrArg List.length z
   rw [List.length_take,lenu,List.length_nil] at this
   omega
  refine ⟨_,rfl,_,rfl,_,rfl,_,rfl,_,rfl,a,_,rfl,hS,fun p np=>?_⟩
  rw [cut_vb hj]
  have sm:Same H' (upd H' p (.lst (vb ((t.drop q).take j)))):=same_new np _
  refine ⟨_,rfl,p,_,rfl,SqL.of upd_same,by rw [List.length_take,lenu];omega,?_⟩
  refine ⟨_,rfl,ra,_,rfl,.inr (sR _),rfl,res_flat,_,rfl,?_⟩
  rw [if_neg Bool.false_ne_true,res_in _ ne]
  refine ite2 (fun k2=>?_) (fun k2=>?_)
  ·have ks:kindS (.word ((t.drop q).take j))=spell ((t.drop q).take j):=by
    rw [res_spell k2]
    show (if reserved.contains _ then _ else _)=_
    rw [if_pos k2]
   refine ⟨_,rfl,_,rfl,_,rfl,fun x dx nx ndx ne=>⟨x,dx,_,_,_,_,rfl,upd_same,fun H2 b e=>⟨rfl,k x H2 (sm.trans (But.same nx ndx b)) ⟨dx,.non,?_,?_⟩⟩⟩⟩
   ·show Cut noH H' H2 x=some (.ins CT dx (tokF (kindS (.word ((t.drop q).take j))) _ _ _))
    rw [ks];exact cut_new rfl (none_of_same sm nx) e
   ·show if reserved.contains _ then _ else _
    rw [if_pos k2]
  ·have ks:kindS (.word ((t.drop q).take j)) = "NAME":=by
    show (if reserved.contains _ then _ else _)=_
    rw [if_neg k2]
   refine ⟨_,rfl,_,rfl,_,rfl,fun x dx nx ndx ne=>⟨x,dx,_,_,_,_,rfl,upd_same,fun H2 b e=>⟨rfl,k x H2 (sm.trans (But.same nx ndx b)) ⟨dx,.ref p,?_,?_⟩⟩⟩⟩
   ·show Cut noH H' H2 x=some (.ins CT dx (tokF (kindS (.word ((t.drop q).take j))) _ _ _))
    rw [ks];exact cut_new rfl (none_of_same sm nx) e
   ·show if reserved.contains _ then _ else _
    rw [if_neg k2]
    exact ⟨p,rfl,cut_new rfl np (But.same nx ndx b _ _ upd_same)⟩
end
end Prg
end
section
set_option maxRecDepth 100000
set_option maxHeartbeats 4000000
namespace Prg
open PySem L2
open Vanbka (Bytes Lex reserved lexAt digit letter wordByte natOf quotedFrom)
theorem qf_end(r:Bytes):quotedFrom (34::r)=some ([],1):=by rw [quotedFrom]
theorem qf_line(r:Bytes):quotedFrom (10::r)=none:=by rw [quotedFrom]
theorem qf_plain{c:UInt8}(r:Bytes)(h1:c≠34)(h2:c≠10)(h3:c≠92):quotedFrom (c::r)=(quotedFrom r).map fun x=>(c::x.1,x.2 + 1):=by
 rw [quotedFrom]
 all_goals first | exact h1 | exact h2 | exact h3 | exact fun _ z _=>absurd z h3
def escB(c:UInt8):Option UInt8:=if c=92 then some 92 else if c=34 then some 34 else if c=110 then some 10 else none
theorem qf_esc{c d:UInt8}(r:Bytes)(h:escB c=some d):quotedFrom (92::c::r)=(quotedFrom r).map fun x=>(d::x.1,x.2 + 2):=by
 unfold escB at h
 by_cases h1:c=92
 ·rw [if_pos h1] at h;cases h;subst h1;rw [quotedFrom]
 rw [if_neg h1] at h
 by_cases h2:c=34
 ·rw [if_pos h2] at h;cases h;subst h2;rw [quotedFrom]
 rw [if_neg h2] at h
 by_cases h3:c=110
 ·rw [if_pos h3] at h;cases h;subst h3;rw [quotedFrom]
 rw [if_neg h3] at h
 cases h
theorem qf_bad{c:UInt8}(r:Bytes)(h:escB c=none):quotedFrom (92::c::r)=none:=by
 have h1:c≠92:=fun z=>by subst z;cases h
 have h2:c≠34:=fun z=>by subst z;cases h
 have h3:c≠110:=fun z=>by subst z;cases h
 rw [quotedFrom]
 ·intro r' z;injection z with z1 z2;exact h1 z1
 ·intro r' z;injection z with z1 z2;exact h2 z1
 ·intro r' z;injection z with z1 z2;exact h3 z1
theorem qf_one:quotedFrom [92]=none:=by rw [quotedFrom] <;> intro r z <;> cases z
def escV:List (Key×V):=[(.inl 92,.int 92),(.inl 34,.int 34),(.inl 110,.int 10)]
theorem esc_val(c:UInt8):valV escV (.inl (c.toNat:Int))=(escB c).map fun d=>V.int (d.toNat:Int):=by
 unfold escB
 by_cases h1:c=92
 ·subst h1;rfl
 by_cases h2:c=34
 ·subst h2;rfl
 by_cases h3:c=110
 ·subst h3;rfl
 rw [if_neg h1,if_neg h2,if_neg h3]
 have ne:∀ (n:Nat),n < 256→c≠UInt8.ofNat n→¬ (Sum.inl (n:Int):Key)=Sum.inl (c.toNat:Int):=fun n hn z e=>by
  injection e with e
  exact z ((byte_eq hn).mp e.symm)
 unfold escV
 rw [valV_neg (ne 92 (by decide) h1),valV_neg (ne 34 (by decide) h2),valV_neg (ne 110 (by decide) h3)]
 rfl
theorem same_upd{H H':Hp}{l:Addr}{o:HO}(s:Same H H')(n:H l=none):Same H (upd H' l o):=fun b u q=>by rw [upd_ne (ne_of_none q n)];exact s b u q
theorem vb_snoc(u:Bytes)(c:UInt8):vb (u ++ [c])=vb u ++ [.int (c.toNat:Int)]:=by unfold vb;simp
section
variable{P:Program}{w:World}{K:PySem.W.Frag}{mg:Str→Option Value}{base:Heap}{f g g2 CF fI CT tI:Addr}{fd gd gd2 fdI tdI:FuncData}
def KD(w:World)(K:PySem.W.Frag)(mg:Str→Option Value)(x:Str)(kvs:List (Key×V)):Prop:=∃ a,mg x=some (.ref a)∧KDic w K a kvs
theorem scQuoted:FnScope ["text", "place", "said", "at", "byte"] ["text", "place"] (defScope sCutQuoted):=⟨rfl,rfl,rfl,by decide +kernel,rfl,by decide +kernel,by decide +kernel⟩
theorem ok_quoted(F:Fun K "cut_quoted" "cut_quoted" sCutQuoted f fd)(T:FaultAt K mg CF fI fdI)(U:TokenAt K mg CT tI tdI)(ml:mg "len"=none)(R:KD w K mg "ESCAPED" escV)(c1:CI mg "QUOTE" 34)(c2:CI mg "LINE_FEED" 10)(c3:CI mg "BACKSLASH" 92)(c4:CI mg "WRONG_TOKEN" 2) :
  FnOk P w K mg base (CXF P w) 3 f fd ["text", "place"] (spCut K CF CT fun c=>c=34):=by
 refine F.okF (k:=2) scQuoted (fun vs H Q E h=>?_) (fun cdv A outer s H vs Q E hr h=>?_)
 ·obtain ⟨a,t,r,q,c,rfl,_⟩:=h
  rfl
 obtain ⟨a,t,r,q,c,rfl,hS,hlen,hd,rfl,k⟩:=h
 obtain ⟨ra,mR,dR⟩:=R
 have nd:=scQuoted.nd
 refine ⟨_,pss_cons (ps_set (i:=2) nd rfl (Or.inl rfl) (pe_lst pa_nil))
  (pss_cons (ps_set (i:=3) nd rfl (Or.inl rfl) (pe_op op_add (pv 1) pe_int))
  (pss_cons (ps_while ownF (PW.pt (pw_and (pt_cmpR op_lt (pv 3) (pe_callB call_len_seq rfl ml PySem.boot_len (pa_cons (pv 0) pa_nil)) (nomark _))
    (pw_and (pt_cmpR op_ne (pe_ix ix_list (pv 0) (pv 3) (fun _ _=>rfl)) (pe_ci c1 rfl) (nomark _)) (pw_and1 (pt_cmpR op_ne (pe_ix ix_list (pv 0) (pv 3) (fun _ _=>rfl)) (pe_ci c2 rfl) (nomark _))))))
   (pss_cons (ps_set (i:=4) nd rfl (Or.inl rfl) (pe_ix ix_list (pv 0) (pv 3) (fun _ _=>rfl)))
   (pss_cons (ps_if (pt_cmpR op_eq (pv 4) (pe_ci c3 rfl) (nomark _))
    (pss_cons (ps_aug (i:=3) nd rfl (Or.inl rfl) pe_int ip_add)
    (pss_cons (ps_if (PW.pt (pw_or (pt_cmpR op_eq (pv 3) (pe_callB call_len_seq rfl ml PySem.boot_len (pa_cons (pv 0) pa_nil)) (nomark _)) (pw_or1 (pt_cmpR op_notInK (pe_ix ix_list (pv 0) (pv 3) (fun _ _=>rfl)) (pe_cr mR rfl) rfl))))
     (pss_one (ps_fault T hr rfl (pa_cons (pe_ci c4 rfl) (pa_cons (pv 1) pa_nil)))) pss_nil)
    (pss_one (ps_set (i:=4) nd rfl (Or.inl rfl) (pe_dgetK (pe_cr mR rfl) (pe_ix ix_list (pv 0) (pv 3) (fun _ _=>rfl)) (fun _ _=>rfl)))))) pss_nil)
   (pss_cons (ps_expr (pe_bm PySem.F.plainAttrs_list PySem.F.slot_list_append PySem.F.type_list_append mt_append (pv 2) (pa_cons (pv 4) pa_nil)))
   (pss_one (ps_aug (i:=3) nd rfl (Or.inl rfl) pe_int ip_add))))))
  (pss_cons (ps_if (PW.pt (pw_or (pt_cmpR op_eq (pv 3) (pe_callB call_len_seq rfl ml PySem.boot_len (pa_cons (pv 0) pa_nil)) (nomark _)) (pw_or1 (pt_cmpR op_eq (pe_ix ix_list (pv 0) (pv 3) (fun _ _=>rfl)) (pe_ci c2 rfl) (nomark _)))))
    (pss_one (ps_fault T hr rfl (pa_cons (pe_ci c4 rfl) (pa_cons (pv 1) pa_nil)))) pss_nil)
  (pss_one (ps_ret (pe_make U.make (ok_TI U) hr rfl U.c.m U.b .nil passF (pa_cons pe_str (pa_cons (pv 1) (pa_cons (pe_op op_add (pv 3) pe_int) (pa_cons (pv 2) pa_nil)))))))))),?_⟩
 have hq:q < t.length:=(Cell.drop_one hd).2
 have hr0:t.drop (q + 1)=r:=(Cell.drop_one hd).1
 have lx:lexAt (t.drop q)=(quotedFrom (t.drop (q + 1))).map fun x=>(Lex.quoted x.1,x.2 + 1):=by
  rw [hd,hr0]
  rfl
 rw [lx] at k
 refine ⟨by decide,fun l nl=>⟨_,rfl,_,_,rfl,rfl,?_⟩⟩
 refine ⟨fun m σ H'=>Same H H'∧∃ (j:Nat) (sd:Bytes) (v4:Option V),σ=[some (.ref a),some (.int (q:Int)),some (.ref l),some (.int (j:Int)),v4]∧H' l=some (.lst (vb sd))∧m=t.length - j∧q + 1≤j∧j≤t.length∧sd.length≤j∧
   quotedFrom (t.drop (q + 1))=(quotedFrom (t.drop j)).map (fun x=>(sd ++ x.1,(j - (q + 1)) + x.2)),
  ⟨_,same_new nl _,q + 1,[],none,rfl,upd_same,rfl,Nat.le_refl _,hq,Nat.zero_le _,?_⟩,?_⟩
 ·rw [Nat.sub_self]
  cases quotedFrom (t.drop (q + 1)) with
  | none=>rfl
  | some x=>simp
 rintro m σ H' ⟨sm,j,sd,v4,rfl,hl,rfl,hj1,hj,hsd,inv⟩
 have hS':=sm.seq hS
 refine (fun (fin:(j=t.length∨t[j]? = some 34∨t[j]? = some 10)→?A)=>?main) ?fin
 case main =>
  refine ⟨_,rfl,_,rfl,a,_,rfl,.inl hS',_,_,rfl,rfl,_,rfl,ite2 (fun k1=>?_) (fun k1=>?_)⟩
  ·have hlt:j < t.length:=by
    have:=of_decide_eq_true k1
    rw [vb_len] at this
    omega
   obtain ⟨b,r2,hd2,hb,hr2⟩:=drop_get hlt
   refine ⟨_,rfl,_,rfl,a,_,_,_,rfl,rfl,hS',vb_get hb,rfl,_,rfl,ite2 (fun k2=>?_) (fun k2=>?_)⟩
   ·have n34:b≠34:=fun e=>by
     rw [decide_eq_true (show V.int (b.toNat:Int)=V.int 34 by rw [(byte_eq (n:=34) (by decide)).mpr e];rfl)] at k2
     cases k2
    refine ⟨_,rfl,_,rfl,a,_,_,_,rfl,rfl,hS',vb_get hb,rfl,_,rfl,ite2 (fun k3=>?_) (fun k3=>?_)⟩
    ·have n10:b≠10:=fun e=>by
      rw [decide_eq_true (show V.int (b.toNat:Int)=V.int 10 by rw [(byte_eq (n:=10) (by decide)).mpr e];rfl)] at k3
      cases k3
     refine ⟨fun σ' H2=>∃ m',m' < t.length - j∧(Same H H2∧∃ (j:Nat) (sd:Bytes) (v4:Option V),σ'=[some (.ref a),some (.int (q:Int)),some (.ref l),some (.int (j:Int)),v4]∧H2 l=some (.lst (vb sd))∧m'=t.length - j∧q + 1≤j∧j≤t.length∧sd.length≤j∧
       quotedFrom (t.drop (q + 1))=(quotedFrom (t.drop j)).map (fun x=>(sd ++ x.1,(j - (q + 1)) + x.2))),fun _ _ z=>z,?_⟩
     refine ⟨_,rfl,_,rfl,a,_,_,_,rfl,rfl,hS',vb_get hb,?_⟩
     have push:∀ (d:UInt8) (e:Nat),1≤e→j + e≤t.length→quotedFrom (t.drop j)=(quotedFrom (t.drop (j + e))).map (fun x=>(d::x.1,x.2 + e))→
       ∃ m',m' < t.length - j∧(Same H (upd H' l (.lst (vb sd ++ [.int (d.toNat:Int)])))∧∃ (j2:Nat) (sd2:Bytes) (v4:Option V),([some (.ref a),some (.int (q:Int)),some (.ref l),some (.int ((j + e:Nat):Int)),some (.int (d.toNat:Int))]:St)=[some (.ref a),some (.int (q:Int)),some (.ref l),some (.int (j2:Int)),v4]∧
        upd H' l (.lst (vb sd ++ [.int (d.toNat:Int)])) l=some (.lst (vb sd2))∧m'=t.length - j2∧q + 1≤j2∧j2≤t.length∧sd2.length≤j2∧quotedFrom (t.drop (q + 1))=(quotedFrom (t.drop j2)).map (fun x=>(sd2 ++ x.1,(j2 - (q + 1)) + x.2))):=by
      intro d e e1 hje hqf
      refine ⟨t.length - (j + e),by omega,same_upd sm nl,j + e,sd ++ [d],_,rfl,?_,rfl,by omega,hje,?_,?_⟩
      ·rw [upd_same,vb_snoc]
      ·rw [List.length_append,List.length_singleton];omega
      ·rw [inv,hqf,Option.map_map]
       congr 1
       funext x
       simp only [Function.comp,List.append_assoc,List.singleton_append]
       congr 1
       omega
     have small:(vb sd).length < sizeLine:=by
      rw [vb_len]
      show sd.length < 2 ^ 24
      omega
     refine ⟨_,rfl,rfl,_,rfl,ite2 (fun k4=>?_) (fun k4=>?_)⟩
     ·have e92:b=92:=(byte_eq (n:=92) (by decide)).mp (by have:=of_decide_eq_true k4;injection this)
      subst e92
      refine ⟨_,rfl,_,_,rfl,rfl,?_⟩
      refine ⟨_,rfl,_,rfl,a,_,rfl,.inl hS',rfl,_,rfl,ite2 (fun k5=>?_) (fun k5=>?_)⟩
      ·have ej:j + 1=t.length:=by
        have:=of_decide_eq_true k5
        injection this with this
        rw [vb_len] at this
        have:(j:Int) + 1=(t.length:Int):=this
        omega
       have z:quotedFrom (t.drop j)=none:=by
        rw [hd2,← hr2,ej,List.drop_length,qf_one]
       rw [z] at inv
       rw [inv] at k
       exact ⟨_,rfl,raise_says k⟩
      ·have hlt1:j + 1 < t.length:=by
        have:¬ (j + 1=t.length):=fun z=>k5 (decide_eq_true (by rw [vb_len,← z];rfl))
        omega
       obtain ⟨d,r3,hd3,hb3,hr3⟩:=drop_get hlt1
       have dj:t.drop j=92::d::r3:=by rw [hd2,← hr2,hd3]
       refine ⟨_,rfl,_,rfl,a,_,_,_,rfl,rfl,hS',vb_get hb3,ra,escV,.inl (d.toNat:Int),rfl,dR,rfl,_,rfl,?_⟩
       rw [if_pos rfl,esc_val,Option.isSome_map]
       cases hE:escB d with
       | none =>
        refine ite2 (fun _=>?_) (fun z=>absurd rfl z)
        rw [dj,qf_bad r3 hE] at inv
        rw [inv] at k
        exact ⟨_,rfl,raise_says k⟩
       | some d2 =>
        refine ite2 (fun z=>absurd z Bool.false_ne_true) (fun _=>?_)
        refine ⟨_,rfl,_,rfl,a,_,_,_,rfl,rfl,hS',vb_get hb3,ra,escV,.inl (d.toNat:Int),_,rfl,dR,rfl,(by rw [esc_val,hE];rfl),?_⟩
        refine ⟨_,rfl,.inl ⟨rfl,_,SqL.of hl⟩,_,rfl,l,_,_,rfl,rfl,hl,small,?_⟩
        refine ⟨_,rfl,_,_,rfl,rfl,push d2 2 (by decide) (by omega) ?_⟩
        rw [dj,qf_esc r3 hE,← hr3]
     ·have n92:b≠92:=fun e=>k4 (decide_eq_true (by rw [(byte_eq (n:=92) (by decide)).mpr e];rfl))
      refine ⟨_,rfl,.inl ⟨rfl,_,SqL.of hl⟩,_,rfl,l,_,_,rfl,rfl,hl,small,?_⟩
      refine ⟨_,rfl,_,_,rfl,rfl,push b 1 (by decide) (by omega) ?_⟩
      rw [hd2,qf_plain r2 n34 n10 n92,hr2]
    ·have e10:b=10:=(byte_eq (n:=10) (by decide)).mp (by
      have:decide (V.int (b.toNat:Int)=V.int 10)=true:=by simpa using k3
      have:=of_decide_eq_true this
      injection this)
     exact fin (.inr (.inr (e10▸hb)))
   ·have e34:b=34:=(byte_eq (n:=34) (by decide)).mp (by
     have:decide (V.int (b.toNat:Int)=V.int 34)=true:=by simpa using k2
     have:=of_decide_eq_true this
     injection this)
    refine ite2 (fun z=>absurd z (by decide)) (fun _=>?_)
    exact fin (.inr (.inl (e34▸hb)))
  ·refine ite2 (fun z=>absurd z (by decide)) (fun _=>?_)
   refine fin (.inl ?_)
   have:¬ ((j:Int) < ((vb t).length:Int)):=fun z=>k1 (decide_eq_true z)
   rw [vb_len] at this
   omega
 case fin =>
  intro e
  refine ⟨_,rfl,_,rfl,a,_,rfl,.inl hS',rfl,_,rfl,ite2 (fun k1=>?_) (fun k1=>?_)⟩
  ·have ej:j=t.length:=by
    have:=of_decide_eq_true k1
    injection this with this
    rw [vb_len] at this
    omega
   rw [ej,List.drop_length] at inv
   rw [inv] at k
   exact ⟨_,rfl,raise_says k⟩
  ·have hlt:j < t.length:=by
    have:¬ (j=t.length):=fun z=>k1 (decide_eq_true (by rw [vb_len,← z]))
    omega
   obtain ⟨b,r2,hd2,hb,hr2⟩:=drop_get hlt
   refine ⟨_,rfl,_,rfl,a,_,_,_,rfl,rfl,hS',vb_get hb,rfl,_,rfl,ite2 (fun k2=>?_) (fun k2=>?_)⟩
   ·have e10:b=10:=(byte_eq (n:=10) (by decide)).mp (by have:=of_decide_eq_true k2;injection this)
    rw [hd2,e10,qf_line] at inv
    rw [inv] at k
    exact ⟨_,rfl,raise_says k⟩
   ·have n10:b≠10:=fun e=>k2 (decide_eq_true (by rw [(byte_eq (n:=10) (by decide)).mpr e];rfl))
    have e34:b=34:=by
     rw [hb] at e
     rcases e with e | e | e
     ·omega
     ·exact Option.some.inj e
     ·exact absurd (Option.some.inj e) n10
    rw [hd2,e34,qf_end] at inv
    rw [inv] at k
    refine ⟨_,rfl,_,rfl,_,_,rfl,rfl,_,rfl,fun x dx nx ndx ne=>⟨x,dx,_,_,_,_,rfl,upd_same,fun H2 b e=>⟨rfl,k x H2 (sm.trans (But.same nx ndx b)) ⟨dx,.ref l,?_,?_⟩⟩⟩⟩
    ·have ee:((j:Int) + 1)=((q + (j - (q + 1) + 1 + 1):Nat):Int):=by omega
     rw [ee] at e
     exact cut_new rfl (none_of_same sm nx) e
    ·exact ⟨l,rfl,cut_new rfl nl (But.same nx ndx b _ _ (by show H' l=some (.lst (vb (sd ++ [])));rw [List.append_nil];exact hl))⟩
end
end Prg
end
section
set_option maxRecDepth 100000
set_option maxHeartbeats 4000000
namespace Prg
open PySem L2
open Vanbka (Bytes Lex reserved lexAt digit letter wordByte natOf quotedFrom doubleSigns singleSigns)
def keyB(u:Bytes):List Key:=u.map fun c=>Sum.inl (c.toNat:Int)
theorem keyB_vb(u:Bytes):(keyB u).map kV=vb u:=by
 unfold keyB vb
 rw [List.map_map]
 rfl
theorem keyB_inj{u v:Bytes}(h:keyB u=keyB v):u=v:=by
 refine (List.map_inj_right (fun a b q=>?_)).mp h
 injection q with q
 exact UInt8.toNat_inj.mp (by omega)
def twoV:List (List Key×V):=doubleSigns.map fun x=>(keyB x,V.str (strOf x))
theorem two_val(u:Bytes):valV twoV (keyB u)=if doubleSigns.contains u then some (.str (strOf u)) else none:=by
 have key:∀ l:List Bytes,valV (l.map fun x=>(keyB x,V.str (strOf x))) (keyB u)=if l.contains u then some (.str (strOf u)) else none:=by
  intro l
  induction l with
  | nil=>rfl
  | cons x l ih =>
   rw [List.map_cons,List.contains_cons]
   by_cases e:u=x
   ·subst e
    rw [valV_pos rfl]
    simp
   ·rw [valV_neg (fun z=>e (keyB_inj z).symm),ih,beq_eq_false_iff_ne.mpr e,Bool.false_or]
 exact key doubleSigns
def oneV:List (Key×V):=[(.inl 37,.str "percent"),(.inl 40,.str "("),(.inl 41,.str ")"),(.inl 42,.str "*"),(.inl 43,.str "+"),(.inl 44,.str ","),(.inl 45,.str "-"),(.inl 46,.str "."),(.inl 47,.str "/"),(.inl 58,.str ":"),(.inl 59,.str ";"),
 (.inl 60,.str "<"),(.inl 61,.str "="),(.inl 62,.str ">"),(.inl 63,.str "?"),(.inl 91,.str "["),(.inl 93,.str "]"),(.inl 123,.str "{"),(.inl 125,.str "}")]
theorem one_all:∀ n:Fin 256,valV oneV (.inl ((n.val:Nat):Int))=if singleSigns.contains (UInt8.ofNat n.val) then some (.str (kindS (.sign [UInt8.ofNat n.val]))) else none:=by decide +kernel
theorem one_val(c:UInt8):valV oneV (.inl (c.toNat:Int))=if singleSigns.contains c then some (.str (kindS (.sign [c]))) else none:=by
 have h:=one_all ⟨c.toNat,c.toNat_lt⟩
 have e:UInt8.ofNat c.toNat=c:=by simp
 simp only [e] at h
 exact h
theorem two_kind{u:Bytes}(h:doubleSigns.contains u=true):kindS (.sign u)=strOf u:=by
 have m:u∈doubleSigns:=by simpa using h
 have key:∀ x∈doubleSigns,kindS (.sign x)=strOf x:=by decide +kernel
 exact key u m
theorem cut_vb2{t:Bytes}{q:Nat}(h:q≤t.length):cutV (vb t) (some (q:Int)) (some ((q:Int) + 2))=vb ((t.drop q).take 2):=by
 have e:((q:Int) + 2)=((q + 2:Nat):Int):=by omega
 unfold cutV
 rw [e,HT.sIx_nat,HT.sIx_nat,vb_len,Nat.min_eq_left h]
 unfold vb
 rw [← List.map_drop,← List.map_take]
 congr 1
 by_cases c:q + 2≤t.length
 ·rw [Nat.min_eq_left c]
  congr 1
  omega
 ·rw [Nat.min_eq_right (by omega),List.take_of_length_le (by rw [List.length_drop];omega),List.take_of_length_le (by rw [List.length_drop];omega)]
section
variable{P:Program}{w:World}{K:PySem.W.Frag}{mg:Str→Option Value}{base:Heap}{f g g2 CF fI CT tI:Addr}{fd gd gd2 fdI tdI:FuncData}
def KDT(P:Program)(w:World)(K:PySem.W.Frag)(mg:Str→Option Value)(x:Str)(kvs:List (List Key×V)):Prop:=∃ a,mg x=some (.ref a)∧KDicT P w K a kvs
theorem scSign:FnScope ["text", "place", "pair"] ["text", "place"] (defScope sCutSign):=⟨rfl,rfl,rfl,by decide +kernel,rfl,by decide +kernel,by decide +kernel⟩
theorem ok_sign(F:Fun K "cut_sign" "cut_sign" sCutSign f fd)(T:FaultAt K mg CF fI fdI)(U:TokenAt K mg CT tI tdI)(mt:mg "tuple"=none)(R2:KDT P w K mg "TWO_BYTE_SIGNS" twoV)(R1:KD w K mg "ONE_BYTE_SIGNS" oneV)(c4:CI mg "WRONG_TOKEN" 2) :
  FnOk P w K mg base (CXF P w) 3 f fd ["text", "place"] (spCut K CF CT fun c=>letter c=false∧digit c=false∧c≠34):=by
 refine F.okF (k:=2) scSign (fun vs H Q E h=>?_) (fun cdv A outer s H vs Q E hr h=>?_)
 ·obtain ⟨a,t,r,q,c,rfl,_⟩:=h
  rfl
 obtain ⟨a,t,r,q,c,rfl,hS,hlen,hd,⟨n1,n2,n3⟩,k⟩:=h
 obtain ⟨a2,m2,d2⟩:=R2
 obtain ⟨a1,m1,d1⟩:=R1
 have nd:=scSign.nd
 have hu:=hu_of hr
 refine ⟨_,pss_cons (ps_set (i:=2) nd rfl (Or.inl rfl) (pe_callTy call_tuple_of rfl mt rfl (pa_cons (pe_slice sl_list (pv 0) (po_some (pv 1)) (po_some (pe_op op_add (pv 1) pe_int))) pa_nil)))
  (pss_cons (ps_if (pt_cmpR (op_inKT hu) (pv 2) (pe_cr m2 rfl) rfl)
   (pss_one (ps_ret (pe_make U.make (ok_TI U) hr rfl U.c.m U.b .nil passF (pa_cons (pe_dgetKT hu (pe_cr m2 rfl) (pv 2) (fun _ _=>rfl)) (pa_cons (pv 1) (pa_cons (pe_op op_add (pv 1) pe_int) (pa_cons pe_non pa_nil))))))) pss_nil)
  (pss_cons (ps_if (pt_cmpR op_inK (pe_ix ix_list (pv 0) (pv 1) (fun _ _=>rfl)) (pe_cr m1 rfl) rfl)
   (pss_one (ps_ret (pe_make U.make (ok_TI U) hr rfl U.c.m U.b .nil passF (pa_cons (pe_dgetK (pe_cr m1 rfl) (pe_ix ix_list (pv 0) (pv 1) (fun _ _=>rfl)) (fun _ _=>rfl)) (pa_cons (pv 1) (pa_cons (pe_op op_add (pv 1) pe_int) (pa_cons pe_non pa_nil))))))) pss_nil)
  (pss_one (ps_fault T hr rfl (pa_cons (pe_ci c4 rfl) (pa_cons (pv 1) pa_nil)))))),?_⟩
 have hq:q < t.length:=(Cell.drop_one hd).2
 have hc:t[q]? = some c:=get_drop hd
 have lx:lexAt (t.drop q)=if doubleSigns.contains ((t.drop q).take 2) then some (.sign ((t.drop q).take 2),2) else if singleSigns.contains c then some (.sign [c],1) else none:=by
  rw [hd]
  show (if letter c then _ else if digit c then _ else if c == 34 then _ else _)=_
  rw [n1,n2,beq_eq_false_iff_ne.mpr n3]
  rfl
 rw [lx] at k
 refine ⟨_,rfl,_,rfl,_,rfl,_,rfl,_,_,rfl,rfl,_,rfl,a,_,rfl,hS,fun p np=>?_⟩
 rw [cut_vb2 (by omega)]
 refine ⟨p,_,rfl,.inl ⟨SqL.of upd_same,fun l nl=>?_⟩⟩
 have sm:Same H (upd (upd H p (.lst (vb ((t.drop q).take 2)))) l (.tup (vb ((t.drop q).take 2)))):=(same_new np _).trans (same_new nl _)
 have hS':=sm.seq hS
 have hl:(upd (upd H p (.lst (vb ((t.drop q).take 2)))) l (.tup (vb ((t.drop q).take 2)))) l=some (.tup ((keyB ((t.drop q).take 2)).map kV)):=by rw [upd_same,keyB_vb]
 refine ⟨_,rfl,a2,twoV,l,_,rfl,d2,rfl,hl,_,rfl,?_⟩
 rw [two_val]
 by_cases cD:doubleSigns.contains ((t.drop q).take 2)=true
 ·rw [if_pos cD] at k ⊢
  refine ite2 (fun _=>?_) (fun z=>absurd rfl z)
  refine ⟨_,rfl,a2,twoV,l,_,_,rfl,d2,rfl,hl,(by rw [two_val,if_pos cD]),_,rfl,_,rfl,_,_,rfl,rfl,fun x dx nx ndx ne=>⟨x,dx,_,_,_,_,rfl,upd_same,fun H2 b e=>⟨rfl,k x H2 (sm.trans (But.same nx ndx b)) ⟨dx,.non,?_,rfl⟩⟩⟩⟩
  show Cut noH H H2 x=some (.ins CT dx (tokF (kindS (.sign _)) _ _ _))
  rw [two_kind cD]
  exact cut_new rfl (none_of_same sm nx) e
 ·rw [if_neg cD] at k ⊢
  refine ite2 (fun z=>absurd z Bool.false_ne_true) (fun _=>?_)
  refine ⟨_,rfl,_,rfl,a,_,_,_,rfl,rfl,hS',vb_get hc,a1,oneV,.inl (c.toNat:Int),rfl,d1,rfl,_,rfl,?_⟩
  rw [if_neg Bool.false_ne_true,one_val]
  by_cases cS:singleSigns.contains c=true
  ·rw [if_pos cS] at k ⊢
   refine ite2 (fun _=>?_) (fun z=>absurd rfl z)
   refine ⟨_,rfl,_,rfl,a,_,_,_,rfl,rfl,hS',vb_get hc,a1,oneV,.inl (c.toNat:Int),_,rfl,d1,rfl,(by rw [one_val,if_pos cS]),_,rfl,_,rfl,_,_,rfl,rfl,fun x dx nx ndx ne=>⟨x,dx,_,_,_,_,rfl,upd_same,fun H2 b e=>⟨rfl,k x H2 (sm.trans (But.same nx ndx b)) ⟨dx,.non,cut_new rfl (none_of_same sm nx) e,rfl⟩⟩⟩⟩
  ·rw [if_neg cS] at k ⊢
   refine ite2 (fun z=>absurd z Bool.false_ne_true) (fun _=>?_)
   exact ⟨_,rfl,raise_says k⟩
end
end Prg
end
section
set_option maxRecDepth 100000
set_option maxHeartbeats 4000000
namespace Prg
open PySem L2
open Vanbka (Bytes Lex reserved lexAt digit letter wordByte natOf quotedFrom doubleSigns singleSigns)
def Has(P:Program)(w:World)(K:PySem.W.Frag)(mg:Str→Option Value)(base:Heap)(k:Nat)(x:Str)(ps:List Str)(sp:Sp):Prop :=
 ∃ f fd,FnOk P w K mg base (CXF P w) k f fd ps sp∧Binds K fd ps []∧PySem.W.keepIn K (.ref f)=true∧mg x=some (.ref f)
theorem pe_has{P:Program}{w:World}{K:PySem.W.Frag}{mg:Str→Option Value}{base:Heap}{k j:Nat}{x:Str}{ps:List Str}{sp:Sp}{N:List Str}{qual:Str}{scope:Scope}{f:Addr}{cd:Value}{A:Around}{outer:List Env}{s:Shared}{H:Hp}{E:XK}{e:PySem.Expr}{es:List PySem.Expr}{t:TA}{p pos:Pos}
  (G:Has P w K mg base k x ps sp) (hr:Room j (cxOf (CXF P w) P w K mg base N qual scope f cd A outer s H E).A) (hg:Gl (cxOf (CXF P w) P w K mg base N qual scope f cd A outer s H E) x) (ha:PA (cxOf (CXF P w) P w K mg base N qual scope f cd A outer s H E) (e::es) t)
  (hj:k≤j:=by decide) (hdb:(x == ("__debug__":Str))=false:=by decide)
  (he:starEach (e::es) (cxOf (CXF P w) P w K mg base N qual scope f cd A outer s H E).env=(false,eval e (cxOf (CXF P w) P w K mg base N qual scope f cd A outer s H E).env)::starEach es (cxOf (CXF P w) P w K mg base N qual scope f cd A outer s H E).env:=by rfl)
  (hpl:(backTo pos (starEach es (cxOf (CXF P w) P w K mg base N qual scope f cd A outer s H E).env)).any (·.1)=false:=by rfl) :
  PE (cxOf (CXF P w) P w K mg base N qual scope f cd A outer s H E) (.Call (.Name x p) (e::es) [] pos) (tCall sp [] E t):=by
 obtain ⟨f',fd,F,b,kp,m⟩:=G
 exact pe_call F (hr.mono hj) hg m kp b .nil passF ha hdb he hpl
def Known(K:PySem.W.Frag)(mg:Str→Option Value)(x:Str)(ps:List Str)(st:PySem.Stmt):Prop:=∃ f fd,Fun K x x st f fd∧Binds K fd ps []∧PySem.W.keepIn K (.ref f)=true∧mg x=some (.ref f)
def EndAt(CT:Addr)(H:Hp)(x:Addr)(n:Nat):Prop:=∃ dx,H x=some (.ins CT dx (tokF "END" (n:Int) (n:Int) .non))
def TokO(CT:Addr)(H:Hp)(n:Nat)(x:Addr):Option Vanbka.Tok→Prop
 | some t=>TokAt CT H x t
 | none=>EndAt CT H x n
def ToksAt(CT:Addr)(H:Hp)(l:Addr)(ts:List Vanbka.Tok)(n:Nat):Prop:=∃ xs:List Addr,H l=some (.lst (xs.map V.ref))∧Paired (TokO CT H n) xs (ts.map some ++ [none])
def TokL(CT:Addr)(H:Hp)(l:Addr)(ts:List Vanbka.Tok):Prop:=∃ xs:List Addr,H l=some (.lst (xs.map V.ref))∧Paired (TokAt CT H) xs ts
theorem TokL.same{CT:Addr}{H H':Hp}(s:Same H H'){l:Addr}{ts:List Vanbka.Tok}(h:TokL CT H l ts):TokL CT H' l ts:=by
 obtain ⟨xs,e,p⟩:=h
 exact ⟨xs,s _ _ e,Paired.mapP p fun _ _ z=>z.same s⟩
theorem Paired.snoc{α β:Type}{F:α→β→Prop}:∀ {l₁:List α} {l₂:List β} {a:α} {b:β},Paired F l₁ l₂→F a b→Paired F (l₁ ++ [a]) (l₂ ++ [b])
 | _,_,_,_,.nil,h=>.cons h .nil
 | _,_,_,_,.cons r t,h=>.cons r (Paired.snoc t h)
theorem Paired.len{α β:Type}{F:α→β→Prop}:∀ {l₁:List α} {l₂:List β},Paired F l₁ l₂→l₁.length=l₂.length
 | _,_,.nil=>rfl
 | _,_,.cons _ t=>by rw [List.length_cons,List.length_cons,Paired.len t]
theorem Paired.get{α β:Type}{F:α→β→Prop}:∀ {l₁:List α} {l₂:List β} {i:Nat} {b:β},Paired F l₁ l₂→l₂[i]? = some b→∃ a,l₁[i]? = some a∧F a b
 | _,_,_,_,.nil,h=>by simp at h
 | _,_,0,_,.cons r t,h=>by cases h;exact ⟨_,rfl,r⟩
 | _,_,i + 1,_,.cons r t,h=>by
  obtain ⟨a,e,q⟩:=Paired.get (i:=i) t (by simpa using h)
  exact ⟨a,by simpa using e,q⟩
theorem Paired.mapR{α β γ:Type}{F:α→β→Prop}{G:α→γ→Prop}{g:β→γ}(h:∀ a b,F a b→G a (g b)):∀ {l₁:List α} {l₂:List β},Paired F l₁ l₂→Paired G l₁ (l₂.map g)
 | _,_,.nil=>.nil
 | _,_,.cons r t=>.cons (h _ _ r) (Paired.mapR h t)
theorem cut_grow{T H0 H1 H2 H3:Hp}(h1:∀ b,H1 b=none→H0 b=none)(h2:∀ b o,H1 b=none→H2 b=some o→H3 b=some o):Same (Cut T H1 H2) (Cut T H0 H3):=fun b o e=>by
 rcases cut_cases e with z | ⟨z1,z2,z3⟩
 ·exact cut_old z
 ·exact cut_new z1 (h1 b z2) (h2 b o z2 z3)
section
variable{P:Program}{w:World}{K:PySem.W.Frag}{mg:Str→Option Value}{base:Heap}{f g g2 CF fI CT tI:Addr}{fd gd gd2 fdI tdI:FuncData}
theorem scTok:FnScope ["text", "place", "byte"] ["text", "place"] (defScope sCutToken):=⟨rfl,rfl,rfl,by decide +kernel,rfl,by decide +kernel,by decide +kernel⟩
theorem ok_tok(F:Fun K "cut_token" "cut_token" sCutToken f fd)(D:Has P w K mg base 1 "is_digit" ["byte"] spDigit)(W:Has P w K mg base 2 "is_word_byte" ["byte"] spWordB)
  (G1:Has P w K mg base 3 "cut_number" ["text", "place"] (spCut K CF CT fun c=>digit c=true)) (G2:Has P w K mg base 3 "cut_word" ["text", "place"] (spCut K CF CT fun c=>letter c=true))
  (G3:Has P w K mg base 3 "cut_quoted" ["text", "place"] (spCut K CF CT fun c=>c=34)) (G4:Has P w K mg base 3 "cut_sign" ["text", "place"] (spCut K CF CT fun c=>letter c=false∧digit c=false∧c≠34)) (c1:CI mg "QUOTE" 34) :
  FnOk P w K mg base (CXF P w) 4 f fd ["text", "place"] (spCut K CF CT fun _=>True):=by
 refine F.okF (k:=3) scTok (fun vs H Q E h=>?_) (fun cdv A outer s H vs Q E hr h=>?_)
 ·obtain ⟨a,t,r,q,c,rfl,_⟩:=h
  rfl
 obtain ⟨a,t,r,q,c,rfl,hS,hlen,hd,_,k⟩:=h
 have nd:=scTok.nd
 refine ⟨_,pss_cons (ps_set (i:=2) nd rfl (Or.inl rfl) (pe_ix ix_list (pv 0) (pv 1) (fun _ _=>rfl)))
  (pss_cons (ps_if (pt_val (pe_has D hr rfl (pa_cons (pv 2) pa_nil))) (pss_one (ps_ret (pe_has G1 hr rfl (pa_cons (pv 0) (pa_cons (pv 1) pa_nil))))) pss_nil)
  (pss_cons (ps_if (pt_val (pe_has W hr rfl (pa_cons (pv 2) pa_nil))) (pss_one (ps_ret (pe_has G2 hr rfl (pa_cons (pv 0) (pa_cons (pv 1) pa_nil))))) pss_nil)
  (pss_cons (ps_if (pt_cmpR op_eq (pv 2) (pe_ci c1 rfl) (nomark _)) (pss_one (ps_ret (pe_has G3 hr rfl (pa_cons (pv 0) (pa_cons (pv 1) pa_nil))))) pss_nil)
  (pss_one (ps_ret (pe_has G4 hr rfl (pa_cons (pv 0) (pa_cons (pv 1) pa_nil)))))))),?_⟩
 have hc:t[q]? = some c:=get_drop hd
 refine ⟨_,rfl,_,rfl,a,_,_,_,rfl,rfl,hS,vb_get hc,?_⟩
 refine ⟨_,rfl,_,rfl,_,rfl,?_⟩
 rw [digit_byte]
 refine ite2 (fun k1=>?_) (fun k1=>?_)
 ·exact ⟨_,rfl,_,rfl,a,t,r,q,c,rfl,hS,hlen,hd,k1,k⟩
 refine ⟨_,rfl,_,rfl,_,rfl,?_⟩
 rw [word_byte]
 have n1:=Bool.eq_false_iff.mpr k1
 refine ite2 (fun k2=>?_) (fun k2=>?_)
 ·have lc:letter c=true:=by
   unfold wordByte at k2
   rw [n1,Bool.or_false] at k2
   exact k2
  exact ⟨_,rfl,_,rfl,a,t,r,q,c,rfl,hS,hlen,hd,lc,k⟩
 have lc:letter c=false:=by
  have z:=Bool.eq_false_iff.mpr k2
  unfold wordByte at z
  exact (Bool.or_eq_false_iff.mp z).1
 refine ⟨_,rfl,rfl,_,rfl,ite2 (fun k3=>?_) (fun k3=>?_)⟩
 ·have e:c=34:=(byte_eq (n:=34) (by decide)).mp (by have:=of_decide_eq_true k3;injection this)
  exact ⟨_,rfl,_,rfl,a,t,r,q,c,rfl,hS,hlen,hd,e,k⟩
 ·have n3:c≠34:=fun e=>k3 (decide_eq_true (by rw [(byte_eq (n:=34) (by decide)).mpr e];rfl))
  exact ⟨_,rfl,_,rfl,a,t,r,q,c,rfl,hS,hlen,hd,⟨lc,n1,n3⟩,k⟩
def spTokens(K:PySem.W.Frag)(CF CT:Addr):Sp:=fun vs H Q E=>∃ (a:Addr) (t:Bytes),vs=[.ref a]∧SqL K H a (vb t)∧t.length≤900000∧match Vanbka.tokens t with
 | .error p=>Err CF E 2 (p:Int)
 | .ok ts=>∀ l H',Same H H'→TokL CT (Cut noH H H') l ts→Q (.ref l) H'
theorem scToks:FnScope ["text", "tokens", "place", "token"] ["text"] (defScope sCutTokens):=⟨rfl,rfl,rfl,by decide +kernel,rfl,by decide +kernel,by decide +kernel⟩
theorem ok_toks(F:Fun K "cut_tokens" "cut_tokens" sCutTokens f fd)(U:TokenAt K mg CT tI tdI)(G1:Has P w K mg base 1 "pass_over" ["text", "place"] (spPass K))(G2:Has P w K mg base 4 "cut_token" ["text", "place"] (spCut K CF CT fun _=>True))(ml:mg "len"=none) :
  FnOk P w K mg base (CXF P w) 5 f fd ["text"] (spTokens K CF CT):=by
 refine F.okF (k:=4) scToks (fun vs H Q E h=>?_) (fun cdv A outer s H vs Q E hr h=>?_)
 ·obtain ⟨a,t,rfl,_⟩:=h
  rfl
 obtain ⟨a,t,rfl,hS,hlen,k⟩:=h
 have nd:=scToks.nd
 refine ⟨_,pss_cons (ps_set (i:=1) nd rfl (Or.inl rfl) (pe_lst pa_nil))
  (pss_cons (ps_set (i:=2) nd rfl (Or.inl rfl) (pe_has G1 hr rfl (pa_cons (pv 0) (pa_cons pe_int pa_nil))))
  (pss_cons (ps_while ownF (pt_cmpR op_lt (pv 2) (pe_callB call_len_seq rfl ml PySem.boot_len (pa_cons (pv 0) pa_nil)) (nomark _))
   (pss_cons (ps_set (i:=3) nd rfl (Or.inl rfl) (pe_has G2 hr rfl (pa_cons (pv 0) (pa_cons (pv 2) pa_nil))))
   (pss_cons (ps_expr (pe_bm PySem.F.plainAttrs_list PySem.F.slot_list_append PySem.F.type_list_append mt_append (pv 1) (pa_cons (pv 3) pa_nil)))
   (pss_one (ps_set (i:=2) nd rfl (Or.inl rfl) (pe_has G1 hr rfl (pa_cons (pv 0) (pa_cons (pe_fld (pv 3) rfl) pa_nil))))))))
  (pss_one (ps_ret (pv 1))))),?_⟩
 refine ⟨by decide,fun l nl=>⟨_,rfl,a,t,0,rfl,(same_new nl _).seq hS,Nat.zero_le _,?_⟩⟩
 refine ⟨fun m σ H'=>Same H H'∧∃ (j:Nat) (done:List Vanbka.Tok) (xs:List Addr) (v3:Option V),σ=[some (.ref a),some (.ref l),some (.int (j:Int)),v3]∧H' l=some (.lst (xs.map V.ref))∧Paired (TokAt CT (Cut noH (upd H l (.lst [])) H')) xs done∧m=t.length - j∧j≤t.length∧xs.length≤j∧
   (t.drop j=[]∨∃ c r,t.drop j=c::r∧c≠10∧c≠32∧c≠35)∧Vanbka.tokens t=match Cell.tokAt t j with
    | .error p=>.error p
    | .ok ts=>.ok (done ++ ts),⟨_,same_new nl _,0 + Cell.skip false (t.drop 0),[],[],none,rfl,upd_same,.nil,rfl,?_,Nat.zero_le _,?_,?_⟩,?_⟩
 ·rw [Nat.zero_add];exact Cell.skip_le false t
 ·rw [Nat.zero_add,List.drop_zero];exact Cell.skip_end t false
 ·rw [Cell.tokens_eq,Cell.tokAt_pass t 0]
  cases Cell.tokAt t (0 + Cell.skip false (t.drop 0)) <;> rfl
 rintro m σ H' ⟨sm,j,done,xs,v3,rfl,hl,pr,rfl,hj,hxs,hcl,inv⟩
 have hS':=sm.seq hS
 have lb:∀ {X:Hp} {b:Addr},X b=none→X l≠none→b≠l:=fun h1 h2 z=>h2 (z▸h1)
 have hlo:∀ b,H' b=none→upd H l (.lst []) b=none:=fun b z=>by
  have:b≠l:=fun y=>by rw [y,hl] at z;cases z
  rw [upd_ne this]
  exact none_of_same sm z
 have small:(xs.map V.ref).length < sizeLine:=by
  rw [List.length_map]
  show xs.length < 2 ^ 24
  omega
 refine ⟨_,rfl,_,rfl,a,_,rfl,.inl hS',_,_,rfl,rfl,_,rfl,ite2 (fun k1=>?_) (fun k1=>?_)⟩
 ·have hlt:j < t.length:=by
   have:=of_decide_eq_true k1
   rw [vb_len] at this
   omega
  obtain ⟨c,r,hd,n1,n2,n3⟩:∃ c r,t.drop j=c::r∧c≠10∧c≠32∧c≠35:=by
   rcases hcl with z | z
   ·have:=congrArg List.length z
    rw [List.length_drop,List.length_nil] at this
    omega
   ·exact z
  have step:=Cell.tokAt_step hd n1 n2 n3
  refine ⟨fun σ' H2=>∃ m',m' < t.length - j∧(Same H H2∧∃ (j:Nat) (done:List Vanbka.Tok) (xs:List Addr) (v3:Option V),σ'=[some (.ref a),some (.ref l),some (.int (j:Int)),v3]∧H2 l=some (.lst (xs.map V.ref))∧Paired (TokAt CT (Cut noH (upd H l (.lst [])) H2)) xs done∧m'=t.length - j∧j≤t.length∧xs.length≤j∧
   (t.drop j=[]∨∃ c r,t.drop j=c::r∧c≠10∧c≠32∧c≠35)∧Vanbka.tokens t=match Cell.tokAt t j with
    | .error p=>.error p
    | .ok ts=>.ok (done ++ ts)),fun _ _ z=>z,?_⟩
  refine ⟨_,rfl,_,rfl,a,t,r,j,c,rfl,hS',hlen,hd,trivial,?_⟩
  cases hx:lexAt (t.drop j) with
  | none =>
   rw [hx] at step
   rw [step] at inv
   rw [inv] at k
   exact k
  | some y =>
   obtain ⟨lx,kk⟩:=y
   rw [hx] at step
   have kl:=Cell.lexAt_len hx
   rw [List.length_drop] at kl
   intro x H2 sm2 tk
   have hl2:H2 l=some (.lst (xs.map V.ref)):=sm2 _ _ hl
   obtain ⟨dx,v,ex,vx⟩:=tk
   rcases cut_cases ex with z | ⟨_,nx,ex2⟩
   ·cases z
   have xl:x≠l:=fun y=>by rw [y,hl] at nx;cases nx
   refine ⟨_,rfl,.inl ⟨rfl,_,SqL.of hl2⟩,_,rfl,l,_,_,rfl,rfl,hl2,small,?_⟩
   have sm3:Same H (upd H2 l (.lst (xs.map V.ref ++ [V.ref x]))):=same_upd (sm.trans sm2) nl
   refine ⟨_,rfl,_,rfl,x,CT,dx,_,_,rfl,by rw [upd_ne xl];exact ex2,U.c.cl,U.c.no _ (.tail _ (.tail _ (.head _))),rfl,a,t,j + kk,rfl,sm3.seq hS,by omega,?_⟩
   have q1:j + kk + Cell.skip false (t.drop (j + kk))≤t.length:=by
    have:=Cell.skip_le false (t.drop (j + kk))
    rw [List.length_drop] at this
    omega
   have g1:Same (Cut noH (upd H l (.lst [])) H') (Cut noH (upd H l (.lst [])) (upd H2 l (.lst (xs.map V.ref ++ [V.ref x])))):=cut_grow (fun _ z=>z) fun b o z1 z2=>by
    have bl:b≠l:=fun y=>by rw [y,upd_same] at z1;cases z1
    rw [upd_ne bl]
    exact sm2 _ _ z2
   have g2:Same (Cut noH H' H2) (Cut noH (upd H l (.lst [])) (upd H2 l (.lst (xs.map V.ref ++ [V.ref x])))):=cut_grow hlo fun b o z1 z2=>by
    have bl:b≠l:=fun y=>by rw [y,hl] at z1;cases z1
    rw [upd_ne bl]
    exact z2
   refine ⟨t.length - (j + kk + Cell.skip false (t.drop (j + kk))),by omega,sm3,j + kk + Cell.skip false (t.drop (j + kk)),done ++ [{ lex:=lx,place:=j,len:=kk }],xs ++ [x],_,rfl,by rw [upd_same,List.map_append];rfl,
    Paired.snoc (Paired.mapP pr fun _ _ z=>z.same g1) (TokAt.same g2 ⟨dx,v,ex,vx⟩),rfl,q1,by rw [List.length_append,List.length_singleton];omega,?_,?_⟩
   ·rw [← List.drop_drop];exact Cell.skip_end _ false
   ·rw [inv,step,← Cell.tokAt_pass]
    dsimp only
    cases Cell.tokAt t (j + kk) with
    | error z=>rfl
    | ok ts =>
     show Except.ok (done ++ _::ts)=Except.ok ((done ++ [_]) ++ ts)
     rw [List.append_assoc]
     rfl
 ·have ej:t.length≤j:=by
   have:¬ ((j:Int) < ((vb t).length:Int)):=fun z=>k1 (decide_eq_true z)
   rw [vb_len] at this
   omega
  rw [Cell.tokAt_end ej] at inv
  rw [inv] at k
  refine ⟨_,rfl,k l _ sm ⟨xs,cut_new rfl nl hl,?_⟩⟩
  rw [List.append_nil]
  have g1:Same (Cut noH (upd H l (.lst [])) H') (Cut noH H H'):=cut_grow (fun b z=>by
    have bl:b≠l:=fun y=>by rw [y,upd_same] at z;cases z
    rw [upd_ne bl] at z
    exact z) fun _ _ _ z2=>z2
  exact Paired.mapP pr fun _ _ z=>TokAt.same g1 z
end
end Prg
end
section
set_option maxRecDepth 100000
set_option maxHeartbeats 4000000
namespace Prg
open PySem L2
open Vanbka (Bytes Lex reserved lexAt digit letter wordByte natOf quotedFrom doubleSigns singleSigns isSign isWord next nameNext wordNext eat b halt_ tokensFrom placeAt tooDeepAt)
def fixedL:List Lex:=(doubleSigns.map Lex.sign ++ singleSigns.map fun c=>Lex.sign [c]) ++ reserved.map Lex.word
def Wf:Lex→Prop
 | .sign x=>Lex.sign x∈fixedL
 | _=>True
theorem fixed_inj:∀ l∈fixedL,∀ m∈fixedL,kindS l=kindS m→l=m:=by decide +kernel
theorem fixed_kind:∀ l∈fixedL,kindS l≠"NAME"∧kindS l≠"NUMBER"∧kindS l≠"QUOTED"∧kindS l≠"END":=by decide +kernel
theorem wf_cases{l:Lex}(h:Wf l):l∈fixedL∨(∃ x,l = .word x∧reserved.contains x=false)∨(∃ n,l = .num n)∨∃ x,l = .quoted x:=by
 cases l with
 | sign x=>exact .inl h
 | num n=>exact .inr (.inr (.inl ⟨n,rfl⟩))
 | quoted x=>exact .inr (.inr (.inr ⟨x,rfl⟩))
 | word x =>
  cases e:reserved.contains x with
  | true =>
   refine .inl (List.mem_append_right _ (List.mem_map.mpr ⟨x,by simpa using e,rfl⟩))
  | false=>exact .inr (.inl ⟨x,rfl,e⟩)
theorem kind_name{x:Bytes}(h:reserved.contains x=false):kindS (.word x) = "NAME":=by
 show (if reserved.contains x then _ else _)=_
 rw [h];rfl
theorem kind_fixed{l m:Lex}(h:Wf l)(hm:m∈fixedL):kindS l=kindS m↔l=m:=by
 constructor
 ·intro e
  rcases wf_cases h with z | ⟨x,rfl,z⟩ | ⟨n,rfl⟩ | ⟨x,rfl⟩
  ·exact fixed_inj l z m hm e
  ·rw [kind_name z] at e;exact absurd e.symm (fixed_kind m hm).1
  ·exact absurd e.symm (fixed_kind m hm).2.1
  ·exact absurd e.symm (fixed_kind m hm).2.2.1
 ·intro e;rw [e]
theorem kind_isName{l:Lex}(h:Wf l):kindS l = "NAME"↔∃ x,l = .word x∧reserved.contains x=false:=by
 constructor
 ·intro e
  rcases wf_cases h with z | z | ⟨n,rfl⟩ | ⟨x,rfl⟩
  ·exact absurd e (fixed_kind l z).1
  ·exact z
  ·exact absurd e (show ("NUMBER":Str)≠"NAME" by decide)
  ·exact absurd e (show ("QUOTED":Str)≠"NAME" by decide)
 ·rintro ⟨x,rfl,z⟩;exact kind_name z
theorem kind_isNum{l:Lex}(h:Wf l):kindS l = "NUMBER"↔∃ n,l = .num n:=by
 constructor
 ·intro e
  rcases wf_cases h with z | ⟨x,rfl,z⟩ | z | ⟨x,rfl⟩
  ·exact absurd e (fixed_kind l z).2.1
  ·rw [kind_name z] at e;exact absurd e (by decide)
  ·exact z
  ·exact absurd e (show ("QUOTED":Str)≠"NUMBER" by decide)
 ·rintro ⟨n,rfl⟩;rfl
theorem kind_isQuo{l:Lex}(h:Wf l):kindS l = "QUOTED"↔∃ x,l = .quoted x:=by
 constructor
 ·intro e
  rcases wf_cases h with z | ⟨x,rfl,z⟩ | ⟨n,rfl⟩ | z
  ·exact absurd e (fixed_kind l z).2.2.1
  ·rw [kind_name z] at e;exact absurd e (by decide)
  ·exact absurd e (show ("NUMBER":Str)≠"QUOTED" by decide)
  ·exact z
 ·rintro ⟨n,rfl⟩;rfl
theorem kind_noEnd{l:Lex}(h:Wf l):kindS l≠"END":=by
 rcases wf_cases h with z | ⟨x,rfl,z⟩ | ⟨n,rfl⟩ | ⟨x,rfl⟩
 ·exact (fixed_kind l z).2.2.2
 ·rw [kind_name z];decide
 ·exact (show ("NUMBER":Str)≠"END" by decide)
 ·exact (show ("QUOTED":Str)≠"END" by decide)
def headK(rs:List Vanbka.Tok):Str:=match rs with
 | [] => "END"
 | t::_=>kindS t.lex
abbrev WfL(rs:List Vanbka.Tok):Prop:=∀ t∈rs,Wf t.lex
theorem next_sign{s:String}{z:Str}{rs:List Vanbka.Tok}(h:WfL rs)(m:Lex.sign (b s)∈fixedL)(k:kindS (.sign (b s))=z):next (isSign s) rs=decide (headK rs=z):=by
 cases rs with
 | nil=>exact (decide_eq_false (fun e=>(fixed_kind _ m).2.2.2 (k.trans e.symm))).symm
 | cons t r =>
  show (t.lex == .sign (b s))=decide (kindS t.lex=z)
  rw [← k]
  have:=kind_fixed (h t (.head _)) m
  rw [decide_eq_decide.mpr this]
  rfl
theorem next_word{s:String}{z:Str}{rs:List Vanbka.Tok}(h:WfL rs)(m:Lex.word (b s)∈fixedL)(k:kindS (.word (b s))=z):next (isWord s) rs=decide (headK rs=z):=by
 cases rs with
 | nil=>exact (decide_eq_false (fun e=>(fixed_kind _ m).2.2.2 (k.trans e.symm))).symm
 | cons t r =>
  show (t.lex == .word (b s))=decide (kindS t.lex=z)
  rw [← k]
  have:=kind_fixed (h t (.head _)) m
  rw [decide_eq_decide.mpr this]
  rfl
theorem lexAt_wf{t:Bytes}{l:Lex}{k:Nat}(h:lexAt t=some (l,k)):Wf l:=by
 cases t with
 | nil=>cases h
 | cons c r =>
  unfold lexAt at h
  dsimp only at h
  split at h
  ·split at h
   ·cases h;trivial
   ·cases h
  split at h
  ·split at h
   ·cases h;trivial
   ·cases h
  split at h
  ·cases e:quotedFrom r with
   | none=>rw [e] at h;cases h
   | some x=>rw [e] at h;cases h;trivial
  split at h
  ·rename_i q
   cases h
   exact List.mem_append_left _ (List.mem_append_left _ (List.mem_map.mpr ⟨_,by simpa using q,rfl⟩))
  split at h
  ·rename_i q
   cases h
   exact List.mem_append_left _ (List.mem_append_right _ (List.mem_map.mpr ⟨_,by simpa using q,rfl⟩))
  ·cases h
theorem tokens_wf:∀ (n p:Nat) (t:Bytes) (ts:List Vanbka.Tok),tokensFrom n p t = .ok ts→WfL ts:=by
 intro n
 induction n with
 | zero=>intro p t ts h;cases h;intro x hx;cases hx
 | succ n ih =>
  intro p t ts h
  cases t with
  | nil=>cases h;intro x hx;cases hx
  | cons c r =>
   rw [tokensFrom] at h
   split at h
   ·exact ih _ _ _ h
   split at h
   ·exact ih _ _ _ h
   ·split at h
    ·cases h
    ·rename_i l k hl
     split at h
     ·cases h
     ·rename_i ts' hts
      cases h
      intro x hx
      rcases List.mem_cons.mp hx with z | z
      ·subst z;exact lexAt_wf hl
      ·exact ih _ _ _ hts x z
theorem tokens_len:∀ (n p:Nat) (t:Bytes) (ts:List Vanbka.Tok),Vanbka.tokensFrom n p t = .ok ts→ts.length≤t.length:=by
 intro n
 induction n with
 | zero=>intro p t ts h;cases h;exact Nat.zero_le _
 | succ n ih =>
  intro p t ts h
  cases t with
  | nil=>cases h;exact Nat.zero_le _
  | cons c r =>
   rw [Vanbka.tokensFrom] at h
   split at h
   ·have:=ih _ _ _ h
    rw [List.length_cons];omega
   split at h
   ·have:=ih _ _ _ h
    rw [List.length_drop] at this
    omega
   ·split at h
    ·cases h
    ·rename_i l k hl
     split at h
     ·cases h
     ·rename_i ts' hts
      cases h
      have:=ih _ _ _ hts
      have kl:=Cell.lexAt_len hl
      rw [List.length_drop] at this
      rw [List.length_cons]
      omega
end Prg
end
section
set_option maxRecDepth 100000
set_option maxHeartbeats 4000000
namespace Prg
open PySem L2
open Vanbka (Bytes Lex reserved isSign isWord next nameNext wordNext eat b halt_ placeAt tooDeepAt)
structure Tx where
 T:Hp
 lt:Addr
 all:List Vanbka.Tok
 len:Nat
 tr:∀ a C dx fs,T a=some (.ins C dx fs)→fs.lookup ("depth":Str)=none
structure RD(CT CR:Addr)(X:Tx)(rd:Addr)(H:Hp)(rs:List Vanbka.Tok):Prop where
 st:Same X.T H
 toks:ToksAt CT X.T X.lt X.all X.len
 wf:WfL X.all
 no:X.T rd=none
 ob:∃ dx pre,H rd=some (.ins CR dx [("tokens",.ref X.lt),("at",.int ((List.length pre:Nat):Int))])∧X.all=pre ++ rs
def TVal(T:Hp)(rs:List Vanbka.Tok)(v:V):Prop:=match rs with
 | []=>v = .non
 | t::_=>ValIs T t.lex v
def headP(n:Nat)(rs:List Vanbka.Tok):Nat:=match rs with
 | []=>n
 | t::_=>t.place
theorem place_of{all pre rs:List Vanbka.Tok}{n:Nat}(h:all=pre ++ rs):placeAt all n rs.length=headP n rs:=by
 subst h
 unfold placeAt
 rw [List.length_append,Nat.add_sub_cancel,List.drop_left]
 cases rs <;> rfl
section
variable{CT CR:Addr}{X:Tx}{rd:Addr}{H H':Hp}{rs:List Vanbka.Tok}
theorem RD.wfr(R:RD CT CR X rd H rs):WfL rs:=by
 obtain ⟨dx,pre,_,e⟩:=R.ob
 intro t ht
 exact R.wf t (by rw [e];exact List.mem_append_right _ ht)
theorem RD.item(R:RD CT CR X rd H rs):∃ (dx:Addr) (xs:List Addr) (i:Nat) (x:Addr) (e:Int) (v:V) (dt:Addr),H rd=some (.ins CR dx [("tokens",.ref X.lt),("at",.int (i:Int))])∧H X.lt=some (.lst (List.map V.ref xs))∧atI (List.map V.ref xs) (i:Int)=some (.ref x)∧
  H x=some (.ins CT dt (tokF (headK rs) (placeAt X.all X.len rs.length:Nat) e v))∧TVal X.T rs v∧X.all.length=i + rs.length:=by
 obtain ⟨dx,pre,h1,h2⟩:=R.ob
 obtain ⟨xs,h3,h4⟩:=R.toks
 have hp:placeAt X.all X.len rs.length=headP X.len rs:=place_of h2
 have hg:(X.all.map some ++ [none])[pre.length]? = some rs.head? := by
  rw [h2]
  cases rs with
  | nil=>simp
  | cons t r=>simp
 obtain ⟨x,hx,ht⟩:=Paired.get h4 hg
 have hxx:(List.map V.ref xs)[pre.length]? = some (.ref x):=by rw [List.getElem?_map,hx];rfl
 cases rs with
 | nil =>
  obtain ⟨dt,e⟩:=(show EndAt CT X.T x X.len from ht)
  refine ⟨dx,xs,pre.length,x,(X.len:Int),.non,dt,h1,R.st _ _ h3,atI_nat hxx,?_,rfl,by rw [h2,List.length_append]⟩
  rw [hp]
  exact R.st _ _ e
 | cons t r =>
  obtain ⟨dt,v,e,q⟩:=(show TokAt CT X.T x t from ht)
  refine ⟨dx,xs,pre.length,x,((t.place + t.len:Nat):Int),v,dt,h1,R.st _ _ h3,atI_nat hxx,?_,q,by rw [h2,List.length_append]⟩
  rw [hp]
  exact R.st _ _ e
theorem RD.item2{t:Vanbka.Tok}{r:List Vanbka.Tok}(R:RD CT CR X rd H (t::r)):∃ (dx:Addr) (xs:List Addr) (i:Nat) (x:Addr) (p e:Int) (v:V) (dt:Addr),H rd=some (.ins CR dx [("tokens",.ref X.lt),("at",.int (i:Int))])∧H X.lt=some (.lst (List.map V.ref xs))∧atI (List.map V.ref xs) ((i:Int) + 1)=some (.ref x)∧
  H x=some (.ins CT dt (tokF (headK r) p e v)):=by
 obtain ⟨dx,pre,h1,h2⟩:=R.ob
 obtain ⟨xs,h3,h4⟩:=R.toks
 have hg:(X.all.map some ++ [none])[pre.length + 1]? = some r.head? := by
  rw [h2]
  cases r with
  | nil=>simp
  | cons t r=>simp
 obtain ⟨x,hx,ht⟩:=Paired.get h4 hg
 have hxx:(List.map V.ref xs)[pre.length + 1]? = some (.ref x):=by rw [List.getElem?_map,hx];rfl
 cases r with
 | nil =>
  obtain ⟨dt,e⟩:=(show EndAt CT X.T x X.len from ht)
  exact ⟨dx,xs,pre.length,x,_,_,_,dt,h1,R.st _ _ h3,atI_nat hxx,R.st _ _ e⟩
 | cons t r =>
  obtain ⟨dt,v,e,q⟩:=(show TokAt CT X.T x t from ht)
  exact ⟨dx,xs,pre.length,x,_,_,_,dt,h1,R.st _ _ h3,atI_nat hxx,R.st _ _ e⟩
theorem RD.item3{t:Vanbka.Tok}{pre:List Vanbka.Tok}(R:RD CT CR X rd H rs)(h:X.all=pre ++ t::rs):∃ (dx:Addr) (xs:List Addr) (i:Nat) (x:Addr) (k:Str) (p:Int) (v:V) (dt:Addr),H rd=some (.ins CR dx [("tokens",.ref X.lt),("at",.int (i:Int))])∧H X.lt=some (.lst (List.map V.ref xs))∧atI (List.map V.ref xs) ((i:Int) - 1)=some (.ref x)∧
  H x=some (.ins CT dt (tokF k p ((t.place + t.len:Nat):Int) v)):=by
 obtain ⟨dx,pre',h1,h2⟩:=R.ob
 obtain ⟨xs,h3,h4⟩:=R.toks
 have hl:pre'.length=pre.length + 1:=by
  have:=congrArg List.length (h2.symm.trans h)
  rw [List.length_append,List.length_append,List.length_cons] at this
  omega
 have hg:(X.all.map some ++ [none])[pre.length]? = some (some t):=by
  rw [h]
  simp
 obtain ⟨x,hx,ht⟩:=Paired.get h4 hg
 have hxx:(List.map V.ref xs)[pre.length]? = some (.ref x):=by rw [List.getElem?_map,hx];rfl
 obtain ⟨dt,v,e,q⟩:=(show TokAt CT X.T x t from ht)
 refine ⟨dx,xs,pre'.length,x,_,_,v,dt,h1,R.st _ _ h3,?_,R.st _ _ e⟩
 have ei:((pre'.length:Nat):Int) - 1=((pre.length:Nat):Int):=by omega
 rw [ei]
 exact atI_nat hxx
theorem RD.front{H1:Hp}{r:List Vanbka.Tok}(R:RD CT CR X rd H rs)(R1:RD CT CR X rd H1 r)(h:r.length < rs.length):∃ pre t,X.all=pre ++ t::r:=by
 obtain ⟨_,p,_,e⟩:=R.ob
 obtain ⟨_,p1,_,e1⟩:=R1.ob
 have hl:p1≠[]:=fun z=>by
  have:=congrArg List.length (e.symm.trans e1)
  rw [z,List.length_append,List.length_append,List.length_nil] at this
  omega
 refine ⟨p1.dropLast,p1.getLast hl,?_⟩
 have:=List.dropLast_concat_getLast hl
 rw [e1]
 conv=>lhs;rw [← this]
 rw [List.append_assoc]
 rfl
theorem RD.same(R:RD CT CR X rd H rs)(s:Same H H'):RD CT CR X rd H' rs :=
 ⟨R.st.trans s,R.toks,R.wf,R.no,by obtain ⟨dx,pre,h1,h2⟩:=R.ob;exact ⟨dx,pre,s _ _ h1,h2⟩⟩
theorem RD.on{t:Vanbka.Tok}{r:List Vanbka.Tok}{dx:Addr}{i:Nat}(R:RD CT CR X rd H (t::r))(e:H rd=some (.ins CR dx [("tokens",.ref X.lt),("at",.int (i:Int))])) :
  But rd H (upd H rd (.ins CR dx [("tokens",.ref X.lt),("at",.int ((i:Int) + 1))]))∧RD CT CR X rd (upd H rd (.ins CR dx [("tokens",.ref X.lt),("at",.int ((i:Int) + 1))])) r:=by
 obtain ⟨dx',pre,h1,h2⟩:=R.ob
 rw [e] at h1
 injection h1 with h1
 injection h1 with h1 h3 h4
 have:i=pre.length:=by
  simp only [List.cons.injEq,Prod.mk.injEq,V.int.injEq,true_and,and_true] at h4
  omega
 subst this
 refine ⟨fun b o hb ne=>by rw [upd_ne ne];exact hb,⟨fun b o hb=>?_,R.toks,R.wf,R.no,dx,pre ++ [t],?_,by rw [h2];simp⟩⟩
 ·have:b≠rd:=fun z=>by rw [z,R.no] at hb;cases hb
  rw [upd_ne this]
  exact R.st _ _ hb
 ·rw [upd_same,List.length_append,List.length_singleton]
  rfl
end
section
variable{P:Program}{w:World}{K:PySem.W.Frag}{mg:Str→Option Value}{base:Heap}{f g g2 CF fI CT tI CR rI:Addr}{fd gd gd2 fdI tdI rdI:FuncData}
def HasM(P:Program)(w:World)(K:PySem.W.Frag)(mg:Str→Option Value)(base:Heap)(C:Addr)(k:Nat)(m:Str)(ps:List Str)(sp:Sp):Prop :=
 ∃ f fd,FnOk P w K mg base (CXF P w) k f fd ps sp∧Binds K fd ps []∧Meth K C m f
structure ReaderAt(K:PySem.W.Frag)(mg:Str→Option Value)(CR:Addr):Prop where
 c:ClsAt K mg "Reader" CR ["tokens", "at"]
def spLook(CT CR:Addr):Sp:=fun vs H Q _=>∃ X rd rs,vs=[.ref rd]∧RD CT CR X rd H rs∧Q (.str (headK rs)) H
def spBehind(CT CR:Addr):Sp:=fun vs H Q _=>∃ X rd t r,vs=[.ref rd]∧RD CT CR X rd H (t::r)∧Q (.str (headK r)) H
def spHere(CT CR:Addr):Sp:=fun vs H Q _=>∃ X rd rs,vs=[.ref rd]∧RD CT CR X rd H rs∧Q (.int (placeAt X.all X.len rs.length:Nat)) H
def spLast(CT CR:Addr):Sp:=fun vs H Q _=>∃ X rd rs t pre,vs=[.ref rd]∧RD CT CR X rd H rs∧X.all=pre ++ t::rs∧Q (.int ((t.place + t.len:Nat):Int)) H
def spMove(CT CR:Addr):Sp:=fun vs H Q _=>∃ X rd t r,vs=[.ref rd]∧RD CT CR X rd H (t::r)∧∀ H',But rd H H'→RD CT CR X rd H' r→Q (.str (kindS t.lex)) H'
def spTake(CF CT CR:Addr):Sp:=fun vs H Q E=>∃ X rd rs k,vs=[.ref rd,.str k]∧k≠"END"∧RD CT CR X rd H rs∧
 if headK rs=k then ∀ v H',But rd H H'→RD CT CR X rd H' (rs.drop 1)→TVal X.T rs v→Q v H' else Err CF E 4 (placeAt X.all X.len rs.length:Nat)
theorem scLook:FnScope ["self"] ["self"] (defScope sLook):=⟨rfl,rfl,rfl,by decide +kernel,rfl,by decide +kernel,by decide +kernel⟩
theorem ok_look(F:Fun K "look" "Reader.look" sLook f fd)(U:TokenAt K mg CT tI tdI)(Rd:ReaderAt K mg CR):FnOk P w K mg base (CXF P w) 1 f fd ["self"] (spLook CT CR):=by
 refine F.okF (k:=0) scLook (fun vs H Q E h=>?_) (fun cdv A outer s H vs Q E hr h=>?_)
 ·obtain ⟨X,rd,rs,rfl,_⟩:=h
  rfl
 obtain ⟨X,rd,rs,rfl,R,q⟩:=h
 refine ⟨_,pss_one (ps_ret (pe_fld (pe_ix ix_list (pe_fld (pv 0) rfl) (pe_fld (pv 0) rfl) (fun _ _=>rfl)) rfl)),?_⟩
 obtain ⟨dx,xs,i,x,e,v,dt,h1,h2,h3,h4,h5,h6⟩:=R.item
 exact ⟨_,rfl,rd,CR,dx,_,_,rfl,h1,Rd.c.cl,Rd.c.no _ (.head _),rfl,_,rfl,rd,CR,dx,_,_,rfl,h1,Rd.c.cl,Rd.c.no _ (.tail _ (.head _)),rfl,_,_,_,_,rfl,rfl,SqL.of h2,h3,x,CT,dt,_,_,rfl,h4,U.c.cl,U.c.no _ (.head _),rfl,q⟩
theorem scBehind:FnScope ["self"] ["self"] (defScope sLookBehind):=⟨rfl,rfl,rfl,by decide +kernel,rfl,by decide +kernel,by decide +kernel⟩
theorem ok_behind(F:Fun K "look_behind" "Reader.look_behind" sLookBehind f fd)(U:TokenAt K mg CT tI tdI)(Rd:ReaderAt K mg CR):FnOk P w K mg base (CXF P w) 1 f fd ["self"] (spBehind CT CR):=by
 refine F.okF (k:=0) scBehind (fun vs H Q E h=>?_) (fun cdv A outer s H vs Q E hr h=>?_)
 ·obtain ⟨X,rd,t,r,rfl,_⟩:=h
  rfl
 obtain ⟨X,rd,t,r,rfl,R,q⟩:=h
 refine ⟨_,pss_one (ps_ret (pe_fld (pe_ix ix_list (pe_fld (pv 0) rfl) (pe_op op_add (pe_fld (pv 0) rfl) pe_int) (fun _ _=>rfl)) rfl)),?_⟩
 obtain ⟨dx,xs,i,x,p,e,v,dt,h1,h2,h3,h4⟩:=R.item2
 exact ⟨_,rfl,rd,CR,dx,_,_,rfl,h1,Rd.c.cl,Rd.c.no _ (.head _),rfl,_,rfl,rd,CR,dx,_,_,rfl,h1,Rd.c.cl,Rd.c.no _ (.tail _ (.head _)),rfl,_,_,rfl,rfl,_,_,_,_,rfl,rfl,SqL.of h2,h3,x,CT,dt,_,_,rfl,h4,U.c.cl,U.c.no _ (.head _),rfl,q⟩
theorem scHere:FnScope ["self"] ["self"] (defScope sHere):=⟨rfl,rfl,rfl,by decide +kernel,rfl,by decide +kernel,by decide +kernel⟩
theorem ok_here(F:Fun K "here" "Reader.here" sHere f fd)(U:TokenAt K mg CT tI tdI)(Rd:ReaderAt K mg CR):FnOk P w K mg base (CXF P w) 1 f fd ["self"] (spHere CT CR):=by
 refine F.okF (k:=0) scHere (fun vs H Q E h=>?_) (fun cdv A outer s H vs Q E hr h=>?_)
 ·obtain ⟨X,rd,rs,rfl,_⟩:=h
  rfl
 obtain ⟨X,rd,rs,rfl,R,q⟩:=h
 refine ⟨_,pss_one (ps_ret (pe_fld (pe_ix ix_list (pe_fld (pv 0) rfl) (pe_fld (pv 0) rfl) (fun _ _=>rfl)) rfl)),?_⟩
 obtain ⟨dx,xs,i,x,e,v,dt,h1,h2,h3,h4,h5,h6⟩:=R.item
 exact ⟨_,rfl,rd,CR,dx,_,_,rfl,h1,Rd.c.cl,Rd.c.no _ (.head _),rfl,_,rfl,rd,CR,dx,_,_,rfl,h1,Rd.c.cl,Rd.c.no _ (.tail _ (.head _)),rfl,_,_,_,_,rfl,rfl,SqL.of h2,h3,x,CT,dt,_,_,rfl,h4,U.c.cl,U.c.no _ (.tail _ (.head _)),rfl,q⟩
theorem scLast:FnScope ["self"] ["self"] (defScope sBehindLast):=⟨rfl,rfl,rfl,by decide +kernel,rfl,by decide +kernel,by decide +kernel⟩
theorem ok_last(F:Fun K "behind_last" "Reader.behind_last" sBehindLast f fd)(U:TokenAt K mg CT tI tdI)(Rd:ReaderAt K mg CR):FnOk P w K mg base (CXF P w) 1 f fd ["self"] (spLast CT CR):=by
 refine F.okF (k:=0) scLast (fun vs H Q E h=>?_) (fun cdv A outer s H vs Q E hr h=>?_)
 ·obtain ⟨X,rd,rs,t,pre,rfl,_⟩:=h
  rfl
 obtain ⟨X,rd,rs,t,pre,rfl,R,ea,q⟩:=h
 refine ⟨_,pss_one (ps_ret (pe_fld (pe_ix ix_list (pe_fld (pv 0) rfl) (pe_op op_sub (pe_fld (pv 0) rfl) pe_int) (fun _ _=>rfl)) rfl)),?_⟩
 obtain ⟨dx,xs,i,x,k,p,v,dt,h1,h2,h3,h4⟩:=R.item3 ea
 exact ⟨_,rfl,rd,CR,dx,_,_,rfl,h1,Rd.c.cl,Rd.c.no _ (.head _),rfl,_,rfl,rd,CR,dx,_,_,rfl,h1,Rd.c.cl,Rd.c.no _ (.tail _ (.head _)),rfl,_,_,rfl,rfl,_,_,_,_,rfl,rfl,SqL.of h2,h3,x,CT,dt,_,_,rfl,h4,U.c.cl,U.c.no _ (.tail _ (.tail _ (.head _))),rfl,q⟩
theorem pe_hasM{k j:Nat}{m:Str}{ps:List Str}{sp:Sp}{N:List Str}{qual:Str}{scope:Scope}{f C:Addr}{cd:Value}{A:Around}{outer:List Env}{s:Shared}{H:Hp}{E:XK}{o e:PySem.Expr}{es:List PySem.Expr}{ta:TE}{t:TA}{apos pos:Pos}{pl:Sem Bool}
  (G:HasM P w K mg base C k m ps sp) (c:Cls K C) (hr:Room j (cxOf (CXF P w) P w K mg base N qual scope f cd A outer s H E).A) (ho:PE (cxOf (CXF P w) P w K mg base N qual scope f cd A outer s H E) o ta) (ha:PA (cxOf (CXF P w) P w K mg base N qual scope f cd A outer s H E) (e::es) t)
  (hj:k≤j:=by decide)
  (he:starEach (e::es) (cxOf (CXF P w) P w K mg base N qual scope f cd A outer s H E).env=(false,eval e (cxOf (CXF P w) P w K mg base N qual scope f cd A outer s H E).env)::starEach es (cxOf (CXF P w) P w K mg base N qual scope f cd A outer s H E).env:=by rfl)
  (hpl:(backTo pos (starEach es (cxOf (CXF P w) P w K mg base N qual scope f cd A outer s H E).env)).any (·.1)=false:=by rfl)
  (ht:eval (.Call (.Attribute o m apos) (e::es) [] pos) (cxOf (CXF P w) P w K mg base N qual scope f cd A outer s H E).env=(do
   let ov ← eval o (cxOf (CXF P w) P w K mg base N qual scope f cd A outer s H E).env
   standAt apos.atName
   let (fn,first) ← holding [ov] (getMethod ov m pl)
   callWith pos fn first (backTo pos (starEach (e::es) (cxOf (CXF P w) P w K mg base N qual scope f cd A outer s H E).env)) (backToKw pos (keywordEach [] (cxOf (CXF P w) P w K mg base N qual scope f cd A outer s H E).env))):=by rfl) :
  PE (cxOf (CXF P w) P w K mg base N qual scope f cd A outer s H E) (.Call (.Attribute o m apos) (e::es) [] pos) (tMeth C m sp [] E ta t):=by
 obtain ⟨f',fd,F,b,M⟩:=G
 exact pe_meth ho c M F (hr.mono hj) b .nil passF ha he hpl ht
theorem pe_hasM0{k j:Nat}{m:Str}{ps:List Str}{sp:Sp}{N:List Str}{qual:Str}{scope:Scope}{f C:Addr}{cd:Value}{A:Around}{outer:List Env}{s:Shared}{H:Hp}{E:XK}{o:PySem.Expr}{ta:TE}{apos pos:Pos}{pl:Sem Bool}
  (G:HasM P w K mg base C k m ps sp) (c:Cls K C) (hr:Room j (cxOf (CXF P w) P w K mg base N qual scope f cd A outer s H E).A) (ho:PE (cxOf (CXF P w) P w K mg base N qual scope f cd A outer s H E) o ta)
  (hj:k≤j:=by decide)
  (ht:eval (.Call (.Attribute o m apos) [] [] pos) (cxOf (CXF P w) P w K mg base N qual scope f cd A outer s H E).env=(do
   let ov ← eval o (cxOf (CXF P w) P w K mg base N qual scope f cd A outer s H E).env
   standAt apos.atName
   let (fn,first) ← holding [ov] (getMethod ov m pl)
   callWith pos fn first (backTo pos (starEach [] (cxOf (CXF P w) P w K mg base N qual scope f cd A outer s H E).env)) (backToKw pos (keywordEach [] (cxOf (CXF P w) P w K mg base N qual scope f cd A outer s H E).env))):=by rfl) :
  PE (cxOf (CXF P w) P w K mg base N qual scope f cd A outer s H E) (.Call (.Attribute o m apos) [] [] pos) (tMeth C m sp [] E ta tNil):=by
 obtain ⟨f',fd,F,b,M⟩:=G
 exact pe_meth0 ho c M F (hr.mono hj) b .nil passF ht
theorem rd_meth{m:Str}{sp:Sp}{E:XK}{i:Nat}{σ:St}{H:Hp}{Q:VK}{X:Tx}{rd:Addr}{rs:List Vanbka.Tok}{t:TA}(hi:σ[i]? = some (some (.ref rd)))(R:RD CT CR X rd H rs)(h:t σ H fun vs H2=>sp (.ref rd::(vs ++ [])) H2 Q E)
  (hm:(m == "tokens")=false:=by decide) (hm2:(m == "at")=false:=by decide):tMeth CR m sp [] E (tVar i) t σ H Q:=by
 obtain ⟨dx,pre,h1,_⟩:=R.ob
 refine ⟨_,hi,rd,dx,_,rfl,h1,?_,h⟩
 rw [List.lookup_cons,hm,List.lookup_cons,hm2]
 rfl
theorem m_look{E:XK}{i:Nat}{σ:St}{H:Hp}{Q:VK}{X:Tx}{rd:Addr}{rs:List Vanbka.Tok}(R:RD CT CR X rd H rs)(h:Q (.str (headK rs)) H)(hi:σ[i]? = some (some (.ref rd)):=by rfl):tMeth CR "look" (spLook CT CR) [] E (tVar i) tNil σ H Q :=
 rd_meth hi R ⟨X,rd,rs,rfl,R,h⟩
theorem m_here{E:XK}{i:Nat}{σ:St}{H:Hp}{Q:VK}{X:Tx}{rd:Addr}{rs:List Vanbka.Tok}(R:RD CT CR X rd H rs)(h:Q (.int (placeAt X.all X.len rs.length:Nat)) H)(hi:σ[i]? = some (some (.ref rd)):=by rfl):tMeth CR "here" (spHere CT CR) [] E (tVar i) tNil σ H Q :=
 rd_meth hi R ⟨X,rd,rs,rfl,R,h⟩
theorem m_last{E:XK}{i:Nat}{σ:St}{H:Hp}{Q:VK}{X:Tx}{rd:Addr}{rs pre:List Vanbka.Tok}{t:Vanbka.Tok}(R:RD CT CR X rd H rs)(ea:X.all=pre ++ t::rs)(h:Q (.int ((t.place + t.len:Nat):Int)) H)(hi:σ[i]? = some (some (.ref rd)):=by rfl):tMeth CR "behind_last" (spLast CT CR) [] E (tVar i) tNil σ H Q :=
 rd_meth hi R ⟨X,rd,rs,t,pre,rfl,R,ea,h⟩
theorem scMove:FnScope ["self", "kind"] ["self"] (defScope sMoveOn):=⟨rfl,rfl,rfl,by decide +kernel,rfl,by decide +kernel,by decide +kernel⟩
theorem ok_move(F:Fun K "move_on" "Reader.move_on" sMoveOn f fd)(Rd:ReaderAt K mg CR)(L:HasM P w K mg base CR 1 "look" ["self"] (spLook CT CR)):FnOk P w K mg base (CXF P w) 2 f fd ["self"] (spMove CT CR):=by
 refine F.okF (k:=1) scMove (fun vs H Q E h=>?_) (fun cdv A outer s H vs Q E hr h=>?_)
 ·obtain ⟨X,rd,t,r,rfl,_⟩:=h
  rfl
 obtain ⟨X,rd,t,r,rfl,R,q⟩:=h
 have nd:=scMove.nd
 refine ⟨_,pss_cons (ps_set (i:=1) nd rfl (Or.inl rfl) (pe_hasM0 L Rd.c.cl hr (pv 0))) (pss_cons (ps_fldaug (pv 0) pe_int in_add) (pss_one (ps_ret (pv 1)))),?_⟩
 refine m_look R ?_
 obtain ⟨dx,xs,i,x,e,v,dt,h1,h2,h3,h4,h5,h6⟩:=R.item
 obtain ⟨b1,b2⟩:=R.on h1
 exact ⟨_,rfl,rd,CR,dx,_,_,rfl,h1,Rd.c.cl,Rd.c.no _ (.tail _ (.head _)),rfl,_,_,rfl,rfl,dx,_,h1,(by show 2 < 1000;decide),_,rfl,q _ b1 b2⟩
theorem scTake:FnScope ["self", "kind", "value"] ["self", "kind"] (defScope sTake):=⟨rfl,rfl,rfl,by decide +kernel,rfl,by decide +kernel,by decide +kernel⟩
theorem ok_take(F:Fun K "take" "Reader.take" sTake f fd)(T:FaultAt K mg CF fI fdI)(U:TokenAt K mg CT tI tdI)(Rd:ReaderAt K mg CR)(L:HasM P w K mg base CR 1 "look" ["self"] (spLook CT CR))(Hr:HasM P w K mg base CR 1 "here" ["self"] (spHere CT CR))(c4:CI mg "NO_PROGRAM" 4) :
  FnOk P w K mg base (CXF P w) 3 f fd ["self", "kind"] (spTake CF CT CR):=by
 refine F.okF (k:=2) scTake (fun vs H Q E h=>?_) (fun cdv A outer s H vs Q E hr h=>?_)
 ·obtain ⟨X,rd,rs,k,rfl,_⟩:=h
  rfl
 obtain ⟨X,rd,rs,k,rfl,ke,R,q⟩:=h
 have nd:=scTake.nd
 refine ⟨_,pss_cons (ps_if (pt_cmpR op_ne (pe_hasM0 L Rd.c.cl hr (pv 0)) (pv 1) (nomark _)) (pss_one (ps_fault T hr rfl (pa_cons (pe_ci c4 rfl) (pa_cons (pe_hasM0 Hr Rd.c.cl hr (pv 0)) pa_nil)))) pss_nil)
  (pss_cons (ps_set (i:=2) nd rfl (Or.inl rfl) (pe_fld (pe_ix ix_list (pe_fld (pv 0) rfl) (pe_fld (pv 0) rfl) (fun _ _=>rfl)) rfl))
  (pss_cons (ps_fldaug (pv 0) pe_int in_add) (pss_one (ps_ret (pv 2))))),?_⟩
 refine m_look R ⟨_,rfl,rfl,_,rfl,ite2 (fun k1=>?_) (fun k1=>?_)⟩
 ·have ne:¬ headK rs=k:=fun z=>by
   rw [decide_eq_true (show V.str (headK rs)=V.str k by rw [z])] at k1
   cases k1
  rw [if_neg ne] at q
  exact m_here R (raise_says q)
 ·have eq:headK rs=k:=by
   have:decide (V.str (headK rs)=V.str k)=true:=by simpa using k1
   have:=of_decide_eq_true this
   injection this
  rw [if_pos eq] at q
  cases rs with
  | nil=>exact absurd eq.symm ke
  | cons t r =>
   obtain ⟨dx,xs,i,x,e,v,dt,h1,h2,h3,h4,h5,h6⟩:=R.item
   obtain ⟨b1,b2⟩:=R.on h1
   exact ⟨_,rfl,rd,CR,dx,_,_,rfl,h1,Rd.c.cl,Rd.c.no _ (.head _),rfl,_,rfl,rd,CR,dx,_,_,rfl,h1,Rd.c.cl,Rd.c.no _ (.tail _ (.head _)),rfl,_,_,_,_,rfl,rfl,SqL.of h2,h3,x,CT,dt,_,_,rfl,h4,U.c.cl,U.c.no _ (.tail _ (.tail _ (.tail _ (.head _)))),rfl,
    _,rfl,rd,CR,dx,_,_,rfl,h1,Rd.c.cl,Rd.c.no _ (.tail _ (.head _)),rfl,_,_,rfl,rfl,dx,_,h1,(by show 2 < 1000;decide),_,rfl,q _ _ b1 b2 h5⟩
end
end Prg
end
section
set_option maxRecDepth 100000
set_option maxHeartbeats 1000000
namespace L2
open PySem PySem.Spec PyProof.Rows
section
variable{P:Program}{w:World}{A:Around}{E:Value→Shared→Prop}{R:Result→Shared→Prop}{I S:Addr}{fp wr:List Addr}{n:Nat}{F:Nat→Value→Prop}{St:Nat→Heap→Prop}
def BestOf(F:Nat→Value→Prop)(val:Nat→Int)(j:Nat)(arr:Array Value):Prop:=(arr = #[]∧j=0)∨∃ i v,arr = #[v,v]∧i < j∧F i v∧∀ k,k < j→val k≤val i
theorem maxD_args(a d:Value):argsOk "max" ⟨[a],[(Str.ofString "default",d)]⟩:=by unfold argsOk;kernel_rfl
theorem maxD_loop(W:Walks P w A.in1 I fp wr n F St)(val:Nat→Int)(hv:∀ i v,F i v→∃ t,v = .int (val i) t)(hS:S∉fp)(d:Value) :
  ∀ (r j:Nat) (s:Shared) (arr:Array Value) (c:Nat),j + r=n→St j s.heap→s.heap.get? S=some { cls:=.type "list",dict:=none,data:=.seq arr c,slots := #[] }→BestOf F val j arr→
   (∀ v h' tk,((n=0∧v=d)∨∃ i,i < n∧F i v∧∀ k,k < n→val k≤val i)→(∀ b o,b∉wr→b≠S→s.heap.get? b=some o→h'.get? b=some o)→R (.ok (.ret v)) { s with heap:=h',toks:=tk })→
   codeAny (model P w) A (.builtin "max.loop" ⟨[.ref I,.none,.ref S],[(Str.ofString "default",d)]⟩) R s:=by
 have Sw:S∉wr:=fun z=>hS (W.sub _ z)
 have nm:(toString "max" ++ toString ".loop":String) = "max.loop":=by decide
 intro r
 induction r with
 | zero =>
  intro j s arr c e st hs best fin
  have ej:j=n:=e
  subst ej
  refine codeAny_builtin PySem.F.entry_max_loop ?_
  rw [Around.under_plainId PySem.F.plain_max_loop _]
  show wpAny _ _ (seqItems? (.ref S) >>= _) _ _ s
  refine wpAny_bind (wpAny_seqItems hs rfl ?_)
  rcases best with ⟨rfl,z⟩ | ⟨i,v,rfl,hi,hF,hm⟩
  ·show wpAny _ _ (tryCatch (pyNext (.ref I)) _ >>= _) _ _ s
   refine wpAny_bind (wpAny_tryCatch (W.done s _ _ st fun h' tk keep=>?_))
   show wpAny _ _ (rule _ >>= _) _ _ _
   refine wpAny_bind (wpAny_rule (wpAny_pure ?_))
   exact fin d h' tk (.inl ⟨z,rfl⟩) fun b o nb _ q=>keep b o nb q
  ·show wpAny _ _ (tryCatch (pyNext (.ref I)) _ >>= _) _ _ s
   refine wpAny_bind (wpAny_tryCatch (W.done s _ _ st fun h' tk keep=>?_))
   have hs':=keep S _ Sw hs
   show wpAny _ _ (updateSeq S (fun _ => #[]) >>= _) _ _ _
   refine wpAny_bind ?_
   refine wpAny_updateSeq hs' rfl ?_
   refine wpAny_bind (wpAny_letGo (wpAny_pure ?_))
   exact fin v _ tk (.inr ⟨i,hi,hF,hm⟩) fun b o nb nS q=>(Heap.get?_update_other _ _ (Ne.symm nS)).trans (keep b o nb q)
 | succ r ih =>
  intro j s arr c e st hs best fin
  have hj:j < n:=by omega
  refine codeAny_builtin PySem.F.entry_max_loop ?_
  rw [Around.under_plainId PySem.F.plain_max_loop _]
  show wpAny _ _ (seqItems? (.ref S) >>= _) _ _ s
  refine wpAny_bind (wpAny_seqItems hs rfl ?_)
  rcases best with ⟨rfl,z⟩ | ⟨i,u,rfl,hi,hF,hm⟩
  ·show wpAny _ _ (tryCatch (pyNext (.ref I)) _ >>= _) _ _ s
   refine wpAny_bind (wpAny_tryCatch (W.item j s _ _ hj st fun v h' tk hP st' keep=>?_))
   have hs':=keep S _ Sw hs
   show wpAny _ _ (updateSeq S (fun _ => #[v,v]) >>= _) _ _ _
   refine wpAny_bind ?_
   refine wpAny_updateSeq hs' rfl ?_
   rw [nm]
   refine wpAny_pure ⟨plainId_quiet PySem.F.plain_max_loop _,ih (j + 1) _ #[v,v] _ (by omega) (W.frame _ _ _ st' fun b hb o q=>?_) (Heap.get?_update_self _ hs' rfl) (.inr ⟨j,v,rfl,Nat.lt_succ_self _,hP,fun k hk=>?_⟩) fun v' h2 tk2 hb keep2=>?_⟩
   ·exact (Heap.get?_update_other _ _ (fun y:S=b=>hS (y▸hb))).trans q
   ·have:k=j:=by omega
    rw [this];exact Int.le_refl _
   ·exact fin v' h2 tk2 hb fun b o nb nS q=>keep2 b o nb nS ((Heap.get?_update_other _ _ (Ne.symm nS)).trans (keep b o nb q))
  ·show wpAny _ _ (tryCatch (pyNext (.ref I)) _ >>= _) _ _ s
   refine wpAny_bind (wpAny_tryCatch (W.item j s _ _ hj st fun v h' tk hP st' keep=>?_))
   have hs':=keep S _ Sw hs
   show wpAny _ _ (tryCatch (holding [v,v] (richCompare .Gt v u >>= _)) _ >>= _) _ _ _
   refine wpAny_bind (wpAny_tryCatch (wpAny_holding (wpAny_bind (CmpOf.ints_gt (prog:=P) (w:=w) (A:=A.in1) val hv j i v u _ _ _ hP hF ?_))))
   refine wpAny_bind (wpAny_holding (wpAny_truthy_bool ?_))
   refine wpAny_bind (wpAny_letGo (wpAny_pure ?_))
   by_cases gt:val j > val i
   ·rw [if_pos (decide_eq_true gt)]
    refine wpAny_bind ?_
    refine wpAny_updateSeq hs' rfl ?_
    refine wpAny_bind (wpAny_letGo ?_)
    rw [nm]
    refine wpAny_pure ⟨plainId_quiet PySem.F.plain_max_loop _,ih (j + 1) _ #[v,v] _ (by omega) (W.frame _ _ _ st' fun b hb o q=>?_) (Heap.get?_update_self _ hs' rfl) (.inr ⟨j,v,rfl,Nat.lt_succ_self _,hP,fun k hk=>?_⟩) fun v' h2 tk2 hb keep2=>?_⟩
    ·exact (Heap.get?_update_other _ _ (fun y:S=b=>hS (y▸hb))).trans q
    ·rcases Nat.lt_or_ge k j with y | y
     ·have:=hm k y;omega
     ·have:k=j:=by omega
      rw [this];exact Int.le_refl _
    ·exact fin v' h2 tk2 hb fun b o nb nS q=>keep2 b o nb nS ((Heap.get?_update_other _ _ (Ne.symm nS)).trans (keep b o nb q))
   ·rw [if_neg (fun z=>gt (of_decide_eq_true z))]
    refine wpAny_bind (wpAny_letGo ?_)
    rw [nm]
    refine wpAny_pure ⟨plainId_quiet PySem.F.plain_max_loop _,ih (j + 1) _ #[u,u] c (by omega) st' hs' (.inr ⟨i,u,rfl,by omega,hF,fun k hk=>?_⟩) fun v' h2 tk2 hb keep2=>?_⟩
    ·rcases Nat.lt_or_ge k j with y | y
     ·exact hm k y
     ·have:k=j:=by omega
      rw [this];omega
    ·exact fin v' h2 tk2 hb fun b o nb nS q=>keep2 b o nb nS (keep b o nb q)
end
section
variable{P:Program}{w:World}{A:Around}{E:Value→Shared→Prop}{s:Shared}{l:Addr}{xs:Array (Int×PySem.Tok)}
theorem maxD_call{Q:Value→Shared→Prop}(d:Value)(hh:A.handled=none)(hl:s.heap.IsList l (intItems xs))
  (h:∀ v h' tk,((xs.size=0∧v=d)∨∃ i,i < xs.size∧(intItems xs)[i]? = some v∧∀ k,k < xs.size→numAt xs k≤numAt xs i)→(∀ b o,s.heap.get? b=some o→h'.get? b=some o)→Q v { s with heap:=h',toks:=tk }) :
  wpAny (model P w) A (call (.builtin "max") [.ref l] [(Str.ofString "default",d)]) Q E s:=by
 have nm:(toString "max" ++ toString ".loop":String) = "max.loop":=by decide
 refine kmk_tree PySem.F.kind_max PySem.F.plain_max PySem.F.entry_max (maxD_args _ _) ?_
 show wpAny _ _ (Builtin.Builtins.bindParams "max" ["key", "default"] 0 ⟨[],[(Str.ofString "default",d)]⟩ >>= _) _ _ s
 refine wpAny_bind (wpAny_of_eq (show Builtin.Builtins.bindParams "max" ["key", "default"] 0 ⟨[],[(Str.ofString "default",d)]⟩=pure [none,some d] from rfl) ?_)
 refine wpAny_bind (wpAny_pure ?_)
 refine wpAny_bind (iter_intList hl fun s2 e st hfp hlI=>?_)
 refine wpAny_bind (wpAny_newObj_type ?_)
 have hS:s2.heap.objs.size∉[s.heap.objs.size,l]:=fun hm=>Nat.lt_irrefl _ (hfp _ hm)
 rw [nm]
 have sz:(intItems xs).size=xs.size:=by simp [intItems]
 refine wpAny_pure ⟨plainId_quiet PySem.F.plain_max_loop _,maxD_loop (Walks.list (A:=A.in1) hh _ l hlI (intItems xs)) (numAt xs) (fun _ _=>intItems_at) hS d (intItems xs).size 0 _ #[] 0 (Nat.zero_add _)
  ((Walks.list (prog:=P) (w:=w) (A:=A.in1) hh _ l hlI (intItems xs)).frame 0 _ _ st fun b _ o q=>Heap.get?_push_of_some _ q) (Heap.get?_push_size _ rfl) (.inl ⟨rfl,rfl⟩) fun v h' tk hb keep=>?_⟩
 rw [sz] at hb
 subst e
 refine h v h' tk hb fun b o q=>?_
 have lt:b < s.heap.objs.size:=Heap.lt_size q
 refine keep b o (fun z=>?_) (fun z=>?_) (Heap.get?_push_of_some _ (Heap.get?_push_of_some _ q))
 ·have:b=s.heap.objs.size:=by simpa using z
  exact absurd lt (by rw [this];exact Nat.lt_irrefl _)
 ·rw [z] at lt
  rw [Heap.size_push] at lt
  exact absurd lt (Nat.not_lt.mpr (Nat.le_succ _))
end
section
variable{X:Cx}
def rMaxD(K:PySem.W.Frag)(d:Int):V→Hp→VK→Prop:=fun x H Q=>∃ (a:Addr) (ns:List Int),x=V.ref a∧SqL K H a (ns.map V.int)∧(ns=[]→Q (.int d) H)∧∀ m,m∈ns→(∀ y,y∈ns→y≤m)→Q (.int m) H
def tMaxD(K:PySem.W.Frag)(d:Int)(te:TE):TE:=fun σ H Q=>te σ H fun x H1=>∃ y,[x]=[y]∧rMaxD K d y H1 Q
theorem pe_maxD{e:Expr}{te:TE}{d:Int}{j:Nat}{p pos kp kpos:Pos}(hc:X.calm=true)(hg:Gl X "max")(hm:X.mg "max"=none)(he:PE X e te)
  (h1:starEach [e] X.env=(false,eval e X.env)::starEach [] X.env:=by rfl) (h2:backTo pos (starEach [e] X.env)=(false,eval e X.env)::backTo pos (starEach [] X.env):=by rfl) (h3:(backTo pos (starEach [e] X.env)).any (·.1)=false:=by rfl):PE X (.Call (.Name "max" p) [e] [⟨some "default",.Constant (.int d) j kp,kpos⟩] pos) (tMaxD X.K d te):=by
 intro pins s σ H Q I h
 refine wpAny_Call_Name_kw (ld_blt I hg hm (by decide +kernel:bootBuiltins "max"=some (.builtin "max")) ?_ (by decide) (by decide))
 have ha:PA X [e] (tCons te tNil):=pa_cons he pa_nil h1
 refine callWith_kw (thn (ha pos pins s σ H (fun vs H1=>∃ x,vs=[x]∧rMaxD X.K d x H1 Q) I h) fun us s1 ⟨vs,H1,I1,r1,q1⟩=>kws_cons (wpAny_Constant_int (kws_nil ?_))) h2 h3
 obtain ⟨x,rfl,a,ns,rfl,hs,q0,qm⟩:=q1
 rw [Vals.ref1 r1]
 obtain ⟨its,rv,hl,_⟩:=I1.list hs
 obtain ⟨zs,ez⟩:=rv.ints.allInts.items
 have hn:numsOf (intItems zs).toList=ns:=by rw [← ez];exact rv.ints.numsOf
 rw [nums_intItems] at hn
 have hl2:=hl.isList
 rw [ez] at hl2
 refine maxD_call (.int d s1.toks) (I1.ok.hd hc) hl2 fun v h' tk hb keep=>?_
 have I2:=I1.kept (t':=tk) keep
 rcases hb with ⟨z,rfl⟩ | ⟨i,hi,hv,hm⟩
 ·refine ⟨.int d,H1,I2,⟨_,rfl⟩,q0 ?_⟩
  rw [← hn,List.map_eq_nil_iff,← List.length_eq_zero_iff,Array.length_toList]
  exact z
 ·obtain ⟨t,rfl⟩:=intItems_at hv
  refine ⟨.int _,H1,I2,⟨_,rfl⟩,qm _ ?_ fun y hy=>?_⟩
  ·rw [← hn,numAt_eq]
   exact PySem.getD_mem (by rw [List.length_map,Array.length_toList];exact hi)
  ·rw [← hn] at hy
   obtain ⟨k,hk,rfl⟩:=mem_getD hy
   rw [List.length_map,Array.length_toList] at hk
   rw [← numAt_eq]
   exact hm k hk
end
end L2
end
section
set_option maxRecDepth 100000
set_option maxHeartbeats 4000000
namespace Prg
open PySem L2
open Vanbka (Bytes)
inductive Leaf where
 | bytes (x:Bytes)
 | int (i:Int)
inductive Node where
 | mk (kind:Str) (leaves:List Leaf) (parts:List Node) (blocks:List (List Node))
mutual
def Node.depth:Node→Nat
 | .mk _ _ ps bs=>1 + max (depthL ps) (depthB bs)
def depthL:List Node→Nat
 | []=>0
 | x::l=>max x.depth (depthL l)
def depthB:List (List Node)→Nat
 | []=>0
 | x::l=>max (depthL x) (depthB l)
end
def LeafAt(H:Hp):Leaf→V→Prop
 | .bytes x,v=>∃ a,v = .ref a∧H a=some (.lst (vb x))
 | .int i,v=>v = .int i
theorem LeafAt.same{H H':Hp}(s:Same H H'){l:Leaf}{v:V}(h:LeafAt H l v):LeafAt H' l v:=by
 cases l with
 | bytes x=>obtain ⟨a,e,q⟩:=h;exact ⟨a,e,s _ _ q⟩
 | int i=>exact h
structure TX where
 d:Addr
 pl:V
 en:V
instance:Coe TX Addr:=⟨TX.d⟩
abbrev treeF(k:Str)(a1 a2 a3:Addr)(dx:TX)(d:Nat):List (Str×V):=[("kind",.str k),("leaves",.ref a1),("parts",.ref a2),("blocks",.ref a3),("place",dx.pl),("end",dx.en),("depth",.int (d:Int))]
mutual
def NodeAt(CN:Addr)(H:Hp):Node→V→Prop
 | .mk k ls ps bs,v=>∃ (x:Addr) (dx:TX) (a1 a2 a3:Addr) (vls vps vbs:List V),v = .ref x∧H x=some (.ins CN dx.d (treeF k a1 a2 a3 dx (1 + max (depthL ps) (depthB bs))))∧H a1=some (.lst vls)∧H a2=some (.lst vps)∧H a3=some (.lst vbs)∧
   (vls.length≤1000∧vps.length≤1000∧vbs.length≤1000)∧Paired (LeafAt H) ls vls∧NodesAt CN H ps vps∧BlocksAt CN H bs vbs
def NodesAt(CN:Addr)(H:Hp):List Node→List V→Prop
 | [],vs=>vs=[]
 | x::l,vs=>∃ v r,vs=v::r∧NodeAt CN H x v∧NodesAt CN H l r
def BlocksAt(CN:Addr)(H:Hp):List (List Node)→List V→Prop
 | [],vs=>vs=[]
 | x::l,vs=>∃ a ws r,vs = .ref a::r∧H a=some (.lst ws)∧ws.length≤1000∧NodesAt CN H x ws∧BlocksAt CN H l r
end
mutual
theorem NodeAt.same{CN:Addr}{H H':Hp}(s:Same H H'):∀ (x:Node) (v:V),NodeAt CN H x v→NodeAt CN H' x v
 | .mk k ls ps bs,v,h=>by
  obtain ⟨x,dx,a1,a2,a3,vls,vps,vbs,e,h1,h2,h3,h4,h0,h5,h6,h7⟩:=h
  exact ⟨x,dx,a1,a2,a3,vls,vps,vbs,e,s _ _ h1,s _ _ h2,s _ _ h3,s _ _ h4,h0,Paired.mapP h5 fun _ _ z=>z.same s,NodesAt.same s ps vps h6,BlocksAt.same s bs vbs h7⟩
theorem NodesAt.same{CN:Addr}{H H':Hp}(s:Same H H'):∀ (l:List Node) (vs:List V),NodesAt CN H l vs→NodesAt CN H' l vs
 | [],vs,h=>h
 | x::l,vs,h=>by
  obtain ⟨v,r,e,h1,h2⟩:=h
  exact ⟨v,r,e,NodeAt.same s x v h1,NodesAt.same s l r h2⟩
theorem BlocksAt.same{CN:Addr}{H H':Hp}(s:Same H H'):∀ (l:List (List Node)) (vs:List V),BlocksAt CN H l vs→BlocksAt CN H' l vs
 | [],vs,h=>h
 | x::l,vs,h=>by
  obtain ⟨a,ws,r,e,h1,h0,h2,h3⟩:=h
  exact ⟨a,ws,r,e,s _ _ h1,h0,NodesAt.same s x ws h2,BlocksAt.same s l r h3⟩
end
theorem NodesAt.len{CN:Addr}{H:Hp}:∀ (l:List Node) (vs:List V),NodesAt CN H l vs→vs.length=l.length
 | [],vs,h=>by cases h;rfl
 | x::l,vs,h=>by
  obtain ⟨v,r,e,_,h2⟩:=h
  subst e
  rw [List.length_cons,List.length_cons,NodesAt.len l r h2]
theorem NodesAt.snoc{CN:Addr}{H:Hp}{x:Node}{v:V}(hx:NodeAt CN H x v):∀ (l:List Node) (vs:List V),NodesAt CN H l vs→NodesAt CN H (l ++ [x]) (vs ++ [v])
 | [],vs,h=>by cases h;exact ⟨v,[],rfl,hx,rfl⟩
 | y::l,vs,h=>by
  obtain ⟨u,r,e,h1,h2⟩:=h
  subst e
  exact ⟨u,r ++ [v],rfl,h1,NodesAt.snoc hx l r h2⟩
theorem NodesAt.get{CN:Addr}{H:Hp}:∀ (l:List Node) (vs:List V),NodesAt CN H l vs→∀ (i:Nat) (x:Node),l[i]? = some x→∃ v,vs[i]? = some v∧NodeAt CN H x v
 | [],vs,h,i,x,e=>by simp at e
 | y::l,vs,h,i,x,e=>by
  obtain ⟨u,r,e1,h1,h2⟩:=h
  subst e1
  cases i with
  | zero=>cases e;exact ⟨u,rfl,h1⟩
  | succ i=>exact NodesAt.get l r h2 i x (by simpa using e)
theorem BlocksAt.len{CN:Addr}{H:Hp}:∀ (l:List (List Node)) (vs:List V),BlocksAt CN H l vs→vs.length=l.length
 | [],vs,h=>by cases h;rfl
 | x::l,vs,h=>by
  obtain ⟨a,ws,r,e,_,_,_,h2⟩:=h
  subst e
  rw [List.length_cons,List.length_cons,BlocksAt.len l r h2]
theorem BlocksAt.get{CN:Addr}{H:Hp}:∀ (l:List (List Node)) (vs:List V),BlocksAt CN H l vs→∀ (i:Nat) (x:List Node),l[i]? = some x→∃ a ws,vs[i]? = some (.ref a)∧H a=some (.lst ws)∧ws.length≤1000∧NodesAt CN H x ws
 | [],vs,h,i,x,e=>by simp at e
 | y::l,vs,h,i,x,e=>by
  obtain ⟨a,ws,r,e1,h1,h0,h2,h3⟩:=h
  subst e1
  cases i with
  | zero=>cases e;exact ⟨a,ws,rfl,h1,h0,h2⟩
  | succ i=>exact BlocksAt.get l r h3 i x (by simpa using e)
theorem NodeAt.fld{CN:Addr}{H:Hp}{x:Node}{v:V}(h:NodeAt CN H x v):∃ y dx fs,v = .ref y∧H y=some (.ins CN dx fs)∧fs.lookup ("depth":Str)=some (V.int (x.depth:Int)):=by
 cases x with
 | mk k ls ps bs =>
  obtain ⟨x,dx,a1,a2,a3,vls,vps,vbs,e,h1,_⟩:=h
  exact ⟨x,dx,_,e,h1,rfl⟩
mutual
theorem NodeAt.turn{CN x dx:Addr}{H:Hp}{fs:List (Str×V)}{d:Int}{o:HO}(hx:H x=some (.ins CN dx fs))(hd:fs.lookup ("depth":Str)=some (.int d)):∀ (n:Node) (v:V),(n.depth:Int) < d→NodeAt CN H n v→NodeAt CN (upd H x o) n v
 | .mk k ls ps bs,v,hl,h=>by
  obtain ⟨y,dy,a1,a2,a3,vls,vps,vbs,e,h1,h2,h3,h4,h0,h5,h6,h7⟩:=h
  have nl:∀ {a:Addr} {us:List V},H a=some (.lst us)→a≠x:=fun q z=>by rw [z,hx] at q;cases q
  have ny:y≠x:=fun z=>by
   rw [z,hx] at h1
   injection h1 with h1
   injection h1 with _ _ h1
   rw [h1] at hd
   have:V.int _=V.int d:=Option.some.inj hd
   injection this with this
   have dn:(Node.mk k ls ps bs).depth=1 + max (depthL ps) (depthB bs):=by rw [Node.depth]
   rw [dn] at hl
   omega
  have dn:(Node.mk k ls ps bs).depth=1 + max (depthL ps) (depthB bs):=by rw [Node.depth]
  rw [dn] at hl
  refine ⟨y,dy,a1,a2,a3,vls,vps,vbs,e,by rw [upd_ne ny];exact h1,by rw [upd_ne (nl h2)];exact h2,by rw [upd_ne (nl h3)];exact h3,by rw [upd_ne (nl h4)];exact h4,h0,Paired.mapP h5 fun l v z=>?_,NodesAt.turn hx hd ps vps (by omega) h6,BlocksAt.turn hx hd bs vbs (by omega) h7⟩
  cases l with
  | bytes u=>obtain ⟨a,e,q⟩:=z;exact ⟨a,e,by rw [upd_ne (nl q)];exact q⟩
  | int i=>exact z
theorem NodesAt.turn{CN x dx:Addr}{H:Hp}{fs:List (Str×V)}{d:Int}{o:HO}(hx:H x=some (.ins CN dx fs))(hd:fs.lookup ("depth":Str)=some (.int d)):∀ (l:List Node) (vs:List V),(depthL l:Int) < d→NodesAt CN H l vs→NodesAt CN (upd H x o) l vs
 | [],vs,_,h=>h
 | n::l,vs,hl,h=>by
  obtain ⟨v,r,e,h1,h2⟩:=h
  rw [depthL] at hl
  exact ⟨v,r,e,NodeAt.turn hx hd n v (by omega) h1,NodesAt.turn hx hd l r (by omega) h2⟩
theorem BlocksAt.turn{CN x dx:Addr}{H:Hp}{fs:List (Str×V)}{d:Int}{o:HO}(hx:H x=some (.ins CN dx fs))(hd:fs.lookup ("depth":Str)=some (.int d)):∀ (l:List (List Node)) (vs:List V),(depthB l:Int) < d→BlocksAt CN H l vs→BlocksAt CN (upd H x o) l vs
 | [],vs,_,h=>h
 | n::l,vs,hl,h=>by
  obtain ⟨a,ws,r,e,h1,h0,h2,h3⟩:=h
  rw [depthB] at hl
  have na:a≠x:=fun z=>by rw [z,hx] at h1;cases h1
  exact ⟨a,ws,r,e,by rw [upd_ne na];exact h1,h0,NodesAt.turn hx hd n ws (by omega) h2,BlocksAt.turn hx hd l r (by omega) h3⟩
end
theorem cut_upd{T H H2:Hp}{x:Addr}{o:HO}(t:T x=none)(h:H x=none):Cut T H (L2.upd H2 x o)=L2.upd (Cut T H H2) x o:=by
 funext b
 by_cases e:b=x
 ·subst e
  rw [upd_same]
  exact cut_new t h upd_same
 ·rw [upd_ne e]
  unfold Cut
  rw [upd_ne e]
theorem placed{CN:Addr}{X:Tx}{H H2:Hp}{n:Node}{v:V}(h:NodeAt CN (Cut X.T H H2) n v):∃ (x:Addr) (dx:TX) (k:Str) (a1 a2 a3:Addr) (d:Nat),v = .ref x∧X.T x=none∧H x=none∧H2 x=some (.ins CN dx.d (treeF k a1 a2 a3 dx d))∧
  ∀ p e:V,NodeAt CN (Cut X.T H (L2.upd H2 x (.ins CN dx.d (treeF k a1 a2 a3 ⟨dx.d,p,e⟩ d)))) n (.ref x):=by
 cases n with
 | mk k ls ps bs =>
  obtain ⟨x,dx,a1,a2,a3,vls,vps,vbs,rfl,h1,h2,h3,h4,h0,h5,h6,h7⟩:=h
  have hT:X.T x=none:=by
   cases e:X.T x with
   | none=>rfl
   | some o =>
    rw [cut_old e] at h1
    injection h1 with h1
    subst h1
    have:=X.tr _ _ _ _ e
    cases this
  rcases cut_cases h1 with z | ⟨_,hH,z⟩
  ·rw [hT] at z;cases z
  refine ⟨x,dx,k,a1,a2,a3,_,rfl,hT,hH,z,fun p e=>?_⟩
  rw [cut_upd hT hH]
  have nl:∀ {a:Addr} {us:List V},Cut X.T H H2 a=some (.lst us)→a≠x:=fun q z=>by rw [z,h1] at q;cases q
  have hd:(treeF k a1 a2 a3 dx (1 + max (depthL ps) (depthB bs))).lookup ("depth":Str)=some (V.int ((1 + max (depthL ps) (depthB bs):Nat):Int)):=rfl
  refine ⟨x,⟨dx.d,p,e⟩,a1,a2,a3,vls,vps,vbs,rfl,upd_same,by rw [upd_ne (nl h2)];exact h2,by rw [upd_ne (nl h3)];exact h3,by rw [upd_ne (nl h4)];exact h4,h0,Paired.mapP h5 fun l v z=>?_,NodesAt.turn h1 hd ps vps (by omega) h6,BlocksAt.turn h1 hd bs vbs (by omega) h7⟩
  cases l with
  | bytes u=>obtain ⟨a,e,q⟩:=z;exact ⟨a,e,by rw [upd_ne (nl q)];exact q⟩
  | int i=>exact z
theorem depthL_max{l:List Node}{m:Int}(h1:m∈l.map fun x=>(x.depth:Int))(h2:∀ y∈l.map (fun x=>(x.depth:Int)),y≤m):m=(depthL l:Int):=by
 have up:∀ (l:List Node),∀ x∈l,x.depth≤depthL l:=by
  intro l
  induction l with
  | nil=>intro x hx;cases hx
  | cons y l ih =>
   intro x hx
   rw [depthL]
   rcases List.mem_cons.mp hx with z | z
   ·rw [z];omega
   ·have:=ih x z;omega
 have at_:∀ (l:List Node),l≠[]→∃ x∈l,x.depth=depthL l:=by
  intro l
  induction l with
  | nil=>intro z;exact absurd rfl z
  | cons y l ih =>
   intro _
   rw [depthL]
   by_cases e:l=[]
   ·subst e;exact ⟨y,.head _,by rw [depthL];omega⟩
   ·obtain ⟨x,hx,ex⟩:=ih e
    by_cases c:y.depth≤depthL l
    ·exact ⟨x,List.mem_cons_of_mem _ hx,by omega⟩
    ·exact ⟨y,.head _,by omega⟩
 obtain ⟨x,hx,rfl⟩:=List.mem_map.mp h1
 obtain ⟨y,hy,ey⟩:=at_ l (fun z=>by subst z;cases hx)
 have a1:=up l x hx
 have a2:=h2 _ (List.mem_map.mpr ⟨y,hy,rfl⟩)
 omega
section
variable{P:Program}{w:World}{K:PySem.W.Frag}{mg:Str→Option Value}{base:Heap}{f g g2 CF fI CT tI CR CN nI:Addr}{fd gd gd2 fdI tdI ndI:FuncData}
def spGreat(K:PySem.W.Frag)(CN:Addr):Sp:=fun vs H Q _=>∃ (a:Addr) (us:List V) (l:List Node),vs=[.ref a]∧SqL K H a us∧NodesAt CN H l us∧us.length≤1000∧∀ H',Same H H'→Q (.int (depthL l:Int)) H'
theorem scGreat:FnScope ["trees", "tree"] ["trees"] (defScope sGreatest):=⟨rfl,rfl,rfl,by decide +kernel,rfl,by decide +kernel,by decide +kernel⟩
theorem blkGreat:BlkOk ["trees", "tree"] (defScope sGreatest) { kind:=.function,names:=[(".0",.local),("tree",.local)],isGenerator:=false,isCoroutine:=false } [("tree",1)]:=⟨rfl,by decide +kernel,by decide +kernel,by decide +kernel,by decide +kernel⟩
theorem ok_great(F:Fun K "greatest_depth" "greatest_depth" sGreatest f fd)(N:ClsAt K mg "Tree" CN ["kind", "leaves", "parts", "blocks", "depth", "place", "end"])(mm:mg "max"=none):FnOk P w K mg base (CXF P w) 1 f fd ["trees"] (spGreat K CN):=by
 refine F.okF (k:=0) scGreat (fun vs H Q E h=>?_) (fun cdv A outer s H vs Q E hr h=>?_)
 ·obtain ⟨a,us,l,rfl,_⟩:=h
  rfl
 obtain ⟨a,us,l,rfl,hS,hN,hlen,q⟩:=h
 have nd:=scGreat.nd
 refine ⟨_,pss_one (ps_ret (pe_maxD rfl rfl mm (pe_lc (own:=[("tree",1)]) (te:=tFld K (tVar 1) "depth") rfl nd (pi_list (pv 0)) blkGreat (fun _ _ _ _ _=>pg_name (i:=1) nd rfl (Or.inl rfl)) (fun _ _ _ _ _=>pts_nil) (fun _ _ _ _ _=>pe_fld (pv 1) rfl)))),?_⟩
 have ll:=NodesAt.len l us hN
 refine ⟨_,rfl,a,rfl,⟨_,hS⟩,fun D nD=>⟨fun i m H'=>m=us.length - i∧i≤us.length∧Same H H'∧H' D=some (.lst (((l.take i).map fun x=>(x.depth:Int)).map V.int)),⟨_,rfl,Nat.zero_le _,same_new nD _,upd_same⟩,?_⟩⟩
 rintro i m H' ⟨rfl,hi,sm,hD⟩
 have hS':=sm.seq hS
 by_cases hlt:i < us.length
 ·have hx:us[i]? = some us[i]:=List.getElem?_eq_getElem hlt
  have hl:l[i]? = some l[i]:=List.getElem?_eq_getElem (by omega)
  obtain ⟨v,ev,nv⟩:=NodesAt.get l us (hN.same sm) i _ hl
  refine .inr ⟨⟨_,_,hS',hx⟩,fun H2=>∃ m',m' < us.length - i∧(m'=us.length - (i + 1)∧i + 1≤us.length∧Same H H2∧H2 D=some (.lst (((l.take (i + 1)).map fun x=>(x.depth:Int)).map V.int))),fun _ z=>z,?_⟩
  rintro x H2 ⟨rfl,hy⟩
  have ey:=hy _ hS'
  rw [ev] at ey
  cases ey
  obtain ⟨y,dx,fs,rfl,hy1,hy2⟩:=nv.fld
  refine ⟨rfl,_,rfl,y,CN,dx,fs,_,rfl,hy1,N.cl,N.no _ (.tail _ (.tail _ (.tail _ (.tail _ (.head _))))),hy2,_,hD,?_,_,Nat.lt_of_lt_of_le (Nat.lt_succ_self _) (by omega),rfl,hlt,same_upd sm nD,?_⟩
  ·rw [List.length_map,List.length_map,List.length_take]
   show min i l.length < 2 ^ 24
   omega
  ·rw [upd_same,List.take_add_one,hl,List.map_append,List.map_append]
   rfl
 ·have e:i=us.length:=by omega
  subst e
  refine .inl ⟨⟨_,hS',Nat.le_refl _⟩,_,rfl,D,l.map fun x=>(x.depth:Int),rfl,SqL.of ?_,fun z=>?_,fun m h1 h2=>?_⟩
  ·rw [hD,ll,List.take_length]
  ·have:l=[]:=by simpa using z
   subst this
   exact q H' sm
  ·rw [depthL_max h1 h2]
   exact q H' sm
end
end Prg
end
section
set_option maxRecDepth 100000
set_option maxHeartbeats 4000000
namespace Prg
open PySem L2
open Vanbka (Bytes)
theorem pass_not{P:Program}{w:World}{X:Cx}:Passes (CXF P w) X (fun _ _ _=>False):=by
 rintro pins σ H s e s' I ⟨x,T,C,dx,H',_,_,_,_,_,_,_,_,_,_,z⟩
 exact z.elim
theorem depthB_max{l:List (List Node)}{p:Nat}{m:Int}(h1:m∈(l.map fun x=>(depthL x:Int)) ++ [(p:Int)])(h2:∀ y∈(l.map fun x=>(depthL x:Int)) ++ [(p:Int)],y≤m):m=((max p (depthB l):Nat):Int):=by
 have up:∀ (l:List (List Node)),∀ x∈l,depthL x≤depthB l:=by
  intro l
  induction l with
  | nil=>intro x hx;cases hx
  | cons y l ih =>
   intro x hx
   rw [depthB]
   rcases List.mem_cons.mp hx with z | z
   ·rw [z];omega
   ·have:=ih x z;omega
 have at_:∀ (l:List (List Node)),depthB l=0∨∃ x∈l,depthL x=depthB l:=by
  intro l
  induction l with
  | nil=>exact .inl (by rw [depthB])
  | cons y l ih =>
   right
   rw [depthB]
   by_cases c:depthL y≤depthB l
   ·rcases ih with z | ⟨x,hx,ex⟩
    ·exact ⟨y,.head _,by omega⟩
    ·exact ⟨x,List.mem_cons_of_mem _ hx,by omega⟩
   ·exact ⟨y,.head _,by omega⟩
 have a1:=h2 (p:Int) (by simp)
 have le:m≤((max p (depthB l):Nat):Int):=by
  rcases List.mem_append.mp h1 with z | z
  ·obtain ⟨x,hx,rfl⟩:=List.mem_map.mp z
   have:=up l x hx
   omega
  ·have:m=(p:Int):=by simpa using z
   omega
 have ge:(depthB l:Int)≤m:=by
  rcases at_ l with z | ⟨x,hx,ex⟩
  ·omega
  ·have:=h2 _ (List.mem_append_left _ (List.mem_map.mpr ⟨x,hx,rfl⟩))
   omega
 omega
def Mn(x:Addr)(H:Hp):Hp:=fun b=>if b=x then none else H b
theorem mn_same{x:Addr}{H H':Hp}(b:But x H H'):Same (Mn x H) H':=fun a o e=>by
 unfold Mn at e
 by_cases z:a=x
 ·rw [if_pos z] at e;cases e
 ·rw [if_neg z] at e;exact b a o e z
theorem But.refl(x:Addr)(H:Hp):But x H H:=fun _ _ e _=>e
theorem But.trans{x:Addr}{H H1 H2:Hp}(h:But x H H1)(k:But x H1 H2):But x H H2:=fun b o e n=>k b o (h b o e n) n
theorem But.then{x:Addr}{H H1 H2:Hp}(h:But x H H1)(k:Same H1 H2):But x H H2:=fun b o e n=>k b o (h b o e n)
theorem But.updx{x:Addr}{H H1:Hp}{o:HO}(h:But x H H1):But x H (upd H1 x o):=fun b u e n=>by rw [upd_ne n];exact h b u e n
theorem But.updn{x D:Addr}{H H1:Hp}{o:HO}(h:But x H H1)(nD:H D=none):But x H (upd H1 D o):=fun b u e n=>by
 rw [upd_ne (ne_of_none e nD)];exact h b u e n
section
variable{P:Program}{w:World}{K:PySem.W.Frag}{mg:Str→Option Value}{base:Heap}{f g g2 CF fI CT tI CR CN nI:Addr}{fd gd gd2 fdI tdI ndI:FuncData}
structure TreeAt(K:PySem.W.Frag)(mg:Str→Option Value)(CN nI:Addr)(ndI:FuncData):Prop where
 c:ClsAt K mg "Tree" CN ["kind", "leaves", "parts", "blocks", "depth", "place", "end"]
 make:Mk K CN nI
 F:Fun K "__init__" "Tree.__init__" sTreeInit nI ndI
 b:Binds K ndI ["self", "kind", "leaves", "parts", "blocks"] []
def spNI(CN:Addr):Sp:=fun vs H Q _=>∃ (x dx:Addr) (k:Str) (a1 a2 a3:Addr) (vps vbs:List V) (ps:List Node) (bs:List (List Node)),vs=[.ref x,.str k,.ref a1,.ref a2,.ref a3]∧H x=some (.ins CN dx [])∧H a2=some (.lst vps)∧H a3=some (.lst vbs)∧
 vps.length≤1000∧vbs.length≤1000∧NodesAt CN (Mn x H) ps vps∧BlocksAt CN (Mn x H) bs vbs∧∀ H',But x H H'→H' x=some (.ins CN dx (treeF k a1 a2 a3 ⟨dx,.non,.non⟩ (1 + max (depthL ps) (depthB bs))))→Q .non H'
theorem scNI:FnScope ["self", "kind", "leaves", "parts", "blocks", "below", "block"] ["self", "kind", "leaves", "parts", "blocks"] (defScope sTreeInit):=⟨rfl,rfl,rfl,by decide +kernel,rfl,by decide +kernel,by decide +kernel⟩
theorem blkNI:BlkOk ["self", "kind", "leaves", "parts", "blocks", "below", "block"] (defScope sTreeInit) { kind:=.function,names:=[(".0",.local),("block",.local),("greatest_depth",.globalImplicit)],isGenerator:=false,isCoroutine:=false } [("block",6)]:=⟨rfl,by decide +kernel,by decide +kernel,by decide +kernel,by decide +kernel⟩
theorem ok_NI(T:TreeAt K mg CN nI ndI)(G:Has P w K mg base 1 "greatest_depth" ["trees"] (spGreat K CN))(mm:mg "max"=none):FnOk P w K mg base (CXF P w) 2 nI ndI ["self", "kind", "leaves", "parts", "blocks"] (spNI CN):=by
 refine T.F.okF (k:=1) scNI (fun vs H Q E h=>?_) (fun cdv A outer s H vs Q E hr h=>?_)
 ·obtain ⟨x,dx,k,a1,a2,a3,vps,vbs,ps,bs,rfl,_⟩:=h
  rfl
 obtain ⟨x,dx,k,a1,a2,a3,vps,vbs,ps,bs,rfl,hx,h2,h3,l2,l3,hN,hB,q⟩:=h
 have nd:=scNI.nd
 have G0:=G
 obtain ⟨gf,gfd,gF,gb,gk,gm⟩:=G
 refine ⟨_,pss_cons (ps_fld (pv 0) (pv 1) rfl) (pss_cons (ps_fld (pv 0) (pv 2) rfl) (pss_cons (ps_fld (pv 0) (pv 3) rfl) (pss_cons (ps_fld (pv 0) (pv 4) rfl) (pss_cons (ps_fld (pv 0) pe_non rfl) (pss_cons (ps_fld (pv 0) pe_non rfl)
  (pss_cons (ps_setLc (i:=5) (own:=[("block",6)]) (te:=tCall (spGreat K CN) [] (fun _ _ _=>False) (tCons (tVar 6) tNil)) rfl nd rfl rfl rfl (pi_list (pv 4)) blkNI (fun _ _ _ _ _=>pg_name (i:=6) nd rfl (Or.inl rfl)) (fun _ _ _ _ _=>pts_nil)
   (fun _ _ _ _ _=>pe_call gF hr rfl gm gk gb .nil pass_not (pa_cons (pv 6) pa_nil)))
  (pss_cons (ps_expr (pe_bm PySem.F.plainAttrs_list PySem.F.slot_list_append PySem.F.type_list_append mt_append (pv 5) (pa_cons (pe_has G0 hr rfl (pa_cons (pv 3) pa_nil)) pa_nil)))
  (pss_one (ps_fld (pv 0) (pe_op op_add pe_int (pe_callB (cr_max rfl) rfl mm (by decide +kernel) (pa_cons (pv 5) pa_nil))) rfl))))))))),?_⟩
 refine ⟨_,rfl,_,rfl,x,CN,dx,_,rfl,hx,T.c.cl,T.c.no _ (.head _),(by show 0 < 1000;decide),?_⟩
 refine ⟨_,rfl,_,rfl,x,CN,dx,_,rfl,upd_same,T.c.cl,T.c.no _ (.tail _ (.head _)),(by show 1 < 1000;decide),?_⟩
 refine ⟨_,rfl,_,rfl,x,CN,dx,_,rfl,upd_same,T.c.cl,T.c.no _ (.tail _ (.tail _ (.head _))),(by show 2 < 1000;decide),?_⟩
 refine ⟨_,rfl,_,rfl,x,CN,dx,_,rfl,upd_same,T.c.cl,T.c.no _ (.tail _ (.tail _ (.tail _ (.head _)))),(by show 3 < 1000;decide),?_⟩
 refine ⟨_,rfl,x,CN,dx,_,rfl,upd_same,T.c.cl,T.c.no _ (by decide),(by show 4 < 1000;decide),?_⟩
 refine ⟨_,rfl,x,CN,dx,_,rfl,upd_same,T.c.cl,T.c.no _ (by decide),(by show 5 < 1000;decide),?_⟩
 rw [upd_upd,upd_upd,upd_upd,upd_upd,upd_upd]
 have b4:But x H (upd H x (.ins CN dx [("kind",.str k),("leaves",.ref a1),("parts",.ref a2),("blocks",.ref a3),("place",.non),("end",.non)])):=(But.refl x H).updx
 have n2:a2≠x:=fun z=>by rw [z,hx] at h2;cases h2
 have n3:a3≠x:=fun z=>by rw [z,hx] at h3;cases h3
 have lb:=BlocksAt.len bs vbs hB
 refine ⟨_,rfl,a3,rfl,⟨_,SqL.of (b4 _ _ h3 n3)⟩,fun D nD=>⟨fun i m H'=>m=vbs.length - i∧i≤vbs.length∧But x H H'∧H' x=some (.ins CN dx [("kind",.str k),("leaves",.ref a1),("parts",.ref a2),("blocks",.ref a3),("place",.non),("end",.non)])∧H' D=some (.lst (((bs.take i).map fun x=>(depthL x:Int)).map V.int)),?_,?_⟩⟩
 ·have Dx:D≠x:=fun z=>by
   have nD:upd H x _ D=none:=nD
   rw [z,upd_same] at nD;cases nD
  have nD':H D=none:=by
   have nD:upd H x _ D=none:=nD
   rwa [upd_ne Dx] at nD
  exact ⟨_,rfl,Nat.zero_le _,b4.updn nD',by rw [upd_ne (Ne.symm Dx),upd_same];rfl,upd_same⟩
 have Dx:D≠x:=fun z=>by
  have nD:upd H x _ D=none:=nD
  rw [z,upd_same] at nD;cases nD
 have nD':H D=none:=by
  have nD:upd H x _ D=none:=nD
  rwa [upd_ne Dx] at nD
 rintro i m H' ⟨rfl,hi,bt,hx',hD⟩
 have hS':SqL K H' a3 vbs:=SqL.of (bt _ _ h3 n3)
 have small:∀ j,j≤vbs.length→(((bs.take j).map fun x=>(depthL x:Int)).map V.int).length < sizeLine:=fun j hj=>by
  rw [List.length_map,List.length_map,List.length_take]
  show min j bs.length < 2 ^ 24
  omega
 by_cases hlt:i < vbs.length
 ·have hxi:vbs[i]? = some vbs[i]:=List.getElem?_eq_getElem hlt
  have hl:bs[i]? = some bs[i]:=List.getElem?_eq_getElem (by omega)
  obtain ⟨a,ws,ev,ha,lw,nv⟩:=BlocksAt.get bs vbs (hB.same (mn_same bt)) i _ hl
  refine .inr ⟨⟨_,_,hS',hxi⟩,fun H2=>∃ m',m' < vbs.length - i∧(m'=vbs.length - (i + 1)∧i + 1≤vbs.length∧But x H H2∧H2 x=some (.ins CN dx [("kind",.str k),("leaves",.ref a1),("parts",.ref a2),("blocks",.ref a3),("place",.non),("end",.non)])∧H2 D=some (.lst (((bs.take (i + 1)).map fun x=>(depthL x:Int)).map V.int))),fun _ z=>z,?_⟩
  rintro y H2 ⟨rfl,hy⟩
  have ey:=hy _ hS'
  rw [ev] at ey
  cases ey
  refine ⟨rfl,_,rfl,a,ws,_,rfl,SqL.of ha,nv,lw,fun H3 sm=>⟨_,sm _ _ hD,small i hi,_,Nat.lt_of_lt_of_le (Nat.lt_succ_self _) (by omega),rfl,hlt,(bt.then sm).updn nD',by rw [upd_ne (Ne.symm Dx)];exact sm _ _ hx',?_⟩⟩
  rw [upd_same,List.take_add_one,hl,List.map_append,List.map_append]
  rfl
 ·have e:i=vbs.length:=by omega
  subst e
  rw [lb,List.take_length] at hD
  refine .inl ⟨⟨_,hS',Nat.le_refl _⟩,_,rfl,.inl ⟨rfl,_,SqL.of hD⟩,_,rfl,a2,vps,ps,rfl,SqL.of (bt _ _ h2 n2),hN.same (mn_same bt),l2,fun H3 sm=>?_⟩
  have hD3:=sm _ _ hD
  have sl:=small _ (Nat.le_refl _)
  rw [lb,List.take_length] at sl
  refine ⟨D,_,_,rfl,rfl,hD3,sl,?_⟩
  refine ⟨_,rfl,D,(bs.map fun x=>(depthL x:Int)) ++ [(depthL ps:Int)],rfl,SqL.of (by rw [upd_same,List.map_append];rfl),by simp,fun m h1 h2=>?_⟩
  rw [depthB_max h1 h2]
  refine ⟨_,_,rfl,rfl,_,rfl,x,CN,dx,_,rfl,by rw [upd_ne (Ne.symm Dx)];exact sm _ _ hx',T.c.cl,T.c.no _ (.tail _ (.tail _ (.tail _ (.tail _ (.head _))))),(by show 6 < 1000;decide),q _ ((bt.then sm).updn nD').updx ?_⟩
  rw [upd_same]
  rfl
end
end Prg
end
section
set_option maxRecDepth 100000
set_option maxHeartbeats 4000000
namespace Prg
open PySem L2
open Vanbka (Bytes Lex reserved isSign isWord next nameNext wordNext eat b halt_ placeAt tooDeepAt Op Prim Way Exprs Fields Stmts)
def opK:Op→Str
 | .or => "or" | .and => "and" | .eq => "==" | .ne => "!=" | .lt => "<" | .le => "<=" | .gt => ">" | .ge => ">=" | .join => "++" | .add => "+" | .sub => "-" | .mul => "*" | .div => "/" | .rem => "percent"
def primK:Prim→Str
 | .len => "len" | .keys => "keys" | .text => "text" | .num => "num" | .roll => "roll" | .cut => "cut" | .with => "with"
def wayK:Way→Str
 | .show => "show" | .table => "table" | .plot => "plot" | .check => "check" | .do => "do" | .give => "give"
def namesF:Fields→List Leaf
 | .nil=>[]
 | .cons x _ l=>.bytes x::namesF l
mutual
def nodeE:Vanbka.Expr→Node
 | .num n=>.mk "NUMBER" [.int n] [] []
 | .quoted s=>.mk "QUOTED" [.bytes s] [] []
 | .truth v=>.mk (if v then "yes" else "no") [] [] []
 | .nothing=>.mk "none" [] [] []
 | .name x=>.mk "NAME" [.bytes x] [] []
 | .list l=>.mk "list" [] (nodesE l) []
 | .record l=>.mk "record" (namesF l) (nodesF l) []
 | .minus e=>.mk "minus" [] [nodeE e] []
 | .not e=>.mk "not" [] [nodeE e] []
 | .bin o x y=>.mk (opK o) [] [nodeE x,nodeE y] []
 | .pick c x y=>.mk "?" [] [nodeE c,nodeE x,nodeE y] []
 | .call f l=>.mk "call" [] (nodeE f::nodesE l) []
 | .index l i=>.mk "element" [] [nodeE l,nodeE i] []
 | .field r x=>.mk "field" [.bytes x] [nodeE r] []
 | .prim p l=>.mk (primK p) [] (nodesE l) []
 | .fn own ps s=>.mk "fn" (.bytes (own.getD [])::ps.map .bytes) [] [nodesS s]
def nodesE:Exprs→List Node
 | .nil=>[]
 | .cons e l=>nodeE e::nodesE l
def nodesF:Fields→List Node
 | .nil=>[]
 | .cons _ e l=>nodeE e::nodesF l
def nodeS:Vanbka.Stmt→Node
 | .leta x e=>.mk "let" [.bytes x] [nodeE e] []
 | .seta x e=>.mk "set" [.bytes x] [nodeE e] []
 | .way w e=>.mk (wayK w) [] [nodeE e] []
 | .iff c x=>.mk "if" [] [nodeE c] [nodesS x]
 | .iffElse c x y=>.mk "if" [] [nodeE c] [nodesS x,nodesS y]
 | .while_ c x=>.mk "while" [] [nodeE c] [nodesS x]
 | .for x e l=>.mk "for" [.bytes x] [nodeE e] [nodesS l]
 | .slider x v lo hi=>.mk "slider" [.bytes x,.int v,.int lo,.int hi] [] []
 | .choice x v l=>.mk "choice" (.bytes x :: .int v::l.map .bytes) [] []
def nodesS:Stmts→List Node
 | .nil=>[]
 | .cons s l=>nodeS s::nodesS l
end
mutual
theorem depth_E:∀ e:Vanbka.Expr,(nodeE e).depth=e.depth
 | .num n=>by simp [nodeE,Node.depth,depthL,depthB,Vanbka.Expr.depth]
 | .quoted s=>by simp [nodeE,Node.depth,depthL,depthB,Vanbka.Expr.depth]
 | .truth v=>by simp [nodeE,Node.depth,depthL,depthB,Vanbka.Expr.depth]
 | .nothing=>by simp [nodeE,Node.depth,depthL,depthB,Vanbka.Expr.depth]
 | .name x=>by simp [nodeE,Node.depth,depthL,depthB,Vanbka.Expr.depth]
 | .list l=>by simp [nodeE,Node.depth,depthB,Vanbka.Expr.depth,depth_Es l]
 | .record l=>by simp [nodeE,Node.depth,depthB,Vanbka.Expr.depth,depth_Fs l]
 | .minus e=>by simp [nodeE,Node.depth,depthL,depthB,Vanbka.Expr.depth,depth_E e]
 | .not e=>by simp [nodeE,Node.depth,depthL,depthB,Vanbka.Expr.depth,depth_E e]
 | .bin o x y=>by simp [nodeE,Node.depth,depthL,depthB,Vanbka.Expr.depth,depth_E x,depth_E y]
 | .pick c x y=>by simp [nodeE,Node.depth,depthL,depthB,Vanbka.Expr.depth,depth_E c,depth_E x,depth_E y]
 | .call f l=>by simp [nodeE,Node.depth,depthL,depthB,Vanbka.Expr.depth,depth_E f,depth_Es l]
 | .index l i=>by simp [nodeE,Node.depth,depthL,depthB,Vanbka.Expr.depth,depth_E l,depth_E i]
 | .field r x=>by simp [nodeE,Node.depth,depthL,depthB,Vanbka.Expr.depth,depth_E r]
 | .prim p l=>by simp [nodeE,Node.depth,depthB,Vanbka.Expr.depth,depth_Es l]
 | .fn own ps s=>by simp [nodeE,Node.depth,depthL,depthB,Vanbka.Expr.depth,depth_Ss s]
theorem depth_Es:∀ l:Exprs,depthL (nodesE l)=l.depth
 | .nil=>by simp [nodesE,depthL,Exprs.depth]
 | .cons e l=>by simp [nodesE,depthL,Exprs.depth,depth_E e,depth_Es l]
theorem depth_Fs:∀ l:Fields,depthL (nodesF l)=l.depth
 | .nil=>by simp [nodesF,depthL,Fields.depth]
 | .cons x e l=>by simp [nodesF,depthL,Fields.depth,depth_E e,depth_Fs l]
theorem depth_S:∀ s:Vanbka.Stmt,(nodeS s).depth=s.depth
 | .leta x e=>by simp [nodeS,Node.depth,depthL,depthB,Vanbka.Stmt.depth,depth_E e]
 | .seta x e=>by simp [nodeS,Node.depth,depthL,depthB,Vanbka.Stmt.depth,depth_E e]
 | .way w e=>by simp [nodeS,Node.depth,depthL,depthB,Vanbka.Stmt.depth,depth_E e]
 | .iff c x=>by simp [nodeS,Node.depth,depthL,depthB,Vanbka.Stmt.depth,depth_E c,depth_Ss x]
 | .iffElse c x y=>by simp [nodeS,Node.depth,depthL,depthB,Vanbka.Stmt.depth,depth_E c,depth_Ss x,depth_Ss y]
 | .while_ c x=>by simp [nodeS,Node.depth,depthL,depthB,Vanbka.Stmt.depth,depth_E c,depth_Ss x]
 | .for x e l=>by simp [nodeS,Node.depth,depthL,depthB,Vanbka.Stmt.depth,depth_E e,depth_Ss l]
 | .slider x v lo hi=>by simp [nodeS,Node.depth,depthL,depthB,Vanbka.Stmt.depth]
 | .choice x v l=>by simp [nodeS,Node.depth,depthL,depthB,Vanbka.Stmt.depth]
theorem depth_Ss:∀ l:Stmts,depthL (nodesS l)=l.depth
 | .nil=>by simp [nodesS,depthL,Stmts.depth]
 | .cons s l=>by simp [nodesS,depthL,Stmts.depth,depth_S s,depth_Ss l]
end
structure Ad where
 CF:Addr
 CT:Addr
 CR:Addr
 CN:Addr
abbrev RDa(D:Ad):=RD D.CT D.CR
def Out{α:Type}(D:Ad)(X:Tx)(rd:Addr)(H:Hp)(Q:VK)(E:XK)(rep:Hp→α→V→Prop)(res:Except Nat (α×List Vanbka.Tok)):Prop:=match res with
 | .ok (a,r)=>∀ v H',But rd H H'→RDa D X rd H' r→rep (Cut X.T H H') a v→Q v H'
 | .error l=>Err D.CF E 4 (placeAt X.all X.len l:Nat)
def room(h r:Nat):Nat:=if h≤24 then 20 * (24 - h) + r else 0
structure Pre(D:Ad)(X:Tx)(rd:Addr)(H:Hp)(rs:List Vanbka.Tok)(h n r:Nat):Prop where
 R:RDa D X rd H rs
 dp:tooDeepAt (h:Int) rs=none
 le:h≤24
 fu:16 * rs.length + r≤n
 sm:X.all.length≤700
abbrev repE(D:Ad):Hp→Vanbka.Expr→V→Prop:=fun H e v=>NodeAt D.CN H (nodeE e) v
abbrev repS(D:Ad):Hp→Vanbka.Stmt→V→Prop:=fun H e v=>NodeAt D.CN H (nodeS e) v
abbrev repEs(D:Ad):Hp→Exprs→V→Prop:=fun H l v=>∃ a vs,v = .ref a∧H a=some (.lst vs)∧vs.length≤700∧NodesAt D.CN H (nodesE l) vs
abbrev repSs(D:Ad):Hp→Stmts→V→Prop:=fun H l v=>∃ a vs,v = .ref a∧H a=some (.lst vs)∧vs.length≤700∧NodesAt D.CN H (nodesS l) vs
section
variable{D:Ad}{X:Tx}{rd:Addr}{H H' H1 H2:Hp}{rs:List Vanbka.Tok}
theorem gr_of(bt:But rd H H1)(R:RDa D X rd H1 rs):∀ b,H1 b=none→H b=none:=fun b z=>by
 cases e:H b with
 | none=>rfl
 | some o =>
  by_cases y:b=rd
  ·obtain ⟨dx,pre,h,_⟩:=R.ob
   rw [y,h] at z;cases z
  ·rw [bt b o e y] at z;cases z
theorem cut_sub(st:Same X.T H1):Same (Cut X.T H H1) H1:=fun b o e=>by
 rcases cut_cases e with z | ⟨_,_,z⟩
 ·exact st _ _ z
 ·exact z
theorem cut_on{T:Hp}(h:∀ b o,H b=none→H1 b=some o→H2 b=some o):Same (Cut T H H1) (Cut T H H2):=cut_grow (fun _ z=>z) h
theorem cut_on_same{T:Hp}(s:Same H1 H2):Same (Cut T H H1) (Cut T H H2):=cut_on fun b o _ e=>s b o e
theorem cut_on_but{T:Hp}(R:RDa D X rd H rs)(s:But rd H1 H2):Same (Cut T H H1) (Cut T H H2):=cut_on fun b o n e=>s b o e fun z=>by
 obtain ⟨dx,pre,h,_⟩:=R.ob
 rw [z,h] at n;cases n
theorem cut_part{T:Hp}(bt:But rd H H1)(R:RDa D X rd H1 rs):Same (Cut T H1 H2) (Cut T H H2):=cut_grow (gr_of bt R) fun _ _ _ e=>e
theorem cut_tok{T:Hp}:Same T (Cut T H H1):=fun b o e=>cut_old e
theorem gone_T(st:Same X.T H1){x:Addr}(n:H1 x=none):X.T x=none:=none_of_same st n
end
theorem make_node{D:Ad}{T:Hp}{H H1:Hp}{Q:Addr→Hp→Prop}{E:XK}{k:Str}{a1 a2 a3:Addr}{vls vps vbs:List V}{ls:List Leaf}{ps:List Node}{bs:List (List Node)}(gr:∀ b,H1 b=none→H b=none)(st:Same T H1)
  (h1:Cut T H H1 a1=some (.lst vls)) (h2:Cut T H H1 a2=some (.lst vps)) (h3:Cut T H H1 a3=some (.lst vbs)) (sz:vls.length≤1000∧vps.length≤1000∧vbs.length≤1000)
  (hl:Paired (LeafAt (Cut T H H1)) ls vls) (hp:NodesAt D.CN (Cut T H H1) ps vps) (hb:BlocksAt D.CN (Cut T H H1) bs vbs) (q:∀ x H2,Same H1 H2→NodeAt D.CN (Cut T H H2) (.mk k ls ps bs) (.ref x)→Q x H2) :
  ∀ x dx,H1 x=none→H1 dx=none→dx≠x→spNI D.CN [.ref x,.str k,.ref a1,.ref a2,.ref a3] (upd (upd H1 dx (.own x)) x (.ins D.CN dx [])) (fun v H2=>v = .non∧Q x H2) E:=by
 intro x dx nx nd ne
 have sub:Same (Cut T H H1) H1:=fun b o e=>by
  rcases cut_cases e with z | ⟨_,_,z⟩
  ·exact st _ _ z
  ·exact z
 have up:Same H1 (Mn x (upd (upd H1 dx (.own x)) x (.ins D.CN dx []))):=fun b o e=>by
  have n1:b≠x:=ne_of_none e nx
  have n2:b≠dx:=ne_of_none e nd
  unfold Mn
  rw [if_neg n1,upd_ne n1,upd_ne n2]
  exact e
 have up2:∀ b o,H1 b=some o→upd (upd H1 dx (.own x)) x (.ins D.CN dx []) b=some o:=fun b o e=>by
  rw [upd_ne (ne_of_none e nx),upd_ne (ne_of_none e nd)];exact e
 refine ⟨x,dx,k,a1,a2,a3,vps,vbs,ps,bs,rfl,upd_same,up2 _ _ (sub _ _ h2),up2 _ _ (sub _ _ h3),sz.2.1,sz.2.2,hp.same (sub.trans up),hb.same (sub.trans up),fun H2 bt e=>⟨rfl,?_⟩⟩
 have sm:Same H1 H2:=But.same nx nd bt
 have g:Same (Cut T H H1) (Cut T H H2):=cut_on_same sm
 exact q x H2 sm ⟨x,⟨dx,.non,.non⟩,a1,a2,a3,vls,vps,vbs,rfl,cut_new (none_of_same st nx) (gr x nx) e,g _ _ h1,g _ _ h2,g _ _ h3,sz,Paired.mapP hl fun _ _ z=>z.same g,hp.same g,hb.same g⟩
end Prg
end
section
set_option maxRecDepth 100000
set_option maxHeartbeats 4000000
namespace Prg
open PySem L2
open Vanbka (Bytes Lex reserved isSign isWord next nameNext wordNext eat b halt_ placeAt tooDeepAt Op Prim Way Exprs Fields Stmts)
section
variable{rs:List Vanbka.Tok}
theorem nxEq(h:WfL rs):next (isSign "=") rs=decide (headK rs=("=":Str)):=next_sign h (by decide +kernel) (by decide +kernel)
theorem nxSemi(h:WfL rs):next (isSign ";") rs=decide (headK rs=(";":Str)):=next_sign h (by decide +kernel) (by decide +kernel)
theorem nxColon(h:WfL rs):next (isSign ":") rs=decide (headK rs=(":":Str)):=next_sign h (by decide +kernel) (by decide +kernel)
theorem nxComma(h:WfL rs):next (isSign ",") rs=decide (headK rs=(",":Str)):=next_sign h (by decide +kernel) (by decide +kernel)
theorem nxPo(h:WfL rs):next (isSign "(") rs=decide (headK rs=("(":Str)):=next_sign h (by decide +kernel) (by decide +kernel)
theorem nxPc(h:WfL rs):next (isSign ")") rs=decide (headK rs=(")":Str)):=next_sign h (by decide +kernel) (by decide +kernel)
theorem nxBo(h:WfL rs):next (isSign "[") rs=decide (headK rs=("[":Str)):=next_sign h (by decide +kernel) (by decide +kernel)
theorem nxBc(h:WfL rs):next (isSign "]") rs=decide (headK rs=("]":Str)):=next_sign h (by decide +kernel) (by decide +kernel)
theorem nxCo(h:WfL rs):next (isSign "{") rs=decide (headK rs=("{":Str)):=next_sign h (by decide +kernel) (by decide +kernel)
theorem nxCc(h:WfL rs):next (isSign "}") rs=decide (headK rs=("}":Str)):=next_sign h (by decide +kernel) (by decide +kernel)
theorem nxMinus(h:WfL rs):next (isSign "-") rs=decide (headK rs=("-":Str)):=next_sign h (by decide +kernel) (by decide +kernel)
theorem nxQ(h:WfL rs):next (isSign "?") rs=decide (headK rs=("?":Str)):=next_sign h (by decide +kernel) (by decide +kernel)
theorem nxDot(h:WfL rs):next (isSign ".") rs=decide (headK rs=(".":Str)):=next_sign h (by decide +kernel) (by decide +kernel)
theorem nw_let(h:WfL rs):next (isWord "let") rs=decide (headK rs=("let":Str)):=next_word h (by decide +kernel) (by decide +kernel)
theorem nw_set(h:WfL rs):next (isWord "set") rs=decide (headK rs=("set":Str)):=next_word h (by decide +kernel) (by decide +kernel)
theorem nw_if(h:WfL rs):next (isWord "if") rs=decide (headK rs=("if":Str)):=next_word h (by decide +kernel) (by decide +kernel)
theorem nw_else(h:WfL rs):next (isWord "else") rs=decide (headK rs=("else":Str)):=next_word h (by decide +kernel) (by decide +kernel)
theorem nw_while(h:WfL rs):next (isWord "while") rs=decide (headK rs=("while":Str)):=next_word h (by decide +kernel) (by decide +kernel)
theorem nw_for(h:WfL rs):next (isWord "for") rs=decide (headK rs=("for":Str)):=next_word h (by decide +kernel) (by decide +kernel)
theorem nw_in(h:WfL rs):next (isWord "in") rs=decide (headK rs=("in":Str)):=next_word h (by decide +kernel) (by decide +kernel)
theorem nw_slider(h:WfL rs):next (isWord "slider") rs=decide (headK rs=("slider":Str)):=next_word h (by decide +kernel) (by decide +kernel)
theorem nw_choice(h:WfL rs):next (isWord "choice") rs=decide (headK rs=("choice":Str)):=next_word h (by decide +kernel) (by decide +kernel)
theorem nw_not(h:WfL rs):next (isWord "not") rs=decide (headK rs=("not":Str)):=next_word h (by decide +kernel) (by decide +kernel)
theorem nw_fn(h:WfL rs):next (isWord "fn") rs=decide (headK rs=("fn":Str)):=next_word h (by decide +kernel) (by decide +kernel)
theorem nw_yes(h:WfL rs):next (isWord "yes") rs=decide (headK rs=("yes":Str)):=next_word h (by decide +kernel) (by decide +kernel)
theorem nw_no(h:WfL rs):next (isWord "no") rs=decide (headK rs=("no":Str)):=next_word h (by decide +kernel) (by decide +kernel)
theorem nw_none(h:WfL rs):next (isWord "none") rs=decide (headK rs=("none":Str)):=next_word h (by decide +kernel) (by decide +kernel)
end
def OutE(D:Ad)(X:Tx)(rd:Addr)(H:Hp)(Q:VK)(E:XK)(res:Except Nat (List Vanbka.Tok)):Prop:=match res with
 | .ok r=>∀ v H',But rd H H'→RDa D X rd H' r→Q v H'
 | .error l=>Err D.CF E 4 (placeAt X.all X.len l:Nat)
def OutT{α:Type}(D:Ad)(X:Tx)(rd:Addr)(H:Hp)(Q:VK)(E:XK)(rep:Hp→α→V→Prop)(res:Except Nat (α×List Vanbka.Tok)):Prop:=match res with
 | .ok (a,r)=>∀ v H',But rd H H'→RDa D X rd H' r→rep X.T a v→Q v H'
 | .error l=>Err D.CF E 4 (placeAt X.all X.len l:Nat)
section
variable{D:Ad}{X:Tx}{rd:Addr}{H H1:Hp}{Q Q1:VK}{E:XK}{rs:List Vanbka.Tok}{α β:Type}{rep:Hp→β→V→Prop}{rep1:Hp→α→V→Prop}
theorem out_call{x:Except Nat (α×List Vanbka.Tok)}{f:α×List Vanbka.Tok→Except Nat (β×List Vanbka.Tok)}(out:Out D X rd H Q E rep (x >>= f))
  (k:∀ a r,x = .ok (a,r)→Out D X rd H Q E rep (f (a,r))→∀ v H2,But rd H1 H2→RDa D X rd H2 r→rep1 (Cut X.T H1 H2) a v→Q1 v H2):Out D X rd H1 Q1 E rep1 x:=by
 cases x with
 | error l=>exact out
 | ok p=>exact fun v H2 b R n=>k p.1 p.2 rfl out v H2 b R n
theorem out_tok{x:Except Nat (α×List Vanbka.Tok)}{f:α×List Vanbka.Tok→Except Nat (β×List Vanbka.Tok)}(out:Out D X rd H Q E rep (x >>= f))
  (k:∀ a r,x = .ok (a,r)→Out D X rd H Q E rep (f (a,r))→∀ v H2,But rd H1 H2→RDa D X rd H2 r→rep1 X.T a v→Q1 v H2):OutT D X rd H1 Q1 E rep1 x:=by
 cases x with
 | error l=>exact out
 | ok p=>exact fun v H2 b R n=>k p.1 p.2 rfl out v H2 b R n
theorem out_eat{x:Except Nat (List Vanbka.Tok)}{f:List Vanbka.Tok→Except Nat (β×List Vanbka.Tok)}(out:Out D X rd H Q E rep (x >>= f))
  (k:∀ r,x = .ok r→Out D X rd H Q E rep (f r)→∀ v H2,But rd H1 H2→RDa D X rd H2 r→Q1 v H2):OutE D X rd H1 Q1 E x:=by
 cases x with
 | error l=>exact out
 | ok r=>exact fun v H2 b R=>k r rfl out v H2 b R
theorem m_eat{i:Nat}{σ:St}{ta:TE}{p:Vanbka.Tok→Bool}{z:Str}(R:RDa D X rd H rs)(hp:next p rs=decide (headK rs=z))(h:OutE D X rd H Q E (eat p rs))(hz:z≠"END":=by decide)(hta:∀ Q':VK,Q' (.str z) H→ta σ H Q':=by exact fun _ q=>q)(hi:σ[i]? = some (some (.ref rd)):=by rfl) :
  tMeth D.CR "take" (spTake D.CF D.CT D.CR) [] E (tVar i) (tCons ta tNil) σ H Q:=by
 refine rd_meth hi R (hta _ ⟨X,rd,rs,z,rfl,hz,R,?_⟩)
 unfold eat at h
 rw [hp] at h
 by_cases c:headK rs=z
 ·rw [decide_eq_true c,if_pos rfl] at h
  rw [if_pos c]
  exact fun v H' b R' _=>h v H' b R'
 ·rw [decide_eq_false c,if_neg Bool.false_ne_true] at h
  rw [if_neg c]
  exact h
theorem m_name{i:Nat}{σ:St}{ta:TE}(R:RDa D X rd H rs)(h:OutT D X rd H Q E (fun T x v=>LeafAt T (.bytes x) v) (Vanbka.name rs))(hta:∀ Q':VK,Q' (.str "NAME") H→ta σ H Q':=by exact fun _ q=>q)(hi:σ[i]? = some (some (.ref rd)):=by rfl) :
  tMeth D.CR "take" (spTake D.CF D.CT D.CR) [] E (tVar i) (tCons ta tNil) σ H Q:=by
 refine rd_meth hi R (hta _ ⟨X,rd,rs,_,rfl,by decide,R,?_⟩)
 have wf:=R.wfr
 cases rs with
 | nil=>rw [if_neg (show ¬ headK [] = "NAME" by decide)];exact h
 | cons t r =>
  obtain ⟨l,p,n⟩:=t
  by_cases c:kindS l = "NAME"
  ·obtain ⟨x,rfl,hx⟩:=(kind_isName (wf _ (.head _))).mp c
   rw [if_pos (show headK ({ lex:=.word x,place:=p,len:=n }::r) = "NAME" from c)]
   have e:Vanbka.name ({ lex:=.word x,place:=p,len:=n }::r) = .ok (x,r):=by
    unfold Vanbka.name nameNext
    dsimp only
    rw [hx]
    rfl
   rw [e] at h
   intro v H' b R' tv
   have tv:(if reserved.contains x then v = .non else ∃ a,v = .ref a∧X.T a=some (.lst (vb x))):=tv
   rw [hx,if_neg Bool.false_ne_true] at tv
   exact h v H' b R' tv
  ·rw [if_neg (show ¬ headK ({ lex:=l,place:=p,len:=n }::r) = "NAME" from c)]
   have e:Vanbka.name ({ lex:=l,place:=p,len:=n }::r)=halt_ ({ lex:=l,place:=p,len:=n }::r):=by
    unfold Vanbka.name nameNext
    cases l with
    | word x =>
     dsimp only
     cases hx:reserved.contains x with
     | true=>rfl
     | false=>exact absurd (kind_name hx) c
    | _=>rfl
   rw [e] at h
   exact h
theorem m_number{i:Nat}{σ:St}{ta:TE}(R:RDa D X rd H rs)(h:OutT D X rd H Q E (fun _ n v=>v = .int (n:Nat)) (Vanbka.number rs))(hta:∀ Q':VK,Q' (.str "NUMBER") H→ta σ H Q':=by exact fun _ q=>q)(hi:σ[i]? = some (some (.ref rd)):=by rfl) :
  tMeth D.CR "take" (spTake D.CF D.CT D.CR) [] E (tVar i) (tCons ta tNil) σ H Q:=by
 refine rd_meth hi R (hta _ ⟨X,rd,rs,_,rfl,by decide,R,?_⟩)
 have wf:=R.wfr
 cases rs with
 | nil=>rw [if_neg (show ¬ headK [] = "NUMBER" by decide)];exact h
 | cons t r =>
  obtain ⟨l,p,n⟩:=t
  by_cases c:kindS l = "NUMBER"
  ·obtain ⟨x,rfl⟩:=(kind_isNum (wf _ (.head _))).mp c
   rw [if_pos (show headK ({ lex:=.num x,place:=p,len:=n }::r) = "NUMBER" from c)]
   exact fun v H' b R' tv=>h v H' b R' tv
  ·rw [if_neg (show ¬ headK ({ lex:=l,place:=p,len:=n }::r) = "NUMBER" from c)]
   cases l with
   | num x=>exact absurd rfl c
   | _=>exact h
theorem m_quoted{i:Nat}{σ:St}{ta:TE}(R:RDa D X rd H rs)(h:OutT D X rd H Q E (fun T x v=>LeafAt T (.bytes x) v) (Vanbka.quoted rs))(hta:∀ Q':VK,Q' (.str "QUOTED") H→ta σ H Q':=by exact fun _ q=>q)(hi:σ[i]? = some (some (.ref rd)):=by rfl) :
  tMeth D.CR "take" (spTake D.CF D.CT D.CR) [] E (tVar i) (tCons ta tNil) σ H Q:=by
 refine rd_meth hi R (hta _ ⟨X,rd,rs,_,rfl,by decide,R,?_⟩)
 have wf:=R.wfr
 cases rs with
 | nil=>rw [if_neg (show ¬ headK [] = "QUOTED" by decide)];exact h
 | cons t r =>
  obtain ⟨l,p,n⟩:=t
  by_cases c:kindS l = "QUOTED"
  ·obtain ⟨x,rfl⟩:=(kind_isQuo (wf _ (.head _))).mp c
   rw [if_pos (show headK ({ lex:=.quoted x,place:=p,len:=n }::r) = "QUOTED" from c)]
   exact fun v H' b R' tv=>h v H' b R' tv
  ·rw [if_neg (show ¬ headK ({ lex:=l,place:=p,len:=n }::r) = "QUOTED" from c)]
   cases l with
   | quoted x=>exact absurd rfl c
   | _=>exact h
theorem m_takeK{i:Nat}{σ:St}{ta:TE}{z:Str}(R:RDa D X rd H rs)(c:headK rs=z)(h:∀ v H',But rd H H'→RDa D X rd H' (rs.drop 1)→TVal X.T rs v→Q v H')(hz:z≠"END":=by decide)(hta:∀ Q':VK,Q' (.str z) H→ta σ H Q':=by exact fun _ q=>q)(hi:σ[i]? = some (some (.ref rd)):=by rfl) :
  tMeth D.CR "take" (spTake D.CF D.CT D.CR) [] E (tVar i) (tCons ta tNil) σ H Q:=by
 refine rd_meth hi R (hta _ ⟨X,rd,rs,z,rfl,hz,R,?_⟩)
 rw [if_pos c]
 exact h
theorem m_move{i:Nat}{σ:St}{t:Vanbka.Tok}{r:List Vanbka.Tok}(R:RDa D X rd H (t::r))(h:∀ H',But rd H H'→RDa D X rd H' r→Q (.str (kindS t.lex)) H')(hi:σ[i]? = some (some (.ref rd)):=by rfl) :
  tMeth D.CR "move_on" (spMove D.CT D.CR) [] E (tVar i) tNil σ H Q :=
 rd_meth hi R ⟨X,rd,t,r,rfl,R,h⟩
end
end Prg
end
section
set_option maxRecDepth 100000
set_option maxHeartbeats 4000000
namespace Prg
open PySem L2
open Vanbka (Bytes Lex reserved isSign isWord next nameNext wordNext eat b halt_ placeAt tooDeepAt Op Prim Way Exprs Fields Stmts whole number namesMore quotedMore)
abbrev sReadWhole:PySem.Stmt:=top 29
abbrev sReadLeaves:PySem.Stmt:=top 31
abbrev sJoinsAt:PySem.Stmt:=top 33
section
variable{P:Program}{w:World}{K:PySem.W.Frag}{mg:Str→Option Value}{base:Heap}{f:Addr}{fd:FuncData}{D:Ad}
structure Base(P:Program)(w:World)(K:PySem.W.Frag)(mg:Str→Option Value)(base:Heap)(D:Ad):Prop where
 fault:∃ fI fdI,FaultAt K mg D.CF fI fdI
 rd:ReaderAt K mg D.CR
 tree:∃ nI ndI,TreeAt K mg D.CN nI ndI∧FnOk P w K mg base (CXF P w) 2 nI ndI ["self", "kind", "leaves", "parts", "blocks"] (spNI D.CN)
 look:HasM P w K mg base D.CR 1 "look" ["self"] (spLook D.CT D.CR)
 behind:HasM P w K mg base D.CR 1 "look_behind" ["self"] (spBehind D.CT D.CR)
 here:HasM P w K mg base D.CR 1 "here" ["self"] (spHere D.CT D.CR)
 move:HasM P w K mg base D.CR 2 "move_on" ["self"] (spMove D.CT D.CR)
 take:HasM P w K mg base D.CR 3 "take" ["self", "kind"] (spTake D.CF D.CT D.CR)
 cNo:CI mg "NO_PROGRAM" 4
 ml:mg "len"=none
 cOr:CI mg "OR_LINE" 1
 cNot:CI mg "NOT_LINE" 3
 cCmp:CI mg "COMPARED_LINE" 4
 cSig:CI mg "SIGNED_LINE" 8
 last:HasM P w K mg base D.CR 1 "behind_last" ["self"] (spLast D.CT D.CR)
theorem pe_tree{N:List Str}{qual:Str}{scope:Scope}{f:Addr}{cd:Value}{A:Around}{outer:List Env}{s:Shared}{H:Hp}{E:XK}{j:Nat}{e1 e2 e3 e4:PySem.Expr}{t1 t2 t3 t4:TE}{np cpos:Pos}(B:Base P w K mg base D)
  (hr:Room j (cxOf (CXF P w) P w K mg base N qual scope f cd A outer s H E).A) (hg:Gl (cxOf (CXF P w) P w K mg base N qual scope f cd A outer s H E) "Tree") (ha:PA (cxOf (CXF P w) P w K mg base N qual scope f cd A outer s H E) [e1,e2,e3,e4] (tCons t1 (tCons t2 (tCons t3 (tCons t4 tNil))))) (hj:3≤j:=by decide)
  (he:starEach [e1,e2,e3,e4] (cxOf (CXF P w) P w K mg base N qual scope f cd A outer s H E).env=(false,eval e1 (cxOf (CXF P w) P w K mg base N qual scope f cd A outer s H E).env)::starEach [e2,e3,e4] (cxOf (CXF P w) P w K mg base N qual scope f cd A outer s H E).env:=by rfl)
  (hpl:(backTo cpos (starEach [e2,e3,e4] (cxOf (CXF P w) P w K mg base N qual scope f cd A outer s H E).env)).any (·.1)=false:=by rfl) :
  PE (cxOf (CXF P w) P w K mg base N qual scope f cd A outer s H E) (.Call (.Name "Tree" np) [e1,e2,e3,e4] [] cpos) (tMake D.CN (spNI D.CN) [] E (tCons t1 (tCons t2 (tCons t3 (tCons t4 tNil))))):=by
 obtain ⟨nI,ndI,T,F⟩:=B.tree
 exact pe_make T.make F (hr.mono hj) hg T.c.m T.b .nil passF ha (by decide) he hpl
def spWhole(D:Ad):Sp:=fun vs H Q E=>∃ X rd rs,vs=[.ref rd]∧RDa D X rd H rs∧OutT D X rd H Q E (fun _ z v=>v = .int z) (whole rs)
theorem scWhole:FnScope ["reader"] ["reader"] (defScope sReadWhole):=⟨rfl,rfl,rfl,by decide +kernel,rfl,by decide +kernel,by decide +kernel⟩
theorem ok_whole(F:Fun K "read_whole" "read_whole" sReadWhole f fd)(B:Base P w K mg base D):FnOk P w K mg base (CXF P w) 4 f fd ["reader"] (spWhole D):=by
 refine F.okF (k:=3) scWhole (fun vs H Q E h=>?_) (fun cdv A outer s H vs Q E hr h=>?_)
 ·obtain ⟨X,rd,rs,rfl,_⟩:=h
  rfl
 obtain ⟨X,rd,rs,rfl,R,out⟩:=h
 have cl:=B.rd.c.cl
 refine ⟨_,pss_cons (ps_if (pt_cmpR op_eq (pe_hasM0 B.look cl hr (pv 0)) pe_str (nomark _))
   (pss_cons (ps_expr (pe_hasM B.take cl hr (pv 0) (pa_cons pe_str pa_nil))) (pss_one (ps_ret (pe_un un_neg (pe_hasM B.take cl hr (pv 0) (pa_cons pe_str pa_nil)))))) pss_nil)
  (pss_one (ps_ret (pe_hasM B.take cl hr (pv 0) (pa_cons pe_str pa_nil)))),?_⟩
 unfold whole at out
 rw [nxMinus R.wfr] at out
 refine m_look R ⟨rfl,_,rfl,ite2 (fun c=>?_) (fun c=>?_)⟩
 ·have c:headK rs = "-":=by have:=of_decide_eq_true c;injection this
  rw [decide_eq_true c,if_pos rfl] at out
  refine m_takeK R c fun v H1 b1 R1 _=>?_
  refine m_number R1 ?_
  cases he:number (rs.drop 1) with
  | error l=>rw [he] at out;exact out
  | ok p =>
   rw [he] at out
   exact fun v H2 b2 R2 e=>⟨_,e,out _ _ (b1.trans b2) R2 rfl⟩
 ·have c:¬ headK rs = "-":=fun z=>c (decide_eq_true (by rw [z]))
  rw [decide_eq_false c,if_neg Bool.false_ne_true] at out
  refine m_number R ?_
  cases he:number rs with
  | error l=>rw [he] at out;exact out
  | ok p =>
   rw [he] at out
   exact fun v H2 b2 R2 e=>out _ _ b2 R2 e
end
end Prg
end
section
set_option maxRecDepth 100000
set_option maxHeartbeats 4000000
namespace Prg
open PySem L2
open Vanbka (Bytes Lex reserved isSign isWord next nameNext wordNext eat b halt_ placeAt tooDeepAt Op Prim Way Exprs Fields Stmts whole number namesMore quotedMore)
abbrev repB:Hp→Bytes→V→Prop:=fun T x v=>LeafAt T (.bytes x) v
structure Leafy(kd:Str)(one:List Vanbka.Tok→Except Nat (Bytes×List Vanbka.Tok))(more:Nat→List Vanbka.Tok→Except Nat (List Bytes×List Vanbka.Tok)):Prop where
 rd:∀ {D:Ad} {X:Tx} {rd:Addr} {H:Hp} {Q:VK} {E:XK} {rs:List Vanbka.Tok} {i:Nat} {σ:St} {ta:TE},RDa D X rd H rs→OutT D X rd H Q E repB (one rs)→(∀ Q':VK,Q' (.str kd) H→ta σ H Q')→σ[i]? = some (some (.ref rd))→
  tMeth D.CR "take" (spTake D.CF D.CT D.CR) [] E (tVar i) (tCons ta tNil) σ H Q
 zero:∀ ts,more 0 ts = .ok ([],ts)
 succ:∀ n ts,more (n + 1) ts=if next (isSign ",") ts then (do
   let (x,r) ← one (ts.drop 1)
   let (l,r) ← more n r
   return (x::l,r)) else .ok ([],ts)
 len:∀ ts x r,one ts = .ok (x,r)→r.length + 1≤ts.length
theorem leafy_name:Leafy "NAME" Vanbka.name namesMore where
 rd:=fun R h hta hi=>m_name R h hta hi
 zero:=fun ts=>rfl
 succ:=fun n ts=>rfl
 len:=fun ts x r h=>by
  have:=Cell.res_name (ts:=ts)
  rw [h] at this
  exact this.len
theorem leafy_quoted:Leafy "QUOTED" Vanbka.quoted quotedMore where
 rd:=fun R h hta hi=>m_quoted R h hta hi
 zero:=fun ts=>rfl
 succ:=fun n ts=>rfl
 len:=fun ts x r h=>by
  have:=Cell.res_quoted (ts:=ts)
  rw [h] at this
  exact this.len
theorem RD.updn{CT CR:Addr}{X:Tx}{rd l:Addr}{H:Hp}{rs:List Vanbka.Tok}{o:HO}(R:RD CT CR X rd H rs)(n:X.T l=none)(ne:l≠rd):RD CT CR X rd (upd H l o) rs:=by
 obtain ⟨dx,pre,h1,h2⟩:=R.ob
 exact ⟨same_upd R.st n,R.toks,R.wf,R.no,dx,pre,by rw [upd_ne (Ne.symm ne)];exact h1,h2⟩
theorem RD.len{CT CR:Addr}{X:Tx}{rd:Addr}{H:Hp}{rs:List Vanbka.Tok}(R:RD CT CR X rd H rs):rs.length≤X.all.length:=by
 obtain ⟨dx,pre,h1,h2⟩:=R.ob
 rw [h2,List.length_append];omega
theorem RD.ne{CT CR:Addr}{X:Tx}{rd l:Addr}{H:Hp}{rs:List Vanbka.Tok}(R:RD CT CR X rd H rs)(n:H l=none):l≠rd:=fun z=>by
 obtain ⟨dx,pre,h1,h2⟩:=R.ob
 rw [z,h1] at n;cases n
theorem head_cons{rs:List Vanbka.Tok}{z:Str}(h:headK rs=z)(hz:z≠"END"):∃ t r,rs=t::r∧rs.drop 1=r∧kindS t.lex=z:=by
 cases rs with
 | nil=>exact absurd h.symm hz
 | cons t r=>exact ⟨t,r,rfl,rfl,h⟩
section
variable{P:Program}{w:World}{K:PySem.W.Frag}{mg:Str→Option Value}{base:Heap}{f:Addr}{fd:FuncData}{D:Ad}
abbrev repL:Hp→List Bytes→V→Prop:=fun H l v=>∃ a vs,v = .ref a∧H a=some (.lst vs)∧vs.length≤700∧Paired (LeafAt H) (l.map Leaf.bytes) vs
def leavesR(one:List Vanbka.Tok→Except Nat (Bytes×List Vanbka.Tok))(more:Nat→List Vanbka.Tok→Except Nat (List Bytes×List Vanbka.Tok))(rs:List Vanbka.Tok):Except Nat (List Bytes×List Vanbka.Tok):=do
 let (x,r) ← one rs
 let (l,r) ← more r.length r
 return (x::l,r)
def spLeaves(D:Ad)(kd:Str)(one:List Vanbka.Tok→Except Nat (Bytes×List Vanbka.Tok))(more:Nat→List Vanbka.Tok→Except Nat (List Bytes×List Vanbka.Tok)):Sp:=fun vs H Q E=>∃ X rd rs,vs=[.ref rd,.str kd]∧RDa D X rd H rs∧X.all.length≤700∧Out D X rd H Q E repL (leavesR one more rs)
theorem scLeaves:FnScope ["reader", "kind", "leaves"] ["reader", "kind"] (defScope sReadLeaves):=⟨rfl,rfl,rfl,by decide +kernel,rfl,by decide +kernel,by decide +kernel⟩
theorem ok_leaves{kd:Str}{one:List Vanbka.Tok→Except Nat (Bytes×List Vanbka.Tok)}{more:Nat→List Vanbka.Tok→Except Nat (List Bytes×List Vanbka.Tok)}(L:Leafy kd one more)(F:Fun K "read_leaves" "read_leaves" sReadLeaves f fd)(B:Base P w K mg base D) :
  FnOk P w K mg base (CXF P w) 4 f fd ["reader", "kind"] (spLeaves D kd one more):=by
 refine F.okF (k:=3) scLeaves (fun vs H Q E h=>?_) (fun cdv A outer s H vs Q E hr h=>?_)
 ·obtain ⟨X,rd,rs,rfl,_⟩:=h
  rfl
 obtain ⟨X,rd,rs,rfl,R,sz,out⟩:=h
 have cl:=B.rd.c.cl
 have nd:=scLeaves.nd
 refine ⟨_,pss_cons (ps_set (i:=2) nd rfl (Or.inl rfl) (pe_lst (pa_cons (pe_hasM B.take cl hr (pv 0) (pa_cons (pv 1) pa_nil)) pa_nil)))
  (pss_cons (ps_while ownF (pt_cmpR op_eq (pe_hasM0 B.look cl hr (pv 0)) pe_str (nomark _))
   (pss_cons (ps_expr (pe_hasM B.take cl hr (pv 0) (pa_cons pe_str pa_nil)))
   (pss_one (ps_expr (pe_bm PySem.F.plainAttrs_list PySem.F.slot_list_append PySem.F.type_list_append mt_append (pv 2) (pa_cons (pe_hasM B.take cl hr (pv 0) (pa_cons (pv 1) pa_nil)) pa_nil))))))
  (pss_one (ps_ret (pv 2)))),?_⟩
 refine L.rd R (out_tok out fun x r he out v H1 b1 R1 lf=>?_) (fun _ q=>⟨_,rfl,q⟩) rfl
 refine ⟨(by show 1≤2 ^ 24;decide),fun l nl=>?_⟩
 have gr:=gr_of b1 R1
 have nlH:H l=none:=gr l nl
 have nlT:X.T l=none:=gone_T R1.st nl
 have nlr:l≠rd:=R1.ne nl
 have hl1:=L.len _ _ _ he
 have hal:=R.len
 refine ⟨fun m σ H'=>∃ (fu:Nat) (rs':List Vanbka.Tok) (done:List Bytes) (vs:List V),σ=[some (.ref rd),some (.str kd),some (.ref l)]∧But rd H H'∧RDa D X rd H' rs'∧rs'.length≤fu∧m=rs'.length∧H' l=some (.lst vs)∧Paired (LeafAt X.T) (done.map Leaf.bytes) vs∧vs.length + rs'.length≤X.all.length∧
   Out D X rd H Q E repL (more fu rs' >>= fun p=>pure (done ++ p.1,p.2)),
  ⟨_,r.length,r,[x],[v],rfl,b1.updn nlH,R1.updn nlT nlr,Nat.le_refl _,rfl,upd_same,.cons lf .nil,by rw [List.length_singleton];omega,out⟩,?_⟩
 rintro m σ H' ⟨fu,rs',done,vs,rfl,bt,R',hfu,rfl,hl,pr,hsz,out⟩
 have pl:=Paired.len pr
 refine m_look R' ⟨rfl,_,rfl,ite2 (fun c=>?_) (fun c=>?_)⟩
 ·have c:headK rs' = ",":=by have:=of_decide_eq_true c;injection this
  obtain ⟨t,r',e1,e2,_⟩:=head_cons c (by decide)
  cases fu with
  | zero=>rw [e1] at hfu;simp at hfu
  | succ fu =>
   rw [L.succ,nxComma R'.wfr,decide_eq_true c,if_pos rfl] at out
   refine ⟨fun σ' H2=>∃ m',m' < rs'.length∧∃ (fu:Nat) (rs':List Vanbka.Tok) (done:List Bytes) (vs:List V),σ'=[some (.ref rd),some (.str kd),some (.ref l)]∧But rd H H2∧RDa D X rd H2 rs'∧rs'.length≤fu∧m'=rs'.length∧H2 l=some (.lst vs)∧Paired (LeafAt X.T) (done.map Leaf.bytes) vs∧vs.length + rs'.length≤X.all.length∧
    Out D X rd H Q E repL (more fu rs' >>= fun p=>pure (done ++ p.1,p.2)),fun _ _ z=>z,?_⟩
   refine m_takeK R' c fun _ H2 b2 R2 _=>?_
   have hl2:H2 l=some (.lst vs):=b2 _ _ hl nlr
   refine ⟨_,rfl,.inl ⟨rfl,_,SqL.of hl2⟩,?_⟩
   rw [e2] at out R2
   have len1:rs'.length=r'.length + 1:=by rw [e1];rfl
   refine L.rd R2 ?_ (fun _ q=>⟨_,rfl,q⟩) rfl
   cases he2:one r' with
   | error z=>rw [he2] at out;exact out
   | ok p =>
    obtain ⟨y,r2⟩:=p
    rw [he2] at out
    have hl3:=L.len _ _ _ he2
    intro v3 H3 b3 R3 lf3
    have hl4:H3 l=some (.lst vs):=b3 _ _ hl2 nlr
    refine ⟨l,_,_,rfl,rfl,hl4,?_,r2.length,by omega,fu,r2,done ++ [y],vs ++ [v3],rfl,((bt.trans b2).trans b3).updn nlH,R3.updn nlT nlr,by omega,rfl,upd_same,?_,?_,?_⟩
    ·show vs.length < 2 ^ 24
     omega
    ·rw [List.map_append];exact Paired.snoc pr lf3
    ·rw [List.length_append,List.length_singleton];omega
    ·have out:Out D X rd H Q E repL ((more fu r2 >>= fun p=>pure (y::p.1,p.2)) >>= fun p=>pure (done ++ p.1,p.2)):=out
     cases hm:more fu r2 with
     | error z=>rw [hm] at out;exact out
     | ok p =>
      rw [hm] at out
      have out:Out D X rd H Q E repL (Except.ok (done ++ y::p.1,p.2)):=out
      show Out D X rd H Q E repL (Except.ok ((done ++ [y]) ++ p.1,p.2))
      rw [List.append_assoc]
      exact out
 ·have c:¬ headK rs' = ",":=fun z=>c (decide_eq_true (by rw [z]))
  have e:more fu rs' = .ok ([],rs'):=by
   cases fu with
   | zero=>exact L.zero rs'
   | succ fu=>rw [L.succ,nxComma R'.wfr,decide_eq_false c,if_neg Bool.false_ne_true]
  rw [e] at out
  have out:Out D X rd H Q E repL (Except.ok (done ++ [],rs')):=out
  rw [List.append_nil] at out
  exact ⟨_,rfl,out _ _ bt R' ⟨l,vs,rfl,cut_new nlT nlH hl,by omega,Paired.mapP pr fun _ _ z=>LeafAt.same cut_tok z⟩⟩
end
end Prg
end
section
set_option maxRecDepth 100000
set_option maxHeartbeats 4000000
namespace Prg
open PySem L2
open Vanbka (Bytes Lex reserved isSign isWord next nameNext wordNext eat b halt_ placeAt tooDeepAt Op Prim Way Exprs Fields Stmts opOf opNext)
def sidesL:List (Str×Int):=[("or",1),("and",2),("==",4),("!=",4),("<",4),("<=",4),(">",4),(">=",4),("++",5),("+",6),("-",6),("*",7),("/",7),("percent",7)]
def opFits(k:Nat)(z:Str):Option Op→Bool
 | some o=>decide (sidesL.lookup z=some (k:Int)) && decide (z=opK o)
 | none=>decide (¬ sidesL.lookup z=some (k:Int))
theorem sides_fixed:∀ l∈fixedL,∀ k:Fin 8,opFits k.val (kindS l) (opOf k.val l)=true:=by decide +kernel
theorem sides_op{k:Nat}(hk:k < 8){rs:List Vanbka.Tok}(h:WfL rs):opFits k (headK rs) (opNext k rs)=true:=by
 cases rs with
 | nil =>
  have:∀ k:Fin 8,opFits k.val "END" none=true:=by decide +kernel
  exact this ⟨k,hk⟩
 | cons t r =>
  show opFits k (kindS t.lex) (opOf k t.lex)=true
  rcases wf_cases (h t (.head _)) with z | ⟨x,e,z⟩ | ⟨n,e⟩ | ⟨x,e⟩
  ·exact sides_fixed _ z ⟨k,hk⟩
  ·rw [e,kind_name z]
   have n1:(x == b "or")=false:=by
    refine beq_eq_false_iff_ne.mpr fun y=>?_
    rw [y] at z;exact absurd z (by decide +kernel)
   have n2:(x == b "and")=false:=by
    refine beq_eq_false_iff_ne.mpr fun y=>?_
    rw [y] at z;exact absurd z (by decide +kernel)
   have:opOf k (.word x)=none:=by
    unfold opOf
    split
    ·rename_i e2;cases e2;rw [n1];rfl
    ·rename_i e2;cases e2;rw [n2];rfl
    all_goals first | rfl | (rename_i e2;cases e2)
   rw [this]
   have:∀ k:Fin 8,opFits k.val "NAME" none=true:=by decide +kernel
   exact this ⟨k,hk⟩
  ·rw [e]
   have:opOf k (.num n)=none:=by
    unfold opOf
    split <;> first | rfl | (rename_i e2;cases e2)
   rw [this]
   have:∀ k:Fin 8,opFits k.val "NUMBER" none=true:=by decide +kernel
   exact this ⟨k,hk⟩
  ·rw [e]
   have:opOf k (.quoted x)=none:=by
    unfold opOf
    split <;> first | rfl | (rename_i e2;cases e2)
   rw [this]
   have:∀ k:Fin 8,opFits k.val "QUOTED" none=true:=by decide +kernel
   exact this ⟨k,hk⟩
section
variable{P:Program}{w:World}{K:PySem.W.Frag}{mg:Str→Option Value}{base:Heap}{f:Addr}{fd:FuncData}{D:Ad}
def SidesAt(w:World)(K:PySem.W.Frag)(mg:Str→Option Value):Prop:=∃ a kvs,mg "SIDES"=some (.ref a)∧KDic w K a kvs∧∀ z:Str,match sidesL.lookup z with
 | none=>valV kvs (.inr z)=none
 | some i=>∃ t u v,valV kvs (.inr z)=some (.ref t)∧∀ H,SqT K H t [.int i,u,v]
def spJoins:Sp:=fun vs H Q _=>∃ z i,vs=[.str z,.int i]∧Q (.bl (decide (sidesL.lookup z=some i))) H
theorem scJoins:FnScope ["kind", "strength"] ["kind", "strength"] (defScope sJoinsAt):=⟨rfl,rfl,rfl,by decide +kernel,rfl,by decide +kernel,by decide +kernel⟩
theorem ok_joins(F:Fun K "joins_at" "joins_at" sJoinsAt f fd)(S:SidesAt w K mg):FnOk P w K mg base (CXF P w) 1 f fd ["kind", "strength"] spJoins:=by
 refine F.okF (k:=0) scJoins (fun vs H Q E h=>?_) (fun cdv A outer s H vs Q E hr h=>?_)
 ·obtain ⟨z,i,rfl,_⟩:=h
  rfl
 obtain ⟨z,i,rfl,q⟩:=h
 obtain ⟨a,kvs,mS,dS,tS⟩:=S
 refine ⟨_,pss_one (ps_ret (pe_and (pe_cmpR op_inK (pv 0) (pe_cr mS rfl) rfl) (pe_one (pe_cmpR op_eq (pe_ix ix_tup (pe_dgetK (pe_cr mS rfl) (pv 0) (fun _ _=>rfl)) pe_int (fun _ _=>rfl)) (pv 1) (nomark _))))),?_⟩
 have t:=tS z
 refine ⟨_,rfl,a,kvs,.inr z,rfl,dS,rfl,?_⟩
 cases e:sidesL.lookup z with
 | none =>
  rw [e] at t q
  rw [t]
  refine ⟨_,rfl,ite2 (fun c=>absurd c (by decide)) (fun _=>q)⟩
 | some j =>
  rw [e] at t q
  obtain ⟨tt,u,v,ev,sq⟩:=t
  rw [ev]
  refine ⟨_,rfl,ite2 (fun _=>?_) (fun c=>absurd rfl c)⟩
  refine ⟨_,rfl,a,kvs,.inr z,_,rfl,dS,rfl,ev,tt,_,_,_,rfl,rfl,sq _,rfl,_,rfl,rfl,?_⟩
  have:decide (V.int j=V.int i)=decide (some j=some i):=by
   apply decide_eq_decide.mpr
   constructor
   ·intro h;injection h with h;rw [h]
   ·intro h;injection h with h;rw [h]
  rw [this]
  exact q
end
end Prg
end
section
set_option maxRecDepth 100000
set_option maxHeartbeats 4000000
namespace Prg
open PySem L2
open Vanbka (Bytes Lex reserved isSign isWord next nameNext wordNext eat b halt_ placeAt tooDeepAt Op Prim Way Exprs Fields Stmts)
abbrev Toks:=List Vanbka.Tok
abbrev sReadExpr:PySem.Stmt:=top 32
abbrev sReadJoined:PySem.Stmt:=top 34
abbrev sReadSigned:PySem.Stmt:=top 35
abbrev sReadReached:PySem.Stmt:=top 36
def spR{α:Type}(D:Ad)(r N h:Nat)(xs:List V)(G:Toks→Prop)(F:Nat→Toks→Except Nat (α×Toks))(rep:Hp→α→V→Prop):Sp:=fun vs H Q E =>
 ∃ X rd rs n,n≤N∧vs = .ref rd::xs∧Pre D X rd H rs h n r∧G rs∧Out D X rd H Q E rep (F n rs)
abbrev Any:Toks→Prop:=fun _=>True
def stmtsR(z:Str)(n:Nat)(rs:Toks):Except Nat (Stmts×Toks):=do
 let (s,r) ← Vanbka.statements n rs
 if headK r=z then return (s,r) else halt_ r
structure Reads(P:Program)(w:World)(K:PySem.W.Frag)(mg:Str→Option Value)(base:Heap)(D:Ad)(N:Nat):Prop where
 expr:∀ h,Has P w K mg base (room h 21) "read_expression" ["reader"] (spR D 11 N h [] Any Vanbka.expr (repE D))
 line:∀ h k,1≤k→k≤8→Has P w K mg base (room h (21 - k)) "read_joined" ["reader", "strength"] (spR D (11 - k) N h [.int (k:Nat)] Any (fun n=>Vanbka.line n k) (repE D))
 reached:∀ h,Has P w K mg base (room h 11) "read_reached" ["reader"] (spR D 2 N h [] Any (fun n=>Vanbka.line n 9) (repE D))
 simple:∀ h,Has P w K mg base (room h 10) "read_simple" ["reader"] (spR D 1 N h [] Any Vanbka.simple (repE D))
 block:∀ h,Has P w K mg base (room h 8) "read_block" ["reader"] (spR D 1 N h [] Any Vanbka.block (repSs D))
 stmts:∀ (h:Nat) (z:Str),z = "END"∨z = "}"→Has P w K mg base (room h 24) "read_statements" ["reader", "closing"] (spR D 2 N h [.str z] Any (stmtsR z) (repSs D))
 stmt:∀ h,Has P w K mg base (room h 23) "read_statement" ["reader"] (spR D 1 N h [] Any Vanbka.statement (repS D))
theorem rm_same{h a c:Nat}(hh:h≤24)(l:a≤c):room h a≤20 * (24 - h) + c:=by unfold room;rw [if_pos hh];omega
theorem rm_up{h a c:Nat}(hh:h≤24)(l:a≤c + 20):room (h + 1) a≤20 * (24 - h) + c:=by
 unfold room
 by_cases z:h + 1≤24
 ·rw [if_pos z];omega
 ·rw [if_neg z];omega
theorem seqT{a z:Str}(h:decide (V.str a=V.str z)=true):a=z:=by have:=of_decide_eq_true h;injection this
theorem seqF{a z:Str}(h:¬ decide (V.str a=V.str z)=true):¬ a=z:=fun e=>h (decide_eq_true (by rw [e]))
theorem sneT{a z:Str}(h:(!decide (V.str a=V.str z))=true):¬ a=z:=fun e=>by
 rw [decide_eq_true (show V.str a=V.str z by rw [e])] at h;cases h
theorem sneF{a z:Str}(h:¬ (!decide (V.str a=V.str z))=true):a=z:=by
 have:decide (V.str a=V.str z)=true:=by simpa using h
 exact seqT this
theorem has_of{P:Program}{w:World}{K:PySem.W.Frag}{mg:Str→Option Value}{base:Heap}{x:Str}{ps N:List Str}{st:PySem.Stmt}{sp:Sp}{h r:Nat}(Kn:Known K mg x ps st)(S:FnScope N ps (defScope st))(len:∀ vs H Q E,sp vs H Q E→vs.length=ps.length)
  (hle:∀ vs H Q E,sp vs H Q E→h≤24)
  (body:h≤24→∀ (f:Addr) (cdv:Value) (A:Around) (outer:List Env) (s:Shared) (H:Hp) (vs:List V) (Q:VK) (E:XK),Room (20 * (24 - h) + r) (A.deeper (PyProof.Rows.envOfC x (defScope st) s.heap.objs.size f cdv))→sp vs H Q E→
   ∃ t,PSs (cxOf (CXF P w) P w K mg base N x (defScope st) f cdv A outer s H E) (defBody st) t∧t { nx:=fun _ H'=>Q .non H',rt:=Q } (start N vs) H):Has P w K mg base (room h (r + 1)) x ps sp:=by
 obtain ⟨f,fd,F,bi,kp,m⟩:=Kn
 refine ⟨f,fd,?_,bi,kp,m⟩
 by_cases z:h≤24
 ·have e:room h (r + 1)=(20 * (24 - h) + r) + 1:=by unfold room;rw [if_pos z];omega
  rw [e]
  exact F.okF S len (fun cdv A outer s H vs Q E hr hs=>body z f cdv A outer s H vs Q E hr hs)
 ·exact ⟨len,fun A outer s H args us vs Q E hr he hb hv hs=>absurd (hle _ _ _ _ hs) z⟩
section
variable{P:Program}{w:World}{K:PySem.W.Frag}{mg:Str→Option Value}{base:Heap}{D:Ad}{N:Nat}
theorem spR.len{α:Type}{r h:Nat}{xs:List V}{G:Toks→Prop}{F:Nat→Toks→Except Nat (α×Toks)}{rep:Hp→α→V→Prop}{vs:List V}{H:Hp}{Q:VK}{E:XK}(q:spR D r N h xs G F rep vs H Q E):vs.length=xs.length + 1:=by
 obtain ⟨X,rd,rs,n,_,rfl,_⟩:=q
 rfl
theorem spR.le{α:Type}{r h:Nat}{xs:List V}{G:Toks→Prop}{F:Nat→Toks→Except Nat (α×Toks)}{rep:Hp→α→V→Prop}{vs:List V}{H:Hp}{Q:VK}{E:XK}(q:spR D r N h xs G F rep vs H Q E):h≤24:=by
 obtain ⟨X,rd,rs,n,_,rfl,p,_⟩:=q
 exact p.le
theorem con_of{α:Type}{x:Except Nat (α×Toks)}{ts r:Toks}{z:Int}{m:Nat}{a:α}(h:Cell.Res x ts z m)(e:x = .ok (a,r)):Cell.Con ts r z m:=by rw [e] at h;exact h
theorem con_ofE{x:Except Nat Toks}{ts r:Toks}{z:Int}{m:Nat}(h:Cell.ResE x ts z m)(e:x = .ok r):Cell.Con ts r z m:=by rw [e] at h;exact h
theorem dp0{h:Nat}{ts r:Toks}{m:Nat}(c:Cell.Con ts r 0 m)(q:tooDeepAt (h:Int) ts=none):tooDeepAt (h:Int) r=none:=by
 have:=c.deep q
 rwa [Int.add_zero] at this
theorem dp1{h:Nat}{ts r:Toks}{m:Nat}(c:Cell.Con ts r 1 m)(q:tooDeepAt (h:Int) ts=none):tooDeepAt ((h + 1:Nat):Int) r=none:=by
 have:=c.deep q
 rwa [show (h:Int) + 1=((h + 1:Nat):Int) by omega] at this
theorem tree3{T H H1:Hp}{Q:Addr→Hp→Prop}{E:XK}{k:Str}{l1 l2 l3:Addr}{vls vps vbs:List V}{ls:List Leaf}{ps:List Node}{bs:List (List Node)}(gr:∀ b,H1 b=none→H b=none)(st:Same T H1)
  (n1:H1 l1=none) (n2:upd H1 l1 (.lst vls) l2=none) (n3:upd (upd H1 l1 (.lst vls)) l2 (.lst vps) l3=none) (sz:vls.length≤1000∧vps.length≤1000∧vbs.length≤1000)
  (hl:Paired (LeafAt (Cut T H H1)) ls vls) (hp:NodesAt D.CN (Cut T H H1) ps vps) (hb:BlocksAt D.CN (Cut T H H1) bs vbs) (q:∀ x H2,Same H1 H2→NodeAt D.CN (Cut T H H2) (.mk k ls ps bs) (.ref x)→Q x H2) :
  ∀ x dx,upd (upd (upd H1 l1 (.lst vls)) l2 (.lst vps)) l3 (.lst vbs) x=none→upd (upd (upd H1 l1 (.lst vls)) l2 (.lst vps)) l3 (.lst vbs) dx=none→dx≠x→
   spNI D.CN [.ref x,.str k,.ref l1,.ref l2,.ref l3] (upd (upd (upd (upd (upd H1 l1 (.lst vls)) l2 (.lst vps)) l3 (.lst vbs)) dx (.own x)) x (.ins D.CN dx [])) (fun v H2=>v = .non∧Q x H2) E:=by
 have s1:Same H1 (upd H1 l1 (.lst vls)):=same_new n1 _
 have s2:Same (upd H1 l1 (.lst vls)) (upd (upd H1 l1 (.lst vls)) l2 (.lst vps)):=same_new n2 _
 have s3:Same (upd (upd H1 l1 (.lst vls)) l2 (.lst vps)) (upd (upd (upd H1 l1 (.lst vls)) l2 (.lst vps)) l3 (.lst vbs)):=same_new n3 _
 have s:=(s1.trans s2).trans s3
 have g:Same (Cut T H H1) (Cut T H (upd (upd (upd H1 l1 (.lst vls)) l2 (.lst vps)) l3 (.lst vbs))):=cut_on_same s
 refine make_node (ls:=ls) (ps:=ps) (bs:=bs) (fun b z=>gr b (none_of_same s z)) (st.trans s) (cut_new (none_of_same st n1) (gr _ n1) ((s2.trans s3) _ _ upd_same)) (cut_new (none_of_same (st.trans s1) n2) (gr _ (none_of_same s1 n2)) (s3 _ _ upd_same)) (cut_new (none_of_same (st.trans (s1.trans s2)) n3) (gr _ (none_of_same (s1.trans s2) n3)) upd_same) sz
  (Paired.mapP hl fun _ _ z=>z.same g) (hp.same g) (hb.same g) fun x H2 sm nd=>q x H2 (s.trans sm) nd
theorem blocks0{CN:Addr}{H:Hp}:BlocksAt CN H [] []:=rfl
theorem nodes0{CN:Addr}{H:Hp}:NodesAt CN H [] []:=rfl
theorem nodes1{CN:Addr}{H:Hp}{x:Node}{v:V}(h:NodeAt CN H x v):NodesAt CN H [x] [v]:=⟨v,[],rfl,h,rfl⟩
theorem nodes_cons{CN:Addr}{H:Hp}{x:Node}{v:V}{l:List Node}{vs:List V}(h:NodeAt CN H x v)(t:NodesAt CN H l vs):NodesAt CN H (x::l) (v::vs):=⟨v,vs,rfl,h,t⟩
theorem scExpr:FnScope ["reader", "condition", "first", "second"] ["reader"] (defScope sReadExpr):=⟨rfl,rfl,rfl,by decide +kernel,rfl,by decide +kernel,by decide +kernel⟩
theorem ok_expr(Kn:Known K mg "read_expression" ["reader"] sReadExpr)(B:Base P w K mg base D)(I:Reads P w K mg base D N)(h:Nat):Has P w K mg base (room h 21) "read_expression" ["reader"] (spR D 11 (N + 1) h [] Any Vanbka.expr (repE D)):=by
 refine has_of Kn scExpr (fun _ _ _ _ q=>q.len) (fun _ _ _ _ q=>q.le) fun hh f cdv A outer s H vs Q E hr q=>?_
 obtain ⟨X,rd,rs,n,hn,rfl,pre,_,out⟩:=q
 obtain ⟨R,dp,_,fu,sz⟩:=pre
 have cl:=B.rd.c.cl
 have nd:=scExpr.nd
 have J:=I.line h 1 (Nat.le_refl _) (by decide)
 have r3:Room 3 _:=hr.mono (by omega)
 refine ⟨_,(pss_cons (ps_set (i:=1) nd rfl (Or.inl rfl) (pe_has J hr rfl (pa_cons (pv 0) (pa_cons (pe_ci B.cOr rfl) pa_nil)) (rm_same hh (by decide))))
   (pss_cons (ps_if (pt_cmpR op_ne (pe_hasM0 B.look cl r3 (pv 0)) pe_str (nomark _)) (pss_one (ps_ret (pv 1))) pss_nil)
   (pss_cons (ps_expr (pe_hasM B.take cl r3 (pv 0) (pa_cons pe_str pa_nil)))
   (pss_cons (ps_set (i:=2) nd rfl (Or.inl rfl) (pe_has J hr rfl (pa_cons (pv 0) (pa_cons (pe_ci B.cOr rfl) pa_nil)) (rm_same hh (by decide))))
   (pss_cons (ps_expr (pe_hasM B.take cl r3 (pv 0) (pa_cons pe_str pa_nil)))
   (pss_cons (ps_set (i:=3) nd rfl (Or.inl rfl) (pe_has J hr rfl (pa_cons (pv 0) (pa_cons (pe_ci B.cOr rfl) pa_nil)) (rm_same hh (by decide))))
   (pss_one (ps_ret (pe_tree B r3 rfl (pa_cons pe_str (pa_cons (pe_lst pa_nil) (pa_cons (pe_lst (pa_cons (pv 1) (pa_cons (pv 2) (pa_cons (pv 3) pa_nil)))) (pa_cons (pe_lst pa_nil) pa_nil))))))))))))),?_⟩
 cases n with
 | zero=>omega
 | succ n =>
  rw [Vanbka.expr] at out
  refine ⟨_,rfl,X,rd,rs,n,by omega,rfl,⟨R,dp,hh,by omega,sz⟩,trivial,out_call out fun c r he out v H1 b1 R1 n1=>?_⟩
  dsimp only at out
  have C1:=con_of ((Cell.fine n).line 1 rs) he
  refine m_look R1 ⟨rfl,_,rfl,ite2 (fun k1=>?_) (fun k1=>?_)⟩
  ·rw [nxQ R1.wfr,decide_eq_false (sneT k1),if_neg Bool.false_ne_true] at out
   exact ⟨_,rfl,out _ _ b1 R1 n1⟩
  ·have k1:=sneF k1
   rw [nxQ R1.wfr,decide_eq_true k1,if_pos rfl] at out
   obtain ⟨t,r',e1,e2,_⟩:=head_cons k1 (by decide)
   have len1:r.length=r'.length + 1:=by rw [e1];rfl
   have C2:Cell.Con r (r.drop 1) 0 1:=Cell.con_sign (s := "?") (by rw [nxQ R1.wfr];exact decide_eq_true k1)
   rw [e2] at out C2
   refine m_takeK R1 k1 fun _ H2 b2 R2 _=>?_
   rw [e2] at R2
   have lC1:=C1.len
   have b02:=b1.trans b2
   refine ⟨_,rfl,X,rd,r',n,by omega,rfl,⟨R2,dp0 C2 (dp0 C1 dp),hh,by omega,sz⟩,trivial,out_call out fun x r3 he3 out v3 H3 b3 R3 n3=>?_⟩
   dsimp only at out
   have C3:=con_of ((Cell.fine n).line 1 r') he3
   have lC3:=C3.len
   refine m_eat R3 (nxColon R3.wfr) (out_eat out fun r4 he4 out _ H4 b4 R4=>?_)
   have C4:=con_ofE Cell.res_eatS he4
   have lC4:=C4.len
   have b04:=(b02.trans b3).trans b4
   refine ⟨_,rfl,X,rd,r4,n,by omega,rfl,⟨R4,dp0 C4 (dp0 C3 (dp0 C2 (dp0 C1 dp))),hh,by omega,sz⟩,trivial,out_call out fun y r5 he5 out v5 H5 b5 R5 n5=>?_⟩
   dsimp only at out
   have b05:=b04.trans b5
   have g1:Same (Cut X.T H H1) (Cut X.T H H5):=cut_on_but R (b2.trans (b3.trans (b4.trans b5)))
   have g3:Same (Cut X.T H2 H3) (Cut X.T H H5):=(cut_part b02 R2).trans (cut_on_but R (b4.trans b5))
   have g5:Same (Cut X.T H4 H5) (Cut X.T H H5):=cut_part b04 R4
   refine ⟨by decide,fun l1 m1=>⟨_,rfl,_,rfl,_,rfl,(by show 3≤2 ^ 24;decide),fun l2 m2=>⟨by decide,fun l3 m3=>?_⟩⟩⟩
   exact tree3 (gr_of b05 R5) R5.st m1 m2 m3 ⟨by decide,(by show 3≤1000;decide),by decide⟩ .nil (nodes_cons (NodeAt.same g1 _ _ n1) (nodes_cons (NodeAt.same g3 _ _ n3) (nodes1 (NodeAt.same g5 _ _ n5)))) blocks0 fun z H9 sm nd=>out _ _ (b05.then sm) (R5.same sm) nd
end
end Prg
end
section
set_option maxRecDepth 100000
set_option maxHeartbeats 4000000
namespace Prg
open PySem L2
open Vanbka (Bytes Lex reserved isSign isWord next nameNext wordNext eat b halt_ placeAt tooDeepAt Op Prim Way Exprs Fields Stmts opNext chain line)
def tailR(k n:Nat)(x:Vanbka.Expr)(r:Toks):Except Nat (Vanbka.Expr×Toks) :=
 if k=3 then .ok (x,r) else if k=4 then (match opNext 4 r with
  | some o=>line n 5 (r.drop 1) >>= fun p=>pure (.bin o x p.1,p.2)
  | none=>.ok (x,r)) else chain n k x r
theorem line_tail{n k:Nat}{ts:Toks}(h1:k≤7)(h2:¬ (k=3∧next (isWord "not") ts=true)):line (n + 1) k ts=line n (k + 1) ts >>= fun p=>tailR k n p.1 p.2:=by
 rw [line]
 by_cases e3:k=3
 ·subst e3
  have n2:¬ next (isWord "not") ts=true:=fun z=>h2 ⟨rfl,z⟩
  rw [if_pos (show (3 == 3)=true from rfl),if_neg n2]
  cases line n 4 ts <;> rfl
 rw [if_neg (by simpa using e3)]
 by_cases e4:k=4
 ·subst e4
  rw [if_pos (show (4 == 4)=true from rfl)]
  cases line n 5 ts with
  | error l=>rfl
  | ok p =>
   obtain ⟨x,r⟩:=p
   show _=tailR 4 n x r
   unfold tailR
   rw [if_neg (by decide),if_pos rfl]
   rfl
 rw [if_neg (by simpa using e4),if_neg (by simpa using (show k≠8 by omega)),if_neg (by simpa using (show k≠9 by omega))]
 have:∀ x r,tailR k n x r=chain n k x r:=fun x r=>by unfold tailR;rw [if_neg e3,if_neg e4]
 simp only [this]
theorem tail_stop{k n:Nat}{x:Vanbka.Expr}{r:Toks}(hn:0 < n)(h:opNext k r=none):tailR k n x r = .ok (x,r):=by
 unfold tailR
 by_cases e3:k=3
 ·rw [if_pos e3]
 rw [if_neg e3]
 by_cases e4:k=4
 ·subst e4;rw [if_pos rfl,h]
 rw [if_neg e4]
 cases n with
 | zero=>omega
 | succ n=>rw [chain,h]
theorem tail_go{k n:Nat}{x:Vanbka.Expr}{t:Vanbka.Tok}{r:Toks}{o:Op}(hn:0 < n)(n3:k≠3)(h:opNext k (t::r)=some o) :
  tailR k n x (t::r)=line (if k=4 then n else n - 1) (k + 1) r >>= fun p=>if k=4 then .ok (.bin o x p.1,p.2) else tailR k (n - 1) (.bin o x p.1) p.2:=by
 unfold tailR
 rw [if_neg n3]
 by_cases e4:k=4
 ·subst e4
  rw [if_pos rfl,h,if_pos rfl]
  rfl
 rw [if_neg e4,if_neg e4]
 cases n with
 | zero=>omega
 | succ n =>
  rw [chain,h]
  simp only [Nat.add_sub_cancel,List.drop_one,List.tail_cons]
  cases line n (k + 1) r with
  | error l=>rfl
  | ok p =>
   show chain n k (.bin o x p.1) p.2=if k=4 then _ else _
   rw [if_neg e4,if_neg n3,if_neg e4]
theorem op3(r:Toks):opNext 3 r=none:=by
 cases r with
 | nil=>rfl
 | cons t r=>rfl
theorem has_none{P:Program}{w:World}{K:PySem.W.Frag}{mg:Str→Option Value}{base:Heap}{x:Str}{ps:List Str}{st:PySem.Stmt}(Kn:Known K mg x ps st):Has P w K mg base 0 x ps (fun _ _ _ _=>False):=by
 obtain ⟨f,fd,F,bi,kp,m⟩:=Kn
 exact ⟨f,fd,⟨fun _ _ _ _ z=>z.elim,fun _ _ _ _ _ _ _ _ _ _ _ _ _ z=>z.elim⟩,bi,kp,m⟩
section
variable{P:Program}{w:World}{K:PySem.W.Frag}{mg:Str→Option Value}{base:Heap}{D:Ad}{N:Nat}
theorem scJoined:FnScope ["reader", "strength", "tree", "sign", "right"] ["reader", "strength"] (defScope sReadJoined):=⟨rfl,rfl,rfl,by decide +kernel,rfl,by decide +kernel,by decide +kernel⟩
theorem ok_joinedK{h k j4 jn:Nat}{sp4 spn:Sp}(Kn:Known K mg "read_joined" ["reader", "strength"] sReadJoined)(B:Base P w K mg base D)(Jo:Has P w K mg base 1 "joins_at" ["kind", "strength"] spJoins)(k1:1≤k)(k8:k≤8)
  {j8:Nat} {sp8:Sp} (G8:Has P w K mg base j8 "read_signed" ["reader"] sp8) (e8:k=8→sp8=spR D 3 (N + 1) h [] Any (fun n=>line n 8) (repE D)) (h8:j8≤20 * (24 - h) + (20 - k))
  (J4:Has P w K mg base j4 "read_joined" ["reader", "strength"] sp4) (e4:k≤3→sp4=spR D 7 N h [.int (4:Nat)] Any (fun n=>line n 4) (repE D)) (h4:j4≤20 * (24 - h) + (20 - k))
  (Jn:Has P w K mg base jn "read_joined" ["reader", "strength"] spn) (en:k≤7→spn=spR D (11 - (k + 1)) N h [.int ((k + 1:Nat):Int)] Any (fun n=>line n (k + 1)) (repE D)) (hn4:jn≤20 * (24 - h) + (20 - k)) :
  Has P w K mg base (room h (20 - k + 1)) "read_joined" ["reader", "strength"] (spR D (11 - k) (N + 1) h [.int (k:Nat)] Any (fun n=>line n k) (repE D)):=by
 refine has_of Kn scJoined (fun _ _ _ _ q=>q.len) (fun _ _ _ _ q=>q.le) fun hh f cdv A outer s H vs Q E hr q=>?_
 obtain ⟨X,rd,rs,n,hn,rfl,pre,_,out⟩:=q
 obtain ⟨R,dp,_,fu,sz⟩:=pre
 have cl:=B.rd.c.cl
 have nd:=scJoined.nd
 have r3:Room 3 _:=hr.mono (by omega)
 refine ⟨_,(pss_cons (ps_if (pt_cmpR op_eq (pv 1) (pe_ci B.cSig rfl) (nomark _)) (pss_one (ps_ret (pe_has G8 hr rfl (pa_cons (pv 0) pa_nil) (h8)))) pss_nil)
   (pss_cons (ps_if (PW.pt (pw_and (pt_cmpR op_eq (pv 1) (pe_ci B.cNot rfl) (nomark _)) (pw_and1 (pt_cmpR op_eq (pe_hasM0 B.look cl r3 (pv 0)) pe_str (nomark _))))) (pss_cons (ps_expr (pe_hasM B.take cl r3 (pv 0) (pa_cons pe_str pa_nil)))
   (pss_one (ps_ret (pe_tree B r3 rfl (pa_cons pe_str (pa_cons (pe_lst pa_nil) (pa_cons (pe_lst (pa_cons (pe_has J4 hr rfl (pa_cons (pv 0) (pa_cons (pe_ci B.cCmp rfl) pa_nil)) (h4)) pa_nil)) (pa_cons (pe_lst pa_nil) pa_nil)))))))) pss_nil)
   (pss_cons (ps_set (i:=2) nd rfl (Or.inl rfl) (pe_has Jn hr rfl (pa_cons (pv 0) (pa_cons (pe_op op_add (pv 1) pe_int) pa_nil)) (hn4)))
   (pss_cons (ps_while ownF (pt_val (pe_has Jo r3 rfl (pa_cons (pe_hasM0 B.look cl r3 (pv 0)) (pa_cons (pv 1) pa_nil)))) (pss_cons (ps_set (i:=3) nd rfl (Or.inl rfl) (pe_hasM0 B.move cl r3 (pv 0)))
   (pss_cons (ps_set (i:=4) nd rfl (Or.inl rfl) (pe_has Jn hr rfl (pa_cons (pv 0) (pa_cons (pe_op op_add (pv 1) pe_int) pa_nil)) (hn4)))
   (pss_cons (ps_set (i:=2) nd rfl (Or.inl rfl) (pe_tree B r3 rfl (pa_cons (pv 3) (pa_cons (pe_lst pa_nil) (pa_cons (pe_lst (pa_cons (pv 2) (pa_cons (pv 4) pa_nil))) (pa_cons (pe_lst pa_nil) pa_nil))))))
   (pss_one (ps_if (pt_cmpR op_eq (pv 1) (pe_ci B.cCmp rfl) (nomark _)) (pss_one (ps_ret (pv 2))) pss_nil))))))
   (pss_one (ps_ret (pv 2))))))),?_⟩
 have out:Out D X rd H Q E (repE D) (line n k rs):=out
 cases n with
 | zero=>omega
 | succ n =>
  refine ⟨_,rfl,rfl,_,rfl,ite2 (fun c8=>?_) (fun c8=>?_)⟩
  ·have c8:k=8:=by
    have:=of_decide_eq_true c8
    injection this with this
    omega
   subst c8
   rw [e8 rfl]
   exact ⟨_,rfl,X,rd,rs,n + 1,hn,rfl,⟨R,dp,hh,by omega,sz⟩,trivial,out⟩
  have k7:k≤7:=by
   have:¬ k=8:=fun z=>c8 (decide_eq_true (by rw [z];rfl))
   omega
  rw [en k7]
  refine (fun (fin:¬ (k=3∧next (isWord "not") rs=true)→?A)=>?main) ?fin
  case main =>
   refine ⟨_,rfl,rfl,_,rfl,ite2 (fun c3=>?_) (fun c3=>?_)⟩
   ·have c3:k=3:=by
     have:=of_decide_eq_true c3
     injection this with this
     omega
    refine m_look R ⟨rfl,_,rfl,ite2 (fun c=>?_) (fun c=>?_)⟩
    ·have c:=seqT c
     rw [e4 (by omega)]
     subst c3
     obtain ⟨t,r',e1,e2,_⟩:=head_cons c (by decide)
     have len1:rs.length=r'.length + 1:=by rw [e1];rfl
     have nx:next (isWord "not") rs=true:=by rw [nw_not R.wfr];exact decide_eq_true c
     have C1:=Cell.con_word nx
     rw [line,if_pos (show (3 == 3)=true from rfl),if_pos nx,e2] at out
     rw [e2] at C1
     refine m_takeK R c fun _ H1 b1 R1 _=>?_
     rw [e2] at R1
     refine ⟨by decide,fun l1 m1=>?_⟩
     have m1T:=gone_T R1.st m1
     have m1r:=R1.ne m1
     have m1H:=gr_of b1 R1 l1 m1
     have R2:RDa D X rd (upd H1 l1 (.lst [])) r':=R1.same (same_new m1 _)
     have b2:But rd H (upd H1 l1 (.lst [])):=b1.then (same_new m1 _)
     refine ⟨_,rfl,X,rd,r',n,by omega,rfl,⟨R2,dp0 C1 dp,hh,by omega,sz⟩,trivial,out_call out fun e r he out v H3 b3 R3 n3=>?_⟩
     refine ⟨(by show 1≤2 ^ 24;decide),fun l2 m2=>⟨by decide,fun l3 m3=>?_⟩⟩
     have b03:=b2.trans b3
     have s1:Same H3 (upd H3 l2 (.lst [v])):=same_new m2 _
     have s2:Same (upd H3 l2 (.lst [v])) (upd (upd H3 l2 (.lst [v])) l3 (.lst [])):=same_new m3 _
     have gr:=gr_of b03 R3
     have g:Same (Cut X.T (upd H1 l1 (.lst [])) H3) (Cut X.T H (upd (upd H3 l2 (.lst [v])) l3 (.lst []))):=(cut_part b2 R2).trans (cut_on_same (s1.trans s2))
     refine make_node (ls:=[]) (ps:=[nodeE e]) (bs:=[]) (fun b z=>gr b (none_of_same (s1.trans s2) z)) (R3.st.trans (s1.trans s2)) (cut_new m1T m1H ((s1.trans s2) _ _ (b3 _ _ upd_same m1r))) (cut_new (none_of_same R3.st m2) (gr _ m2) (s2 _ _ upd_same))
      (cut_new (none_of_same (R3.st.trans s1) m3) (gr _ (none_of_same s1 m3)) upd_same) ⟨by decide,(by show 1≤1000;decide),by decide⟩ .nil (nodes1 (NodeAt.same g _ _ n3)) blocks0 fun x H9 sm nd=>?_
     exact out _ _ (b03.then ((s1.trans s2).trans sm)) (R3.same ((s1.trans s2).trans sm)) nd
    ·refine fin fun z=>?_
     rw [nw_not R.wfr] at z
     exact seqF c (of_decide_eq_true z.2)
   ·refine ite2 (fun z=>absurd z (by decide)) (fun _=>?_)
    exact fin fun z=>c3 (decide_eq_true (by rw [z.1];rfl))
  case fin =>
   intro nn
   rw [line_tail k7 nn] at out
   refine ⟨_,rfl,_,rfl,_,_,rfl,rfl,X,rd,rs,n,by omega,rfl,⟨R,dp,hh,by omega,sz⟩,trivial,out_call out fun x r he out v H1 b1 R1 n1=>?_⟩
   have he:line n (k + 1) rs = .ok (x,r):=he
   have C1:=con_of ((Cell.fine n).line (k + 1) rs) he
   have lC1:=C1.len
   refine ⟨fun m σ H'=>∃ (g:Nat) (x:Vanbka.Expr) (r:Toks) (v:V) (v3 v4:Option V),σ=[some (.ref rd),some (.int (k:Nat)),some v,v3,v4]∧But rd H H'∧RDa D X rd H' r∧tooDeepAt (h:Int) r=none∧16 * r.length + 10≤g∧g≤N∧m=r.length∧repE D (Cut X.T H H') x v∧Out D X rd H Q E (repE D) (tailR k g x r),
    ⟨_,n,x,r,v,none,none,rfl,b1,R1,dp0 C1 dp,by omega,by omega,rfl,n1,out⟩,?_⟩
   clear out n1 b1 R1 C1 lC1 he
   rintro m σ H' ⟨g,x,r,v,v3,v4,rfl,bt,R',dp',fg,gN,rfl,nx,out⟩
   refine m_look R' ⟨_,rfl,_,_,rfl,_,rfl,ite2 (fun c=>?_) (fun c=>?_)⟩
   ·have c:=of_decide_eq_true c
    have fits:=sides_op (show k < 8 by omega) R'.wfr
    cases ho:opNext k r with
    | none =>
     rw [ho] at fits
     exact absurd c (of_decide_eq_true fits)
    | some o =>
     rw [ho] at fits
     have hK:headK r=opK o:=of_decide_eq_true (Bool.and_eq_true_iff.mp fits).2
     cases r with
     | nil=>cases ho
     | cons t r =>
      have C2:Cell.Con (t::r) r 0 1:=Cell.con_op ho
      refine ⟨fun σ' H2=>∃ m',m' < (t::r).length∧∃ (g:Nat) (x:Vanbka.Expr) (r:Toks) (v:V) (v3 v4:Option V),σ'=[some (.ref rd),some (.int (k:Nat)),some v,v3,v4]∧But rd H H2∧RDa D X rd H2 r∧tooDeepAt (h:Int) r=none∧16 * r.length + 10≤g∧g≤N∧m'=r.length∧repE D (Cut X.T H H2) x v∧Out D X rd H Q E (repE D) (tailR k g x r),fun _ _ z=>z,?_⟩
      refine m_move R' fun H2 b2 R2=>?_
      have hK:kindS t.lex=opK o:=hK
      have b02:=bt.trans b2
      have lr:(t::r).length=r.length + 1:=rfl
      have n3:k≠3:=fun z=>by rw [z,op3] at ho;cases ho
      rw [tail_go (by omega) n3 ho] at out
      have gg1:16 * r.length + (11 - (k + 1))≤(if k=4 then g else g - 1):=by split <;> omega
      have gg2:(if k=4 then g else g - 1)≤N:=by split <;> omega
      refine ⟨_,rfl,_,rfl,_,_,rfl,rfl,X,rd,r,_,gg2,rfl,⟨R2,dp0 C2 dp',hh,gg1,sz⟩,trivial,out_call out fun y r5 he5 out v5 H5 b5 R5 n5=>?_⟩
      have C5:=con_of ((Cell.fine _).line (k + 1) r) he5
      have lC5:=C5.len
      have b05:=b02.trans b5
      have g1:Same (Cut X.T H H') (Cut X.T H H5):=cut_on_but R (b2.trans b5)
      have g5:Same (Cut X.T H2 H5) (Cut X.T H H5):=cut_part b02 R2
      refine ⟨_,rfl,by decide,fun l1 m1=>⟨_,rfl,_,rfl,(by show 2≤2 ^ 24;decide),fun l2 m2=>⟨by decide,fun l3 m3=>?_⟩⟩⟩
      refine tree3 (gr_of b05 R5) R5.st m1 m2 m3 ⟨by decide,(by show 2≤1000;decide),by decide⟩ .nil (nodes_cons (NodeAt.same g1 _ _ nx) (nodes1 (NodeAt.same g5 _ _ n5))) blocks0 fun z H9 sm nd=>?_
      rw [hK] at nd
      refine ⟨_,rfl,rfl,_,rfl,ite2 (fun c4=>?_) (fun c4=>?_)⟩
      ·have c4:k=4:=by
        have:=of_decide_eq_true c4
        injection this with this
        omega
       dsimp only at out
       rw [if_pos c4] at out
       exact ⟨_,rfl,out _ _ (b05.then sm) (R5.same sm) nd⟩
      ·have c4:¬ k=4:=fun z=>c4 (decide_eq_true (by rw [z];rfl))
       dsimp only at out
       rw [if_neg c4] at out
       exact ⟨r5.length,by omega,g - 1,.bin o x y,r5,.ref z,_,_,rfl,b05.then sm,R5.same sm,dp0 C5 (dp0 C2 dp'),by omega,by omega,rfl,nd,out⟩
   ·have c:¬ sidesL.lookup (headK r)=some (k:Int):=fun z=>c (decide_eq_true z)
    have fits:=sides_op (show k < 8 by omega) R'.wfr
    have ho:opNext k r=none:=by
     cases ho:opNext k r with
     | none=>rfl
     | some o =>
      rw [ho] at fits
      exact absurd (of_decide_eq_true (Bool.and_eq_true_iff.mp fits).1) c
    rw [tail_stop (by omega) ho] at out
    exact ⟨_,rfl,out _ _ bt R' nx⟩
end
end Prg
end
section
set_option maxRecDepth 100000
set_option maxHeartbeats 4000000
namespace Prg
open PySem L2
open Vanbka (Bytes Lex reserved isSign isWord next nameNext wordNext eat b halt_ placeAt tooDeepAt Op Prim Way Exprs Fields Stmts opNext chain line simple reach listed more fields parts inBrackets function block statements statement)
abbrev sReadReach:PySem.Stmt:=top 37
abbrev sReadListed:PySem.Stmt:=top 38
theorem rm_any{h a c:Nat}(l:a≤c):room h a≤20 * (24 - h) + c:=by
 unfold room
 by_cases z:h≤24
 ·rw [if_pos z];omega
 ·rw [if_neg z];omega
def appE:List Vanbka.Expr→Exprs→Exprs
 | [],m=>m
 | e::l,m=>.cons e (appE l m)
theorem appE_snoc(l:List Vanbka.Expr)(e:Vanbka.Expr)(m:Exprs):appE (l ++ [e]) m=appE l (.cons e m):=by
 induction l with
 | nil=>rfl
 | cons x l ih=>exact congrArg (Exprs.cons x) ih
theorem nodes_appE(l:List Vanbka.Expr)(m:Exprs):nodesE (appE l m)=l.map nodeE ++ nodesE m:=by
 induction l with
 | nil=>rfl
 | cons x l ih=>show nodeE x::_=nodeE x::_;rw [ih];rfl
section
variable{P:Program}{w:World}{K:PySem.W.Frag}{mg:Str→Option Value}{base:Heap}{D:Ad}{N:Nat}
theorem acc_old{T:Hp}{X:Tx}{rd l:Addr}{H1 H' H3:Hp}{r:Toks}{o u:HO}(R1:RDa D X rd H1 r)(hl:H1 l=some u)(bt:But rd H' H3):Same (Cut T H1 H') (Cut T H1 (upd H3 l o)):=cut_on fun b v z1 z2=>by
 have n1:b≠l:=fun y=>by rw [y,hl] at z1;cases z1
 rw [upd_ne n1]
 refine bt b v z2 fun y=>?_
 obtain ⟨dx,pre,h,_⟩:=R1.ob
 rw [y,h] at z1;cases z1
theorem gr_l{X:Tx}{rd l:Addr}{H H2:Hp}{r:Toks}{o u:HO}(bt:But rd H H2)(R2:RDa D X rd H2 r)(hl:H2 l=some u):∀ b,H2 b=none→upd H l o b=none:=fun b z=>by
 have n1:b≠l:=fun y=>by rw [y,hl] at z;cases z
 rw [upd_ne n1]
 exact gr_of bt R2 b z
theorem acc_new{T:Hp}{X:Tx}{rd l:Addr}{H H2 H3:Hp}{r:Toks}{o u i:HO}(bt:But rd H H2)(R2:RDa D X rd H2 r)(hl:H2 l=some u):Same (Cut T H2 H3) (Cut T (upd H l i) (upd H3 l o)):=cut_grow (gr_l bt R2 hl) fun b v z1 z2=>by
 have n1:b≠l:=fun y=>by rw [y,hl] at z1;cases z1
 rw [upd_ne n1]
 exact z2
theorem acc_end{T H H':Hp}{l:Addr}{o:HO}:Same (Cut T (upd H l o) H') (Cut T H H'):=cut_grow (fun b z=>by
 by_cases y:b=l
 ·rw [y,upd_same] at z;cases z
 ·rwa [upd_ne y] at z) fun _ _ _ e=>e
theorem tree_one{X:Tx}{rd l1 l2 l3:Addr}{H H1 H3:Hp}{r' r:Toks}{Q:Addr→Hp→Prop}{E:XK}{k:Str}{v:V}{x:Node}(b1:But rd H H1)(R1:RDa D X rd H1 r')(m1:H1 l1=none)(b3:But rd (upd H1 l1 (.lst [])) H3)(R3:RDa D X rd H3 r)(n3:NodeAt D.CN (Cut X.T (upd H1 l1 (.lst [])) H3) x v)
  (m2:H3 l2=none) (m3:upd H3 l2 (.lst [v]) l3=none) (q:∀ z H9,But rd H H9→RDa D X rd H9 r→NodeAt D.CN (Cut X.T H H9) (.mk k [] [x] []) (.ref z)→Q z H9) :
  ∀ z dx,upd (upd H3 l2 (.lst [v])) l3 (.lst []) z=none→upd (upd H3 l2 (.lst [v])) l3 (.lst []) dx=none→dx≠z→
   spNI D.CN [.ref z,.str k,.ref l1,.ref l2,.ref l3] (upd (upd (upd (upd H3 l2 (.lst [v])) l3 (.lst [])) dx (.own z)) z (.ins D.CN dx [])) (fun v H2=>v = .non∧Q z H2) E:=by
 have m1T:=gone_T R1.st m1
 have m1r:=R1.ne m1
 have m1H:=gr_of b1 R1 l1 m1
 have R2:RDa D X rd (upd H1 l1 (.lst [])) r':=R1.same (same_new m1 _)
 have b2:But rd H (upd H1 l1 (.lst [])):=b1.then (same_new m1 _)
 have b03:=b2.trans b3
 have s1:Same H3 (upd H3 l2 (.lst [v])):=same_new m2 _
 have s2:Same (upd H3 l2 (.lst [v])) (upd (upd H3 l2 (.lst [v])) l3 (.lst [])):=same_new m3 _
 have gr:=gr_of b03 R3
 have g:Same (Cut X.T (upd H1 l1 (.lst [])) H3) (Cut X.T H (upd (upd H3 l2 (.lst [v])) l3 (.lst []))):=(cut_part b2 R2).trans (cut_on_same (s1.trans s2))
 exact make_node (ls:=[]) (ps:=[x]) (bs:=[]) (fun b z=>gr b (none_of_same (s1.trans s2) z)) (R3.st.trans (s1.trans s2)) (cut_new m1T m1H ((s1.trans s2) _ _ (b3 _ _ upd_same m1r))) (cut_new (none_of_same R3.st m2) (gr _ m2) (s2 _ _ upd_same))
  (cut_new (none_of_same (R3.st.trans s1) m3) (gr _ (none_of_same s1 m3)) upd_same) ⟨by decide,(by show 1≤1000;decide),by decide⟩ .nil (nodes1 (NodeAt.same g _ _ n3)) blocks0 fun x H9 sm nd=>q x H9 (b03.then ((s1.trans s2).trans sm)) (R3.same ((s1.trans s2).trans sm)) nd
theorem scSigned:FnScope ["reader"] ["reader"] (defScope sReadSigned):=⟨rfl,rfl,rfl,by decide +kernel,rfl,by decide +kernel,by decide +kernel⟩
theorem ok_signed(Kn:Known K mg "read_signed" ["reader"] sReadSigned)(B:Base P w K mg base D)(I:Reads P w K mg base D N)(h:Nat):Has P w K mg base (room h 12) "read_signed" ["reader"] (spR D 3 (N + 1) h [] Any (fun n=>line n 8) (repE D)):=by
 refine has_of (r:=11) Kn scSigned (fun _ _ _ _ q=>q.len) (fun _ _ _ _ q=>q.le) fun hh f cdv A outer s H vs Q E hr q=>?_
 obtain ⟨X,rd,rs,n,hn,rfl,pre,_,out⟩:=q
 obtain ⟨R,dp,_,fu,sz⟩:=pre
 have cl:=B.rd.c.cl
 have nd:=scSigned.nd
 have r3:Room 3 _:=hr.mono (by omega)
 have G:=I.reached h
 refine ⟨_,(pss_cons (ps_if (pt_cmpR op_eq (pe_hasM0 B.look cl r3 (pv 0)) pe_str (nomark _)) (pss_cons (ps_expr (pe_hasM B.take cl r3 (pv 0) (pa_cons pe_str pa_nil)))
   (pss_one (ps_ret (pe_tree B r3 rfl (pa_cons pe_str (pa_cons (pe_lst pa_nil) (pa_cons (pe_lst (pa_cons (pe_has G hr rfl (pa_cons (pv 0) pa_nil) (rm_same hh (by decide))) pa_nil)) (pa_cons (pe_lst pa_nil) pa_nil)))))))) pss_nil)
   (pss_one (ps_ret (pe_has G hr rfl (pa_cons (pv 0) pa_nil) (rm_same hh (by decide)))))),?_⟩
 have out:Out D X rd H Q E (repE D) (line n 8 rs):=out
 cases n with
 | zero=>omega
 | succ n =>
  rw [line,if_neg (by decide),if_neg (by decide),if_pos (show (8 == 8)=true from rfl),nxMinus R.wfr] at out
  refine m_look R ⟨rfl,_,rfl,ite2 (fun c=>?_) (fun c=>?_)⟩
  ·have c:=seqT c
   obtain ⟨t,r',e1,e2,_⟩:=head_cons c (by decide)
   have len1:rs.length=r'.length + 1:=by rw [e1];rfl
   have C1:Cell.Con rs (rs.drop 1) 0 1:=Cell.con_sign (s := "-") (by rw [nxMinus R.wfr];exact decide_eq_true c)
   rw [decide_eq_true c,if_pos rfl,e2] at out
   rw [e2] at C1
   refine m_takeK R c fun _ H1 b1 R1 _=>?_
   rw [e2] at R1
   refine ⟨by decide,fun l1 m1=>⟨_,rfl,X,rd,r',n,by omega,rfl,⟨R1.same (same_new m1 _),dp0 C1 dp,hh,by omega,sz⟩,trivial,out_call out fun e r he out v H3 b3 R3 n3=>?_⟩⟩
   exact ⟨(by show 1≤2 ^ 24;decide),fun l2 m2=>⟨by decide,fun l3 m3=>tree_one b1 R1 m1 b3 R3 n3 m2 m3 fun z H9 b9 R9 nd=>out _ _ b9 R9 nd⟩⟩
  ·have c:=seqF c
   rw [decide_eq_false c,if_neg Bool.false_ne_true] at out
   exact ⟨_,rfl,X,rd,rs,n,by omega,rfl,⟨R,dp,hh,by omega,sz⟩,trivial,out⟩
structure Closing(s:String)(z:Str):Prop where
 ne:z≠"END"
 nx:∀ rs:Toks,WfL rs→next (isSign s) rs=decide (headK rs=z)
theorem close_p:Closing ")" ")":=⟨by decide,fun _ h=>nxPc h⟩
theorem close_b:Closing "]" "]":=⟨by decide,fun _ h=>nxBc h⟩
theorem scListed:FnScope ["reader", "closing", "parts"] ["reader", "closing"] (defScope sReadListed):=⟨rfl,rfl,rfl,by decide +kernel,rfl,by decide +kernel,by decide +kernel⟩
theorem ok_listed{cs:String}{z:Str}(cz:Closing cs z)(Kn:Known K mg "read_listed" ["reader", "closing"] sReadListed)(B:Base P w K mg base D)(I:Reads P w K mg base D N)(h:Nat) :
  Has P w K mg base (room h 22) "read_listed" ["reader", "closing"] (spR D 12 (N + 1) h [.str z] Any (fun n=>listed n cs) (repEs D)):=by
 refine has_of (r:=21) Kn scListed (fun _ _ _ _ q=>q.len) (fun _ _ _ _ q=>q.le) fun hh f cdv A outer s H vs Q E hr q=>?_
 obtain ⟨X,rd,rs,n,hn,rfl,pre,_,out⟩:=q
 obtain ⟨R,dp,_,fu,sz⟩:=pre
 have cl:=B.rd.c.cl
 have nd:=scListed.nd
 have r3:Room 3 _:=hr.mono (by omega)
 have G:=I.expr h
 refine ⟨_,(pss_cons (ps_set (i:=2) nd rfl (Or.inl rfl) (pe_lst pa_nil))
   (pss_cons (ps_if (pt_cmpR op_ne (pe_hasM0 B.look cl r3 (pv 0)) (pv 1) (nomark _)) (pss_cons (ps_expr (pe_bm PySem.F.plainAttrs_list PySem.F.slot_list_append PySem.F.type_list_append mt_append (pv 2) (pa_cons (pe_has G hr rfl (pa_cons (pv 0) pa_nil) (rm_same hh (by decide))) pa_nil)))
   (pss_one (ps_while ownF (pt_cmpR op_eq (pe_hasM0 B.look cl r3 (pv 0)) pe_str (nomark _)) (pss_cons (ps_expr (pe_hasM B.take cl r3 (pv 0) (pa_cons pe_str pa_nil)))
   (pss_one (ps_expr (pe_bm PySem.F.plainAttrs_list PySem.F.slot_list_append PySem.F.type_list_append mt_append (pv 2) (pa_cons (pe_has G hr rfl (pa_cons (pv 0) pa_nil) (rm_same hh (by decide))) pa_nil)))))))) pss_nil)
   (pss_cons (ps_expr (pe_hasM B.take cl r3 (pv 0) (pa_cons (pv 1) pa_nil)))
   (pss_one (ps_ret (pv 2)))))),?_⟩
 have out:Out D X rd H Q E (repEs D) (listed n cs rs):=out
 cases n with
 | zero=>omega
 | succ n =>
  rw [listed,cz.nx _ R.wfr] at out
  refine ⟨by decide,fun l ml=>?_⟩
  have mlT:=gone_T R.st ml
  have mlr:=R.ne ml
  have R1:RDa D X rd (upd H l (.lst [])) rs:=R.same (same_new ml _)
  have b1:But rd H (upd H l (.lst [])):=(But.refl rd H).then (same_new ml _)
  have hal:=R.len
  have fin:∀ (H':Hp) (r:Toks) (done:List Vanbka.Expr) (vs:List V),But rd H H'→RDa D X rd H' r→H' l=some (.lst vs)→vs.length≤700→NodesAt D.CN (Cut X.T (upd H l (.lst [])) H') (done.map nodeE) vs→
    Out D X rd H Q E (repEs D) (eat (isSign cs) r >>= fun r=>pure (appE done .nil,r))→
    tSeq (tDrop (tMeth D.CR "take" (spTake D.CF D.CT D.CR) [] E (tVar 0) (tCons (tVar 1) tNil))) (tRet (tVar 2)) { nx:=fun _ H'=>Q .non H',rt:=Q } [some (V.ref rd),some (V.str z),some (V.ref l)] H':=by
   intro H' r done vs bt R' hl hv hN out
   refine m_eat R' (cz.nx _ R'.wfr) (out_eat out fun r2 he out _ H2 b2 R2=>?_) cz.ne (fun _ q=>⟨_,rfl,q⟩)
   refine ⟨_,rfl,out _ _ (bt.trans b2) R2 ⟨l,vs,rfl,cut_new mlT ml (b2 _ _ hl mlr),by omega,?_⟩⟩
   rw [nodes_appE]
   show NodesAt _ _ (done.map nodeE ++ []) vs
   rw [List.append_nil]
   exact NodesAt.same ((cut_on_but R1 b2).trans acc_end) _ _ hN
  refine m_look R1 ⟨_,rfl,rfl,_,rfl,ite2 (fun c=>?_) (fun c=>?_)⟩
  ·have c:=sneT c
   rw [decide_eq_false c,if_neg Bool.false_ne_true] at out
   refine ⟨_,rfl,.inl ⟨rfl,_,SqL.of upd_same⟩,_,rfl,X,rd,rs,n,by omega,rfl,⟨R1,dp,hh,by omega,sz⟩,trivial,out_call out fun e r he out v H2 b2 R2 n2=>?_⟩
   dsimp only at out
   have C2:=con_of ((Cell.fine n).expr rs) he
   have lC2:=C2.len
   have hl2:H2 l=some (.lst []):=b2 _ _ upd_same mlr
   refine ⟨l,_,_,rfl,rfl,hl2,by decide,?_⟩
   refine ⟨fun m σ H'=>∃ (g:Nat) (r:Toks) (done:List Vanbka.Expr) (vs:List V),σ=[some (.ref rd),some (.str z),some (.ref l)]∧But rd H H'∧RDa D X rd H' r∧tooDeepAt (h:Int) r=none∧16 * r.length + 1≤g∧g≤N∧m=r.length∧H' l=some (.lst vs)∧NodesAt D.CN (Cut X.T (upd H l (.lst [])) H') (done.map nodeE) vs∧vs.length + r.length≤X.all.length∧
    Out D X rd H Q E (repEs D) (more g r >>= fun p=>eat (isSign cs) p.2 >>= fun r=>pure (appE done p.1,r)),
    ⟨_,n,r,[e],[v],rfl,(b1.trans b2).updn ml,R2.updn mlT mlr,dp0 C2 dp,by omega,by omega,rfl,upd_same,nodes1 (NodeAt.same (acc_new b1 R1 upd_same) _ _ n2),by rw [List.length_singleton];omega,out⟩,?_⟩
   clear out n2 b2 R2 C2 lC2 he hl2
   rintro m σ H' ⟨g,r,done,vs,rfl,bt,R',dp',fg,gN,rfl,hl,hN,hsz,out⟩
   refine m_look R' ⟨rfl,_,rfl,ite2 (fun c=>?_) (fun c=>?_)⟩
   ·have c:=seqT c
    obtain ⟨t,r',e1,e2,_⟩:=head_cons c (by decide)
    have len1:r.length=r'.length + 1:=by rw [e1];rfl
    have C1:Cell.Con r (r.drop 1) 0 1:=Cell.con_sign (s := ",") (by rw [nxComma R'.wfr];exact decide_eq_true c)
    cases g with
    | zero=>omega
    | succ g =>
     rw [more,nxComma R'.wfr,decide_eq_true c,if_pos rfl,e2] at out
     rw [e2] at C1
     refine ⟨fun σ' H2=>∃ m',m' < r.length∧∃ (g:Nat) (r:Toks) (done:List Vanbka.Expr) (vs:List V),σ'=[some (.ref rd),some (.str z),some (.ref l)]∧But rd H H2∧RDa D X rd H2 r∧tooDeepAt (h:Int) r=none∧16 * r.length + 1≤g∧g≤N∧m'=r.length∧H2 l=some (.lst vs)∧NodesAt D.CN (Cut X.T (upd H l (.lst [])) H2) (done.map nodeE) vs∧vs.length + r.length≤X.all.length∧
      Out D X rd H Q E (repEs D) (more g r >>= fun p=>eat (isSign cs) p.2 >>= fun r=>pure (appE done p.1,r)),fun _ _ z=>z,?_⟩
     refine m_takeK R' c fun _ H2 b2 R2 _=>?_
     rw [e2] at R2
     have hl2:H2 l=some (.lst vs):=b2 _ _ hl mlr
     have out:Out D X rd H Q E (repEs D) (Vanbka.expr g r' >>= fun p=>more g p.2 >>= fun q=>eat (isSign cs) q.2 >>= fun r=>pure (appE (done ++ [p.1]) q.1,r)):=by
      cases he:Vanbka.expr g r' with
      | error y=>rw [he] at out;exact out
      | ok p =>
       rw [he] at out
       obtain ⟨e,r2⟩:=p
       show Out D X rd H Q E (repEs D) (more g r2 >>= fun q=>eat (isSign cs) q.2 >>= fun r=>pure (appE (done ++ [e]) q.1,r))
       have out:Out D X rd H Q E (repEs D) ((more g r2 >>= fun q=>pure (Exprs.cons e q.1,q.2)) >>= fun p=>eat (isSign cs) p.2 >>= fun r=>pure (appE done p.1,r)):=out
       cases hm:more g r2 with
       | error y=>rw [hm] at out;exact out
       | ok q =>
        rw [hm] at out
        have out:Out D X rd H Q E (repEs D) (eat (isSign cs) q.2 >>= fun r=>pure (appE done (.cons e q.1),r)):=out
        show Out D X rd H Q E (repEs D) (eat (isSign cs) q.2 >>= fun r=>pure (appE (done ++ [e]) q.1,r))
        rw [appE_snoc]
        exact out
     refine ⟨_,rfl,.inl ⟨rfl,_,SqL.of hl2⟩,_,rfl,X,rd,r',g,by omega,rfl,⟨R2,dp0 C1 dp',hh,by omega,sz⟩,trivial,out_call out fun e r3 he out v3 H3 b3 R3 n3=>?_⟩
     have C3:=con_of ((Cell.fine g).expr r') he
     have lC3:=C3.len
     have hl3:H3 l=some (.lst vs):=b3 _ _ hl2 mlr
     have b02:=bt.trans b2
     refine ⟨l,_,_,rfl,rfl,hl3,?_,r3.length,by omega,g,r3,done ++ [e],vs ++ [v3],rfl,(b02.trans b3).updn ml,R3.updn mlT mlr,dp0 C3 (dp0 C1 dp'),by omega,by omega,rfl,upd_same,?_,?_,out⟩
     ·show vs.length < 2 ^ 24
      omega
     ·rw [List.map_append]
      exact NodesAt.snoc (NodeAt.same (acc_new b02 R2 hl2) _ _ n3) _ _ (NodesAt.same (acc_old R1 upd_same (b2.trans b3)) _ _ hN)
     ·rw [List.length_append,List.length_singleton];omega
   ·have c:=seqF c
    have e:more g r = .ok (.nil,r):=by
     cases g with
     | zero=>omega
     | succ g=>rw [more,nxComma R'.wfr,decide_eq_false c,if_neg Bool.false_ne_true]
    rw [e] at out
    exact fin H' r done vs bt R' hl (by omega) hN out
  ·have c:=sneF c
   rw [decide_eq_true c,if_pos rfl] at out
   refine fin _ rs [] [] b1 R1 upd_same (by decide) nodes0 ?_
   have e:eat (isSign cs) rs = .ok (rs.drop 1):=by unfold eat;rw [cz.nx _ R.wfr,decide_eq_true c,if_pos rfl]
   rw [e]
   exact out
end
end Prg
end
section
set_option maxRecDepth 100000
set_option maxHeartbeats 4000000
namespace Prg
open PySem L2
open Vanbka (Bytes Lex reserved isSign isWord next nameNext wordNext eat b halt_ placeAt tooDeepAt Op Prim Way Exprs Fields Stmts opNext chain line simple reach listed more fields parts inBrackets function block statements statement)
theorem open_of{s:String}{t:Vanbka.Tok}{r:Toks}(h:next (isSign s) (t::r)=true)(o:Vanbka.opening (.sign (b s))=true):Vanbka.opening t.lex=true:=by
 have e:t.lex = .sign (b s):=by simpa [next,isSign] using h
 rw [e];exact o
theorem inV_strs(z:Str)(zs:List Str):inV (.str z) (zs.map V.str)=decide (z∈zs):=by
 induction zs with
 | nil=>rfl
 | cons x l ih =>
  show ((x == z) || inV (.str z) (l.map V.str))=_
  rw [ih]
  by_cases e:z=x
  ·subst e;simp
  ·have e':¬ x=z:=fun y=>e y.symm
   rw [beq_eq_false_iff_ne.mpr e',Bool.false_or]
   simp [e]
def reachS(n:Nat)(x:Vanbka.Expr)(ts:Toks):Except Nat (Vanbka.Expr×Toks) :=
 if next (isSign "(") ts then listed n ")" (ts.drop 1) >>= fun p=>pure (.call x p.1,p.2)
 else if next (isSign "[") ts then Vanbka.expr n (ts.drop 1) >>= fun p=>eat (isSign "]") p.2 >>= fun r=>pure (.index x p.1,r)
 else Vanbka.name (ts.drop 1) >>= fun p=>pure (.field x p.1,p.2)
theorem reach_step{n:Nat}{x:Vanbka.Expr}{ts:Toks}(w:WfL ts):reach (n + 1) x ts=if headK ts∈(["(", "[", "."]:List Str) then reachS n x ts >>= fun p=>reach n p.1 p.2 else .ok (x,ts):=by
 rw [reach]
 unfold reachS
 rw [nxPo w,nxBo w,nxDot w]
 by_cases c1:headK ts = "("
 ·rw [decide_eq_true c1,if_pos rfl,if_pos rfl,if_pos (by rw [c1];decide)]
  cases listed n ")" (ts.drop 1) <;> rfl
 rw [decide_eq_false c1,if_neg Bool.false_ne_true,if_neg Bool.false_ne_true]
 by_cases c2:headK ts = "["
 ·rw [decide_eq_true c2,if_pos rfl,if_pos rfl,if_pos (by rw [c2];decide)]
  cases Vanbka.expr n (ts.drop 1) with
  | error l=>rfl
  | ok p =>
   show (eat (isSign "]") p.2 >>= _)=_
   cases h:eat (isSign "]") p.2 with
   | error l =>
    show _=(eat (isSign "]") p.2 >>= _) >>= _
    rw [h];rfl
   | ok r =>
    show _=(eat (isSign "]") p.2 >>= _) >>= _
    rw [h];rfl
 rw [decide_eq_false c2,if_neg Bool.false_ne_true,if_neg Bool.false_ne_true]
 by_cases c3:headK ts = "."
 ·rw [decide_eq_true c3,if_pos rfl,if_pos (by rw [c3];decide)]
  cases Vanbka.name (ts.drop 1) <;> rfl
 rw [decide_eq_false c3,if_neg Bool.false_ne_true,if_neg (fun z=>by simp [c1,c2,c3] at z)]
theorem fine_reachS{n:Nat}{x:Vanbka.Expr}{ts:Toks}(w:WfL ts)(c:headK ts∈(["(", "[", "."]:List Str)):Cell.Res (reachS n x ts) ts 0 1:=by
 unfold reachS
 by_cases h1:next (isSign "(") ts=true
 ·rw [if_pos h1]
  exact Cell.Res.to (Cell.Res.after (Cell.con_sign h1) (Cell.Res.bind ((Cell.fine n).listed ")" _) fun a r _=>Cell.Res.ret)) (by rw [Cell.sw_po,Cell.sw_pc];rfl) (by omega)
 rw [if_neg h1]
 by_cases h2:next (isSign "[") ts=true
 ·rw [if_pos h2]
  exact Cell.Res.to (Cell.Res.after (Cell.con_sign h2) (Cell.Res.bind ((Cell.fine n).expr _) fun a r _=>Cell.ResE.bind Cell.res_eatS fun r _=>Cell.Res.ret)) (by rw [Cell.sw_bo,Cell.sw_bc];rfl) (by omega)
 rw [if_neg h2]
 have h3:next (isSign ".") ts=true:=by
  rw [nxPo w] at h1
  rw [nxBo w] at h2
  rw [nxDot w]
  simp at c h1 h2 ⊢
  rcases c with z | z | z
  ·exact absurd z h1
  ·exact absurd z h2
  ·exact z
 exact Cell.Res.to (Cell.Res.after (Cell.con_sign h3) (Cell.Res.bind Cell.res_name fun a r _=>Cell.Res.ret)) (by rw [Cell.sw_dot];rfl) (by omega)
def OutB{α:Type}(D:Ad)(X:Tx)(rd:Addr)(H0 H:Hp)(Q:VK)(E:XK)(rep:Hp→α→V→Prop)(res:Except Nat (α×Toks)):Prop:=match res with
 | .ok (a,r)=>∀ v H',But rd H H'→RDa D X rd H' r→rep (Cut X.T H0 H') a v→Q v H'
 | .error l=>Err D.CF E 4 (placeAt X.all X.len l:Nat)
section
variable{D:Ad}{X:Tx}{rd:Addr}{H0 H H1:Hp}{Q Q1:VK}{E:XK}{rs:Toks}{α β:Type}{rep:Hp→β→V→Prop}{rep1:Hp→α→V→Prop}
theorem outB_call{x:Except Nat (α×Toks)}{f:α×Toks→Except Nat (β×Toks)}(out:OutB D X rd H0 H Q E rep (x >>= f))
  (k:∀ a r,x = .ok (a,r)→OutB D X rd H0 H Q E rep (f (a,r))→∀ v H2,But rd H1 H2→RDa D X rd H2 r→rep1 (Cut X.T H1 H2) a v→Q1 v H2):Out D X rd H1 Q1 E rep1 x:=by
 cases x with
 | error l=>exact out
 | ok p=>exact fun v H2 b R n=>k p.1 p.2 rfl out v H2 b R n
theorem outB_tok{x:Except Nat (α×Toks)}{f:α×Toks→Except Nat (β×Toks)}(out:OutB D X rd H0 H Q E rep (x >>= f))
  (k:∀ a r,x = .ok (a,r)→OutB D X rd H0 H Q E rep (f (a,r))→∀ v H2,But rd H1 H2→RDa D X rd H2 r→rep1 X.T a v→Q1 v H2):OutT D X rd H1 Q1 E rep1 x:=by
 cases x with
 | error l=>exact out
 | ok p=>exact fun v H2 b R n=>k p.1 p.2 rfl out v H2 b R n
theorem outB_eat{x:Except Nat Toks}{f:Toks→Except Nat (β×Toks)}(out:OutB D X rd H0 H Q E rep (x >>= f))
  (k:∀ r,x = .ok r→OutB D X rd H0 H Q E rep (f r)→∀ v H2,But rd H1 H2→RDa D X rd H2 r→Q1 v H2):OutE D X rd H1 Q1 E x:=by
 cases x with
 | error l=>exact out
 | ok r=>exact fun v H2 b R=>k r rfl out v H2 b R
end
section
variable{P:Program}{w:World}{K:PySem.W.Frag}{mg:Str→Option Value}{base:Heap}{D:Ad}{N:Nat}
def spReach(D:Ad)(N h:Nat):Sp:=fun vs H Q E=>∃ X rd rs n x v H0 rs0,n≤N∧vs=[.ref rd,v]∧Pre D X rd H rs h n 0∧headK rs∈(["(", "[", "."]:List Str)∧RDa D X rd H0 rs0∧But rd H0 H∧NodeAt D.CN (Cut X.T H0 H) (nodeE x) v∧OutB D X rd H0 H Q E (repE D) (reachS n x rs)
theorem scReach:FnScope ["reader", "left", "sign", "at"] ["reader", "left"] (defScope sReadReach):=⟨rfl,rfl,rfl,by decide +kernel,rfl,by decide +kernel,by decide +kernel⟩
theorem ok_reach(Kn:Known K mg "read_reach" ["reader", "left"] sReadReach)(B:Base P w K mg base D)(I:Reads P w K mg base D N)(GL:∀ h,Has P w K mg base (room h 22) "read_listed" ["reader", "closing"] (spR D 12 (N + 1) h [.str ")"] Any (fun n=>listed n ")") (repEs D)))(h:Nat) :
  Has P w K mg base (room h 9) "read_reach" ["reader", "left"] (spReach D N h):=by
 refine has_of (r:=8) Kn scReach (fun _ _ _ _ q=>?_) (fun _ _ _ _ q=>?_) fun hh f cdv A outer s H vs Q E hr q=>?_
 ·obtain ⟨X,rd,rs,n,x,v,H0,rs0,_,rfl,_⟩:=q
  rfl
 ·obtain ⟨X,rd,rs,n,x,v,H0,rs0,_,rfl,p,_⟩:=q
  exact p.le
 obtain ⟨X,rd,rs,n,x,v,H0,rs0,hn,rfl,pre,c,R0,b0,nx,out⟩:=q
 obtain ⟨R,dp,_,fu,sz⟩:=pre
 have cl:=B.rd.c.cl
 have nd:=scReach.nd
 have r3:Room 3 _:=hr.mono (by omega)
 have GL:=GL (h + 1)
 have GE:=I.expr (h + 1)
 refine ⟨_,(pss_cons (ps_set (i:=2) nd rfl (Or.inl rfl) (pe_hasM0 B.move cl r3 (pv 0)))
   (pss_cons (ps_if (pt_cmpR op_eq (pv 2) pe_str (nomark _)) (pss_one (ps_ret (pe_tree B r3 rfl (pa_cons pe_str (pa_cons (pe_lst pa_nil) (pa_cons (pe_op op_cat (pe_lst (pa_cons (pv 1) pa_nil)) (pe_has GL hr rfl (pa_cons (pv 0) (pa_cons pe_str pa_nil)) (rm_up hh (by decide)))) (pa_cons (pe_lst pa_nil) pa_nil))))))) pss_nil)
   (pss_cons (ps_if (pt_cmpR op_eq (pv 2) pe_str (nomark _)) (pss_cons (ps_set (i:=3) nd rfl (Or.inl rfl) (pe_has GE hr rfl (pa_cons (pv 0) pa_nil) (rm_up hh (by decide))))
   (pss_cons (ps_expr (pe_hasM B.take cl r3 (pv 0) (pa_cons pe_str pa_nil)))
   (pss_one (ps_ret (pe_tree B r3 rfl (pa_cons pe_str (pa_cons (pe_lst pa_nil) (pa_cons (pe_lst (pa_cons (pv 1) (pa_cons (pv 3) pa_nil))) (pa_cons (pe_lst pa_nil) pa_nil))))))))) pss_nil)
   (pss_one (ps_ret (pe_tree B r3 rfl (pa_cons pe_str (pa_cons (pe_lst (pa_cons (pe_hasM B.take cl r3 (pv 0) (pa_cons pe_str pa_nil)) pa_nil)) (pa_cons (pe_lst (pa_cons (pv 1) pa_nil)) (pa_cons (pe_lst pa_nil) pa_nil)))))))))),?_⟩
 have w:=R.wfr
 cases rs with
 | nil=>exact absurd c (by decide)
 | cons t r =>
  have lr:(t::r).length=r.length + 1:=rfl
  have dr:(t::r).drop 1=r:=rfl
  unfold reachS at out
  rw [nxPo w,nxBo w,dr] at out
  refine m_move R fun H1 b1 R1=>?_
  have b01:=b0.trans b1
  have hk:headK (t::r)=kindS t.lex:=rfl
  rw [hk] at out c
  refine ⟨_,rfl,rfl,_,rfl,ite2 (fun k1=>?_) (fun k1=>?_)⟩
  ·have k1:=seqT k1
   rw [decide_eq_true k1,if_pos rfl] at out
   have op:next (isSign "(") (t::r)=true:=by rw [nxPo w];exact decide_eq_true k1
   have C1:Cell.Con (t::r) r 1 1:=Cell.con_sign op
   have h24:h < 24:=by
    have:=Cell.deep_open (t:=t) (r:=r) (open_of op (by decide +kernel)) dp
    omega
   refine ⟨by decide,fun l1 m1=>⟨_,rfl,(by show 1≤2 ^ 24;decide),fun l2 m2=>?_⟩⟩
   have s12:Same H1 (upd (upd H1 l1 (.lst [])) l2 (.lst [v])):=(same_new m1 _).trans (same_new m2 _)
   have R2:=R1.same s12
   have b02:=b01.then s12
   refine ⟨_,rfl,X,rd,r,n,by omega,rfl,⟨R2,dp1 C1 dp,by omega,by omega,sz⟩,trivial,outB_call out fun l r3 he out u H3 b3 R3 n3=>?_⟩
   obtain ⟨a,vs,rfl,ha,lv,hN⟩:=n3
   have m1r:=R1.ne m1
   have m2r:l2≠rd:=(R1.same (same_new m1 _)).ne m2
   have hl1:H3 l1=some (.lst []):=b3 _ _ (same_new m2 _ _ _ upd_same) m1r
   have hl2:H3 l2=some (.lst [v]):=b3 _ _ upd_same m2r
   have ha3:H3 a=some (.lst vs):=cut_sub R3.st _ _ ha
   refine ⟨l2,a,_,_,rfl,rfl,hl2,ha3,(by show 1 + vs.length≤2 ^ 24;omega),fun l4 m4=>⟨by decide,fun l5 m5=>?_⟩⟩
   have b03:=b02.trans b3
   have gr:=gr_of b03 R3
   have s1:Same H3 (upd H3 l4 (.lst ([v] ++ vs))):=same_new m4 _
   have s2:Same (upd H3 l4 (.lst ([v] ++ vs))) (upd (upd H3 l4 (.lst ([v] ++ vs))) l5 (.lst [])):=same_new m5 _
   have g1:Same (Cut X.T H0 H) (Cut X.T H0 (upd (upd H3 l4 (.lst ([v] ++ vs))) l5 (.lst []))):=(cut_on_but R0 ((b1.then s12).trans b3)).trans (cut_on_same (s1.trans s2))
   have g3:Same (Cut X.T (upd (upd H1 l1 (.lst [])) l2 (.lst [v])) H3) (Cut X.T H0 (upd (upd H3 l4 (.lst ([v] ++ vs))) l5 (.lst []))):=(cut_part b02 R2).trans (cut_on_same (s1.trans s2))
   exact make_node (ls:=[]) (ps:=nodeE x::nodesE l) (bs:=[]) (fun b z=>gr b (none_of_same (s1.trans s2) z)) (R3.st.trans (s1.trans s2)) (cut_new (gone_T R1.st m1) (gr_of b01 R1 l1 m1) ((s1.trans s2) _ _ hl1)) (cut_new (none_of_same R3.st m4) (gr _ m4) (s2 _ _ upd_same))
    (cut_new (none_of_same (R3.st.trans s1) m5) (gr _ (none_of_same s1 m5)) upd_same) ⟨by decide,(by show vs.length + 1≤1000;omega),by decide⟩ .nil (nodes_cons (NodeAt.same g1 _ _ nx) (NodesAt.same g3 _ _ hN)) blocks0 fun z H9 sm nd=>out _ _ (((b1.then s12).trans b3).then ((s1.trans s2).trans sm)) (R3.same ((s1.trans s2).trans sm)) nd
  have k1:=seqF k1
  rw [decide_eq_false k1,if_neg Bool.false_ne_true] at out
  refine ⟨_,rfl,rfl,_,rfl,ite2 (fun k2=>?_) (fun k2=>?_)⟩
  ·have k2:=seqT k2
   rw [decide_eq_true k2,if_pos rfl] at out
   have op:next (isSign "[") (t::r)=true:=by rw [nxBo w];exact decide_eq_true k2
   have C1:Cell.Con (t::r) r 1 1:=Cell.con_sign op
   have h24:h < 24:=by
    have:=Cell.deep_open (t:=t) (r:=r) (open_of op (by decide +kernel)) dp
    omega
   refine ⟨_,rfl,X,rd,r,n,by omega,rfl,⟨R1,dp1 C1 dp,by omega,by omega,sz⟩,trivial,outB_call out fun e r3 he out u H3 b3 R3 n3=>?_⟩
   refine m_eat R3 (nxBc R3.wfr) (outB_eat out fun r4 he4 out _ H4 b4 R4=>?_)
   have b04:=(b01.trans b3).trans b4
   have g1:Same (Cut X.T H0 H) (Cut X.T H0 H4):=cut_on_but R0 (b1.trans (b3.trans b4))
   have g3:Same (Cut X.T H1 H3) (Cut X.T H0 H4):=(cut_part b01 R1).trans (cut_on_but R0 b4)
   refine ⟨by decide,fun l1 m1=>⟨_,rfl,_,rfl,(by show 2≤2 ^ 24;decide),fun l2 m2=>⟨by decide,fun l3 m3=>?_⟩⟩⟩
   exact tree3 (gr_of b04 R4) R4.st m1 m2 m3 ⟨by decide,(by show 2≤1000;decide),by decide⟩ .nil (nodes_cons (NodeAt.same g1 _ _ nx) (nodes1 (NodeAt.same g3 _ _ n3))) blocks0 fun z H9 sm nd=>out _ _ (((b1.trans b3).trans b4).then sm) (R4.same sm) nd
  ·have k2:=seqF k2
   rw [decide_eq_false k2,if_neg Bool.false_ne_true] at out
   refine m_name R1 (outB_tok out fun y r2 he out u H2 b2 R2 lf=>?_)
   have b02:=b01.trans b2
   refine ⟨(by show 1≤2 ^ 24;decide),fun l1 m1=>⟨_,rfl,(by show 1≤2 ^ 24;decide),fun l2 m2=>⟨by decide,fun l3 m3=>?_⟩⟩⟩
   have g1:Same (Cut X.T H0 H) (Cut X.T H0 H2):=cut_on_but R0 (b1.trans b2)
   exact tree3 (gr_of b02 R2) R2.st m1 m2 m3 ⟨(by show 1≤1000;decide),(by show 1≤1000;decide),by decide⟩ (.cons (LeafAt.same cut_tok lf) .nil) (nodes1 (NodeAt.same g1 _ _ nx)) blocks0 fun z H9 sm nd=>out _ _ ((b1.trans b2).then sm) (R2.same sm) nd
theorem scReached:FnScope ["reader", "tree"] ["reader"] (defScope sReadReached):=⟨rfl,rfl,rfl,by decide +kernel,rfl,by decide +kernel,by decide +kernel⟩
theorem ok_reached(Kn:Known K mg "read_reached" ["reader"] sReadReached)(B:Base P w K mg base D)(I:Reads P w K mg base D N)(GR:∀ h,Has P w K mg base (room h 9) "read_reach" ["reader", "left"] (spReach D N h))(h:Nat) :
  Has P w K mg base (room h 11) "read_reached" ["reader"] (spR D 2 (N + 1) h [] Any (fun n=>line n 9) (repE D)):=by
 refine has_of (r:=10) Kn scReached (fun _ _ _ _ q=>q.len) (fun _ _ _ _ q=>q.le) fun hh f cdv A outer s H vs Q E hr q=>?_
 obtain ⟨X,rd,rs,n,hn,rfl,pre,_,out⟩:=q
 obtain ⟨R,dp,_,fu,sz⟩:=pre
 have cl:=B.rd.c.cl
 have nd:=scReached.nd
 have r3:Room 3 _:=hr.mono (by omega)
 have GS:=I.simple h
 have GR:=GR h
 refine ⟨_,(pss_cons (ps_set (i:=1) nd rfl (Or.inl rfl) (pe_has GS hr rfl (pa_cons (pv 0) pa_nil) (rm_same hh (by decide))))
   (pss_cons (ps_while ownF (pt_cmpR op_in_seq (pe_hasM0 B.look cl r3 (pv 0)) (pe_tup (pa_cons pe_str (pa_cons pe_str (pa_cons pe_str pa_nil)))) rfl) (pss_one (ps_set (i:=1) nd rfl (Or.inl rfl) (pe_has GR hr rfl (pa_cons (pv 0) (pa_cons (pv 1) pa_nil)) (rm_same hh (by decide))))))
   (pss_one (ps_ret (pv 1))))),?_⟩
 have out:Out D X rd H Q E (repE D) (line n 9 rs):=out
 cases n with
 | zero=>omega
 | succ n =>
  rw [line,if_neg (by decide),if_neg (by decide),if_neg (by decide),if_pos (show (9 == 9)=true from rfl)] at out
  refine ⟨_,rfl,X,rd,rs,n,by omega,rfl,⟨R,dp,hh,by omega,sz⟩,trivial,out_call out fun x r he out v H1 b1 R1 n1=>?_⟩
  dsimp only at out
  have C1:=con_of ((Cell.fine n).simple rs) he
  have lC1:=C1.len
  refine ⟨fun m σ H'=>∃ (g:Nat) (x:Vanbka.Expr) (r:Toks) (v:V),σ=[some (.ref rd),some v]∧But rd H H'∧RDa D X rd H' r∧tooDeepAt (h:Int) r=none∧16 * r.length + 1≤g∧g≤N∧m=r.length∧repE D (Cut X.T H H') x v∧Out D X rd H Q E (repE D) (reach g x r),
   ⟨_,n,x,r,v,rfl,b1,R1,dp0 C1 dp,by omega,by omega,rfl,n1,out⟩,?_⟩
  clear out n1 b1 R1 C1 lC1 he
  rintro m σ H' ⟨g,x,r,v,rfl,bt,R',dp',fg,gN,rfl,nx,out⟩
  refine m_look R' ⟨by decide,fun p np=>⟨p,_,rfl,.inr (SqT.of upd_same),rfl,rfl,_,rfl,?_⟩⟩
  have sp:Same H' (upd H' p (.tup [.str "(",.str "[",.str "."])):=same_new np _
  have ein:inV (.str (headK r)) [.str "(",.str "[",.str "."]=decide (headK r∈(["(", "[", "."]:List Str)):=inV_strs _ ["(", "[", "."]
  rw [if_neg Bool.false_ne_true,ein]
  have R2:=R'.same sp
  have b2:=bt.then sp
  have g2:Same (Cut X.T H H') (Cut X.T H (upd H' p (.tup [.str "(",.str "[",.str "."]))):=cut_on_same sp
  cases g with
  | zero=>omega
  | succ g =>
   rw [reach_step R'.wfr] at out
   refine ite2 (fun c=>?_) (fun c=>?_)
   ·have c:=of_decide_eq_true c
    rw [if_pos c] at out
    refine ⟨fun σ' H2=>∃ m',m' < r.length∧∃ (g:Nat) (x:Vanbka.Expr) (r:Toks) (v:V),σ'=[some (.ref rd),some v]∧But rd H H2∧RDa D X rd H2 r∧tooDeepAt (h:Int) r=none∧16 * r.length + 1≤g∧g≤N∧m'=r.length∧repE D (Cut X.T H H2) x v∧Out D X rd H Q E (repE D) (reach g x r),fun _ _ z=>z,?_⟩
    refine ⟨_,rfl,_,rfl,X,rd,r,g,x,v,H,rs,by omega,rfl,⟨R2,dp',hh,by omega,sz⟩,c,R,b2,NodeAt.same g2 _ _ nx,?_⟩
    have fr:=fine_reachS (n:=g) (x:=x) R'.wfr c
    cases he:reachS g x r with
    | error l=>rw [he] at out;exact out
    | ok q =>
     obtain ⟨y,r3⟩:=q
     rw [he] at out
     have C3:=con_of fr he
     have lC3:=C3.len
     intro v3 H3 b3 R3 n3
     exact ⟨r3.length,by omega,g,y,r3,v3,rfl,b2.trans b3,R3,dp0 C3 dp',by omega,by omega,rfl,n3,out⟩
   ·have c:¬ headK r∈(["(", "[", "."]:List Str):=fun z=>c (decide_eq_true z)
    rw [if_neg c] at out
    exact ⟨_,rfl,out _ _ b2 R2 (NodeAt.same g2 _ _ nx)⟩
end
end Prg
end
section
set_option maxRecDepth 100000
set_option maxHeartbeats 4000000
namespace Prg
open PySem L2
open Vanbka (Bytes Lex reserved isSign isWord next nameNext wordNext eat b halt_ placeAt tooDeepAt Op Prim Way Exprs Fields Stmts opNext chain line simple reach listed more fields parts inBrackets function block statements statement)
abbrev sReadBracketed:PySem.Stmt:=top 40
abbrev sReadRecord:PySem.Stmt:=top 41
theorem cut_grow2{T H0 H1 H2 H3:Hp}(h:∀ b o,H1 b=none→H2 b=some o→H0 b=none∧H3 b=some o):Same (Cut T H1 H2) (Cut T H0 H3):=fun b o e=>by
 rcases cut_cases e with z | ⟨z1,z2,z3⟩
 ·exact cut_old z
 ·exact cut_new z1 (h b o z2 z3).1 (h b o z2 z3).2
def appF:List (Bytes×Vanbka.Expr)→Fields→Fields
 | [],m=>m
 | p::l,m=>.cons p.1 p.2 (appF l m)
theorem appF_snoc(l:List (Bytes×Vanbka.Expr))(x:Bytes)(e:Vanbka.Expr)(m:Fields):appF (l ++ [(x,e)]) m=appF l (.cons x e m):=by
 induction l with
 | nil=>rfl
 | cons p l ih=>exact congrArg (Fields.cons p.1 p.2) ih
theorem nodes_appF(l:List (Bytes×Vanbka.Expr)):nodesF (appF l .nil)=l.map fun p=>nodeE p.2:=by
 induction l with
 | nil=>rfl
 | cons p l ih=>show nodeE p.2::_=nodeE p.2::_;rw [ih]
theorem names_appF(l:List (Bytes×Vanbka.Expr)):namesF (appF l .nil)=l.map fun p=>Leaf.bytes p.1:=by
 induction l with
 | nil=>rfl
 | cons p l ih=>show Leaf.bytes p.1::_=Leaf.bytes p.1::_;rw [ih]
def fmore(g:Nat)(r:Toks):Except Nat (Fields×Toks):=if next (isSign ",") r then fields g (r.drop 1) else .ok (.nil,r)
theorem fields_step(g:Nat)(ts:Toks):fields (g + 1) ts=Vanbka.name ts >>= fun p=>eat (isSign ":") p.2 >>= fun r=>Vanbka.expr g r >>= fun q=>fmore g q.2 >>= fun u=>pure (.cons p.1 q.1 u.1,u.2):=by
 rw [fields]
 cases Vanbka.name ts with
 | error l=>rfl
 | ok p =>
  show (eat (isSign ":") p.2 >>= _)=(eat (isSign ":") p.2 >>= _)
  cases eat (isSign ":") p.2 with
  | error l=>rfl
  | ok r =>
   show (Vanbka.expr g r >>= _)=(Vanbka.expr g r >>= _)
   cases Vanbka.expr g r with
   | error l=>rfl
   | ok q =>
    show (if next (isSign ",") q.2=true then _ else _)=(fmore g q.2 >>= _)
    unfold fmore
    split
    ·rename_i hc
     cases fields g (q.2.drop 1) <;> rfl
    ·rfl
def recR(n:Nat)(rs:Toks):Except Nat (Vanbka.Expr×Toks):=fields n rs >>= fun p=>eat (isSign ")") p.2 >>= fun r=>pure (.record p.1,r)
section
variable{P:Program}{w:World}{K:PySem.W.Frag}{mg:Str→Option Value}{base:Heap}{D:Ad}{N:Nat}
theorem scRecord:FnScope ["reader", "names", "parts"] ["reader"] (defScope sReadRecord):=⟨rfl,rfl,rfl,by decide +kernel,rfl,by decide +kernel,by decide +kernel⟩
theorem ok_record(Kn:Known K mg "read_record" ["reader"] sReadRecord)(B:Base P w K mg base D)(I:Reads P w K mg base D N)(h:Nat) :
  Has P w K mg base (room h 22) "read_record" ["reader"] (spR D 1 (N + 1) h [] Any recR (repE D)):=by
 refine has_of (r:=21) Kn scRecord (fun _ _ _ _ q=>q.len) (fun _ _ _ _ q=>q.le) fun hh f cdv A outer s H vs Q E hr q=>?_
 obtain ⟨X,rd,rs,n,hn,rfl,pre,_,out⟩:=q
 obtain ⟨R,dp,_,fu,sz⟩:=pre
 have cl:=B.rd.c.cl
 have nd:=scRecord.nd
 have r3:Room 3 _:=hr.mono (by omega)
 have GE:=I.expr h
 refine ⟨_,(pss_cons (ps_set (i:=1) nd rfl (Or.inl rfl) (pe_lst (pa_cons (pe_hasM B.take cl r3 (pv 0) (pa_cons pe_str pa_nil)) pa_nil)))
   (pss_cons (ps_expr (pe_hasM B.take cl r3 (pv 0) (pa_cons pe_str pa_nil)))
   (pss_cons (ps_set (i:=2) nd rfl (Or.inl rfl) (pe_lst (pa_cons (pe_has GE hr rfl (pa_cons (pv 0) pa_nil) (rm_same hh (by decide))) pa_nil)))
   (pss_cons (ps_while ownF (pt_cmpR op_eq (pe_hasM0 B.look cl r3 (pv 0)) pe_str (nomark _)) (pss_cons (ps_expr (pe_hasM B.take cl r3 (pv 0) (pa_cons pe_str pa_nil)))
   (pss_cons (ps_expr (pe_bm PySem.F.plainAttrs_list PySem.F.slot_list_append PySem.F.type_list_append mt_append (pv 1) (pa_cons (pe_hasM B.take cl r3 (pv 0) (pa_cons pe_str pa_nil)) pa_nil)))
   (pss_cons (ps_expr (pe_hasM B.take cl r3 (pv 0) (pa_cons pe_str pa_nil)))
   (pss_one (ps_expr (pe_bm PySem.F.plainAttrs_list PySem.F.slot_list_append PySem.F.type_list_append mt_append (pv 2) (pa_cons (pe_has GE hr rfl (pa_cons (pv 0) pa_nil) (rm_same hh (by decide))) pa_nil))))))))
   (pss_cons (ps_expr (pe_hasM B.take cl r3 (pv 0) (pa_cons pe_str pa_nil)))
   (pss_one (ps_ret (pe_tree B r3 rfl (pa_cons pe_str (pa_cons (pv 1) (pa_cons (pv 2) (pa_cons (pe_lst pa_nil) pa_nil)))))))))))),?_⟩
 cases n with
 | zero=>omega
 | succ n =>
  have out:Out D X rd H Q E (repE D) (Vanbka.name rs >>= fun p=>eat (isSign ":") p.2 >>= fun r=>Vanbka.expr n r >>= fun q=>fmore n q.2 >>= fun u=>eat (isSign ")") u.2 >>= fun r=>pure (.record (.cons p.1 q.1 u.1),r)):=by
   have out:Out D X rd H Q E (repE D) (fields (n + 1) rs >>= fun p=>eat (isSign ")") p.2 >>= fun r=>pure (.record p.1,r)):=out
   rw [fields_step] at out
   cases h1:Vanbka.name rs with
   | error l=>rw [h1] at out;exact out
   | ok p =>
    rw [h1] at out
    have out:Out D X rd H Q E (repE D) ((eat (isSign ":") p.2 >>= fun r=>Vanbka.expr n r >>= fun q=>fmore n q.2 >>= fun u=>pure (.cons p.1 q.1 u.1,u.2)) >>= fun p=>eat (isSign ")") p.2 >>= fun r=>pure (.record p.1,r)):=out
    show Out D X rd H Q E (repE D) (eat (isSign ":") p.2 >>= _)
    cases h2:eat (isSign ":") p.2 with
    | error l=>rw [h2] at out;exact out
    | ok r =>
     rw [h2] at out
     have out:Out D X rd H Q E (repE D) ((Vanbka.expr n r >>= fun q=>fmore n q.2 >>= fun u=>pure (.cons p.1 q.1 u.1,u.2)) >>= fun p=>eat (isSign ")") p.2 >>= fun r=>pure (.record p.1,r)):=out
     show Out D X rd H Q E (repE D) (Vanbka.expr n r >>= _)
     cases h3:Vanbka.expr n r with
     | error l=>rw [h3] at out;exact out
     | ok q =>
      rw [h3] at out
      have out:Out D X rd H Q E (repE D) ((fmore n q.2 >>= fun u=>pure (.cons p.1 q.1 u.1,u.2)) >>= fun p=>eat (isSign ")") p.2 >>= fun r=>pure (.record p.1,r)):=out
      show Out D X rd H Q E (repE D) (fmore n q.2 >>= _)
      cases h4:fmore n q.2 with
      | error l=>rw [h4] at out;exact out
      | ok u=>rw [h4] at out;exact out
  refine m_name R (out_tok out fun x r he out v H1 b1 R1 lf=>?_)
  have hal:=R.len
  have C1:=con_of Cell.res_name he
  have lC1:=C1.len
  refine ⟨(by show 1≤2 ^ 24;decide),fun la ma=>?_⟩
  have maT:=gone_T R1.st ma
  have mar:=R1.ne ma
  have maH:=gr_of b1 R1 la ma
  have R2:RDa D X rd (upd H1 la (.lst [v])) r:=R1.same (same_new ma _)
  have b2:But rd H (upd H1 la (.lst [v])):=b1.then (same_new ma _)
  refine m_eat R2 (nxColon R2.wfr) (out_eat out fun r3 he3 out _ H3 b3 R3=>?_)
  have C3:=con_ofE Cell.res_eatS he3
  have lC3:=C3.len
  have b03:=b2.trans b3
  refine ⟨_,rfl,X,rd,r3,n,by omega,rfl,⟨R3,dp0 C3 (dp0 C1 dp),hh,by omega,sz⟩,trivial,out_call out fun e r4 he4 out v4 H4 b4 R4 n4=>?_⟩
  have C4:=con_of ((Cell.fine n).expr r3) he4
  have lC4:=C4.len
  refine ⟨(by show 1≤2 ^ 24;decide),fun lb mb=>?_⟩
  have b04:=b03.trans b4
  have mbT:=gone_T R4.st mb
  have mbr:=R4.ne mb
  have mbH:=gr_of b04 R4 lb mb
  have hla3:H3 la=some (.lst [v]):=b3 _ _ upd_same mar
  have hla4:H4 la=some (.lst [v]):=b4 _ _ hla3 mar
  have lab:la≠lb:=fun z=>by rw [z,mb] at hla4;cases hla4
  have Rb:RDa D X rd (upd (upd H la (.lst [])) lb (.lst [])) rs:=(R.updn maT mar).updn mbT mbr
  refine ⟨fun m σ H'=>∃ (g:Nat) (r:Toks) (done:List (Bytes×Vanbka.Expr)) (us vs:List V),σ=[some (.ref rd),some (.ref la),some (.ref lb)]∧But rd H H'∧RDa D X rd H' r∧tooDeepAt (h:Int) r=none∧16 * r.length + 1≤g∧g≤N∧m=r.length∧H' la=some (.lst us)∧H' lb=some (.lst vs)∧Paired (LeafAt X.T) (done.map fun p=>Leaf.bytes p.1) us∧NodesAt D.CN (Cut X.T (upd (upd H la (.lst [])) lb (.lst [])) H') (done.map fun p=>nodeE p.2) vs∧us.length + r.length≤X.all.length∧vs.length + r.length≤X.all.length∧
     Out D X rd H Q E (repE D) (fmore g r >>= fun p=>eat (isSign ")") p.2 >>= fun r=>pure (.record (appF done p.1),r)),
   ⟨_,n,r4,[(x,e)],[v],[v4],rfl,b04.updn mbH,R4.updn mbT mbr,dp0 C4 (dp0 C3 (dp0 C1 dp)),by omega,by omega,rfl,by rw [upd_ne lab];exact hla4,upd_same,.cons lf .nil,nodes1 (NodeAt.same ?_ _ _ n4),by rw [List.length_singleton];omega,by rw [List.length_singleton];omega,out⟩,?_⟩
  ·refine cut_grow2 fun b o z1 z2=>?_
   have n1:b≠la:=fun y=>by rw [y,hla3] at z1;cases z1
   have n2:b≠lb:=fun y=>by rw [y,mb] at z2;cases z2
   exact ⟨by rw [upd_ne n2,upd_ne n1];exact gr_of b03 R3 b z1,by rw [upd_ne n2];exact z2⟩
  clear out n4 R4 b4 C4 lC4 he4 lC3 C3 he3 lC1 C1 he b3 R3 hla4 hla3 b04 b03 mb
  rintro m σ H' ⟨g,r,done,us,vs,rfl,bt,R',dp',fg,gN,rfl,hla,hlb,hU,hN,su,sv,out⟩
  unfold fmore at out
  refine m_look R' ⟨rfl,_,rfl,ite2 (fun c=>?_) (fun c=>?_)⟩
  ·have c:=seqT c
   obtain ⟨t,r',e1,e2,_⟩:=head_cons c (by decide)
   have len1:r.length=r'.length + 1:=by rw [e1];rfl
   have C1:Cell.Con r (r.drop 1) 0 1:=Cell.con_sign (s := ",") (by rw [nxComma R'.wfr];exact decide_eq_true c)
   rw [nxComma R'.wfr,decide_eq_true c,if_pos rfl,e2] at out
   rw [e2] at C1
   cases g with
   | zero=>omega
   | succ g =>
    have out:Out D X rd H Q E (repE D) (Vanbka.name r' >>= fun p=>eat (isSign ":") p.2 >>= fun r=>Vanbka.expr g r >>= fun q=>fmore g q.2 >>= fun u=>eat (isSign ")") u.2 >>= fun r=>pure (.record (appF (done ++ [(p.1,q.1)]) u.1),r)):=by
     rw [fields_step] at out
     cases h1:Vanbka.name r' with
     | error l=>rw [h1] at out;exact out
     | ok p =>
      rw [h1] at out
      have out:Out D X rd H Q E (repE D) ((eat (isSign ":") p.2 >>= fun r=>Vanbka.expr g r >>= fun q=>fmore g q.2 >>= fun u=>pure (.cons p.1 q.1 u.1,u.2)) >>= fun p=>eat (isSign ")") p.2 >>= fun r=>pure (.record (appF done p.1),r)):=out
      show Out D X rd H Q E (repE D) (eat (isSign ":") p.2 >>= _)
      cases h2:eat (isSign ":") p.2 with
      | error l=>rw [h2] at out;exact out
      | ok r =>
       rw [h2] at out
       have out:Out D X rd H Q E (repE D) ((Vanbka.expr g r >>= fun q=>fmore g q.2 >>= fun u=>pure (.cons p.1 q.1 u.1,u.2)) >>= fun p=>eat (isSign ")") p.2 >>= fun r=>pure (.record (appF done p.1),r)):=out
       show Out D X rd H Q E (repE D) (Vanbka.expr g r >>= _)
       cases h3:Vanbka.expr g r with
       | error l=>rw [h3] at out;exact out
       | ok q =>
        rw [h3] at out
        have out:Out D X rd H Q E (repE D) ((fmore g q.2 >>= fun u=>pure (.cons p.1 q.1 u.1,u.2)) >>= fun p=>eat (isSign ")") p.2 >>= fun r=>pure (.record (appF done p.1),r)):=out
        show Out D X rd H Q E (repE D) (fmore g q.2 >>= _)
        cases h4:fmore g q.2 with
        | error l=>rw [h4] at out;exact out
        | ok u =>
         rw [h4] at out
         show Out D X rd H Q E (repE D) (eat (isSign ")") u.2 >>= fun r=>pure (.record (appF (done ++ [(p.1,q.1)]) u.1),r))
         rw [appF_snoc]
         exact out
    refine ⟨fun σ H'=>∃ m,m < r.length∧∃ (g:Nat) (r:Toks) (done:List (Bytes×Vanbka.Expr)) (us vs:List V),σ=[some (.ref rd),some (.ref la),some (.ref lb)]∧But rd H H'∧RDa D X rd H' r∧tooDeepAt (h:Int) r=none∧16 * r.length + 1≤g∧g≤N∧m=r.length∧H' la=some (.lst us)∧H' lb=some (.lst vs)∧Paired (LeafAt X.T) (done.map fun p=>Leaf.bytes p.1) us∧NodesAt D.CN (Cut X.T (upd (upd H la (.lst [])) lb (.lst [])) H') (done.map fun p=>nodeE p.2) vs∧us.length + r.length≤X.all.length∧vs.length + r.length≤X.all.length∧
     Out D X rd H Q E (repE D) (fmore g r >>= fun p=>eat (isSign ")") p.2 >>= fun r=>pure (.record (appF done p.1),r)),fun _ _ z=>z,?_⟩
    refine m_takeK R' c fun _ H2 b2 R2 _=>?_
    rw [e2] at R2
    have hla2:H2 la=some (.lst us):=b2 _ _ hla mar
    have hlb2:H2 lb=some (.lst vs):=b2 _ _ hlb mbr
    refine ⟨_,rfl,.inl ⟨rfl,_,SqL.of hla2⟩,?_⟩
    refine m_name R2 (out_tok out fun y r3 he3 out u H3 b3 R3 lf3=>?_)
    have C3:=con_of Cell.res_name he3
    have lC3:=C3.len
    have hla3:H3 la=some (.lst us):=b3 _ _ hla2 mar
    have hlb3:H3 lb=some (.lst vs):=b3 _ _ hlb2 mbr
    refine ⟨la,_,_,rfl,rfl,hla3,(by show us.length < 2 ^ 24;omega),?_⟩
    have R3':RDa D X rd (upd H3 la (.lst (us ++ [u]))) r3:=R3.updn maT mar
    have b03:But rd H (upd H3 la (.lst (us ++ [u]))):=((bt.trans b2).trans b3).updn maH
    have hlb3':(upd H3 la (.lst (us ++ [u]))) lb=some (.lst vs):=by rw [upd_ne (Ne.symm lab)];exact hlb3
    refine m_eat R3' (nxColon R3'.wfr) (out_eat out fun r4 he4 out _ H4 b4 R4=>?_)
    have C4:=con_ofE Cell.res_eatS he4
    have lC4:=C4.len
    have hla4:H4 la=some (.lst (us ++ [u])):=b4 _ _ upd_same mar
    have hlb4:H4 lb=some (.lst vs):=b4 _ _ hlb3' mbr
    have b04:=b03.trans b4
    refine ⟨_,rfl,.inl ⟨rfl,_,SqL.of hlb4⟩,_,rfl,X,rd,r4,g,by omega,rfl,⟨R4,dp0 C4 (dp0 C3 (dp0 C1 dp')),hh,by omega,sz⟩,trivial,out_call out fun e5 r5 he5 out v5 H5 b5 R5 n5=>?_⟩
    have C5:=con_of ((Cell.fine g).expr r4) he5
    have lC5:=C5.len
    have hla5:H5 la=some (.lst (us ++ [u])):=b5 _ _ hla4 mar
    have hlb5:H5 lb=some (.lst vs):=b5 _ _ hlb4 mbr
    have dpx:tooDeepAt (h:Int) r5=none:=dp0 C5 (dp0 C4 (dp0 C3 (dp0 C1 dp')))
    refine ⟨lb,_,_,rfl,rfl,hlb5,(by show vs.length < 2 ^ 24;omega),r5.length,by omega,g,r5,done ++ [(y,e5)],us ++ [u],vs ++ [v5],rfl,(b04.trans b5).updn mbH,R5.updn mbT mbr,dpx,by omega,by omega,rfl,by rw [upd_ne lab];exact hla5,upd_same,?_,?_,?_,?_,out⟩
    ·rw [List.map_append];exact Paired.snoc hU lf3
    ·rw [List.map_append]
     refine NodesAt.snoc (NodeAt.same (cut_grow2 fun b o z1 z2=>?_) _ _ n5) _ _ (NodesAt.same (cut_on fun b o z1 z2=>?_) _ _ hN)
     ·have n1:b≠la:=fun y=>by rw [y,hla4] at z1;cases z1
      have n2:b≠lb:=fun y=>by rw [y,hlb4] at z1;cases z1
      exact ⟨by rw [upd_ne n2,upd_ne n1];exact gr_of b04 R4 b z1,by rw [upd_ne n2];exact z2⟩
     ·have n2:b≠lb:=fun y=>by rw [y,upd_same] at z1;cases z1
      have n1:b≠la:=fun y=>by rw [y,upd_ne lab,upd_same] at z1;cases z1
      have n3:b≠rd:=fun y=>by
       obtain ⟨dx,pre,hx,_⟩:=Rb.ob
       rw [y,hx] at z1;cases z1
      rw [upd_ne n2]
      exact b5 _ _ (b4 _ _ (by rw [upd_ne n1];exact b3 _ _ (b2 _ _ z2 n3) n3) n3) n3
    ·rw [List.length_append,List.length_singleton];omega
    ·rw [List.length_append,List.length_singleton];omega
  ·have c:=seqF c
   rw [nxComma R'.wfr,decide_eq_false c,if_neg Bool.false_ne_true] at out
   have out:Out D X rd H Q E (repE D) (eat (isSign ")") r >>= fun r=>pure (.record (appF done .nil),r)):=out
   refine m_eat R' (nxPc R'.wfr) (out_eat out fun r2 he out _ H2 b2 R2=>?_)
   have hla2:H2 la=some (.lst us):=b2 _ _ hla mar
   have hlb2:H2 lb=some (.lst vs):=b2 _ _ hlb mbr
   refine ⟨_,rfl,_,rfl,by decide,fun l3 m3=>?_⟩
   have b02:=bt.trans b2
   have gr:=gr_of b02 R2
   have s1:Same H2 (upd H2 l3 (.lst [])):=same_new m3 _
   have out:Out D X rd H Q E (repE D) (.ok (.record (appF done .nil),r2)):=out
   refine make_node (ls:=namesF (appF done .nil)) (ps:=nodesF (appF done .nil)) (bs:=[]) (fun b z=>gr b (none_of_same s1 z)) (R2.st.trans s1) (cut_new maT maH (s1 _ _ hla2)) (cut_new mbT mbH (s1 _ _ hlb2)) (cut_new (none_of_same R2.st m3) (gr _ m3) upd_same) ⟨by omega,by omega,by decide⟩ ?_ ?_ blocks0 fun z H9 sm nd=>out _ _ (b02.then (s1.trans sm)) (R2.same (s1.trans sm)) nd
   ·rw [names_appF]
    exact Paired.mapP hU fun _ _ z=>LeafAt.same cut_tok z
   ·rw [nodes_appF]
    refine NodesAt.same (cut_grow2 fun b o z1 z2=>?_) _ _ hN
    have n2:b≠lb:=fun y=>by rw [y,upd_same] at z1;cases z1
    have n1:b≠la:=fun y=>by rw [y,upd_ne lab,upd_same] at z1;cases z1
    have n3:b≠rd:=fun y=>by
     obtain ⟨dx,pre,hx,_⟩:=Rb.ob
     rw [y,hx] at z1;cases z1
    refine ⟨?_,s1 _ _ (b2 _ _ z2 n3)⟩
    rw [upd_ne n2,upd_ne n1] at z1
    exact z1
end
end Prg
end
section
set_option maxRecDepth 100000
set_option maxHeartbeats 4000000
namespace Prg
open PySem L2
open Vanbka (Bytes Lex reserved isSign isWord next nameNext wordNext eat b halt_ placeAt tooDeepAt Op Prim Way Exprs Fields Stmts opNext chain line simple reach listed more fields parts inBrackets function block statements statement)
def builtL:List (Str×Nat):=[("len",1),("keys",1),("text",1),("num",1),("roll",1),("cut",3),("with",3)]
theorem simple_other{l:Lex}{p k n:Nat}{r:Toks}(h1:∀ v,l≠.num v)(h2:∀ s,l≠.quoted s):simple (n + 1) (⟨l,p,k⟩::r) =
   if isSign "[" ⟨l,p,k⟩ then (listed n "]" r >>= fun q=>pure (.list q.1,q.2))
   else if isSign "(" ⟨l,p,k⟩ then inBrackets n r
   else if isWord "fn" ⟨l,p,k⟩ then function n r
   else if isWord "yes" ⟨l,p,k⟩ then .ok (.truth true,r)
   else if isWord "no" ⟨l,p,k⟩ then .ok (.truth false,r)
   else if isWord "none" ⟨l,p,k⟩ then .ok (.nothing,r)
   else match nameNext (⟨l,p,k⟩::r) with
    | some x=>.ok (.name x,r)
    | none=>match (wordNext (⟨l,p,k⟩::r)).bind Vanbka.primOf with
     | some q=>eat (isSign "(") r >>= fun r=>parts n q.2 r >>= fun u=>pure (.prim q.1 u.1,u.2)
     | none=>halt_ (⟨l,p,k⟩::r):=by
 cases l with
 | num v=>exact absurd rfl (h1 v)
 | quoted s=>exact absurd rfl (h2 s)
 | word x =>
  rw [simple]
  ·cases (wordNext (⟨.word x,p,k⟩::r)).bind Vanbka.primOf <;> rfl
  ·intro _ _ _ z;cases z
  ·intro _ _ _ z;cases z
 | sign x =>
  rw [simple]
  ·cases (wordNext (⟨.sign x,p,k⟩::r)).bind Vanbka.primOf <;> rfl
  ·intro _ _ _ z;cases z
  ·intro _ _ _ z;cases z
def primL:Lex→Option (Prim×Nat)
 | .word w=>if reserved.contains w then Vanbka.primOf w else none
 | _=>none
def primFits(z:Str):Option (Prim×Nat)→Bool
 | some (p,k)=>decide (builtL.lookup z=some k) && decide (z=primK p) && decide (1≤k) && decide (k≤3)
 | none=>decide (builtL.lookup z=none)
theorem prim_fixed:∀ l∈fixedL,primFits (kindS l) (primL l)=true:=by decide +kernel
inductive Simple(n:Nat)(t:Vanbka.Tok)(r:Toks):Except Nat (Vanbka.Expr×Toks)→Prop
 | num (v:Nat) (e:t.lex = .num v) (k:kindS t.lex = "NUMBER"):Simple n t r (.ok (.num v,r))
 | quo (x:Bytes) (e:t.lex = .quoted x) (k:kindS t.lex = "QUOTED"):Simple n t r (.ok (.quoted x,r))
 | name (x:Bytes) (e:t.lex = .word x) (u:reserved.contains x=false) (k:kindS t.lex = "NAME"):Simple n t r (.ok (.name x,r))
 | yes (k:kindS t.lex = "yes"):Simple n t r (.ok (.truth true,r))
 | no (k:kindS t.lex = "no"):Simple n t r (.ok (.truth false,r))
 | none (k:kindS t.lex = "none"):Simple n t r (.ok (.nothing,r))
 | list (k:kindS t.lex = "["):Simple n t r (listed n "]" r >>= fun q=>pure (.list q.1,q.2))
 | brack (k:kindS t.lex = "("):Simple n t r (inBrackets n r)
 | fn (k:kindS t.lex = "fn"):Simple n t r (function n r)
 | prim (p:Prim) (m:Nat) (k:kindS t.lex=primK p) (b:builtL.lookup (kindS t.lex)=some m) (l1:1≤m) (l3:m≤3):Simple n t r (eat (isSign "(") r >>= fun r=>parts n m r >>= fun u=>pure (.prim p u.1,u.2))
 | bad (k:¬ kindS t.lex∈(["NUMBER", "QUOTED", "NAME", "yes", "no", "none", "[", "(", "fn"]:List Str)) (b:builtL.lookup (kindS t.lex)=none):Simple n t r (halt_ (t::r))
theorem simple_is{n:Nat}{t:Vanbka.Tok}{r:Toks}(w:WfL (t::r)):Simple n t r (simple (n + 1) (t::r)):=by
 obtain ⟨l,p,k⟩:=t
 have wl:Wf l:=w _ (.head _)
 have i1:isSign "[" ⟨l,p,k⟩=decide (kindS l = "["):=nxBo w
 have i2:isSign "(" ⟨l,p,k⟩=decide (kindS l = "("):=nxPo w
 have i3:isWord "fn" ⟨l,p,k⟩=decide (kindS l = "fn"):=nw_fn w
 have i4:isWord "yes" ⟨l,p,k⟩=decide (kindS l = "yes"):=nw_yes w
 have i5:isWord "no" ⟨l,p,k⟩=decide (kindS l = "no"):=nw_no w
 have i6:isWord "none" ⟨l,p,k⟩=decide (kindS l = "none"):=nw_none w
 rcases wf_cases wl with hf | ⟨x,rfl,u⟩ | ⟨v,rfl⟩ | ⟨x,rfl⟩
 ·have nn:=fixed_kind l hf
  have h1:∀ v,l≠.num v:=fun v z=>nn.2.1 (by rw [z];rfl)
  have h2:∀ x,l≠.quoted x:=fun x z=>nn.2.2.1 (by rw [z];rfl)
  rw [simple_other h1 h2,i1,i2,i3,i4,i5,i6]
  by_cases c1:kindS l = "["
  ·rw [decide_eq_true c1,if_pos rfl];exact .list c1
  rw [decide_eq_false c1,if_neg Bool.false_ne_true]
  by_cases c2:kindS l = "("
  ·rw [decide_eq_true c2,if_pos rfl];exact .brack c2
  rw [decide_eq_false c2,if_neg Bool.false_ne_true]
  by_cases c3:kindS l = "fn"
  ·rw [decide_eq_true c3,if_pos rfl];exact .fn c3
  rw [decide_eq_false c3,if_neg Bool.false_ne_true]
  by_cases c4:kindS l = "yes"
  ·rw [decide_eq_true c4,if_pos rfl];exact .yes c4
  rw [decide_eq_false c4,if_neg Bool.false_ne_true]
  by_cases c5:kindS l = "no"
  ·rw [decide_eq_true c5,if_pos rfl];exact .no c5
  rw [decide_eq_false c5,if_neg Bool.false_ne_true]
  by_cases c6:kindS l = "none"
  ·rw [decide_eq_true c6,if_pos rfl];exact .none c6
  rw [decide_eq_false c6,if_neg Bool.false_ne_true]
  have e1:nameNext (⟨l,p,k⟩::r)=none:=by
   cases l with
   | word x =>
    show (if reserved.contains x then none else some x)=none
    cases hx:reserved.contains x with
    | true=>rfl
    | false=>exact absurd (kind_name hx) nn.1
   | _=>rfl
  have e2:(wordNext (⟨l,p,k⟩::r)).bind Vanbka.primOf=primL l:=by
   cases l with
   | word x =>
    show (if reserved.contains x then some x else none).bind Vanbka.primOf=if reserved.contains x then Vanbka.primOf x else none
    cases reserved.contains x <;> rfl
   | _=>rfl
  rw [e1,e2]
  have fits:=prim_fixed l hf
  cases hp:primL l with
  | none =>
   rw [hp] at fits
   refine .bad (fun z=>?_) (of_decide_eq_true fits)
   simp only [List.mem_cons,List.not_mem_nil,or_false] at z
   rcases z with z | z | z | z | z | z | z | z | z
   ·exact nn.2.1 z
   ·exact nn.2.2.1 z
   ·exact nn.1 z
   ·exact c4 z
   ·exact c5 z
   ·exact c6 z
   ·exact c1 z
   ·exact c2 z
   ·exact c3 z
  | some q =>
   obtain ⟨pr,m⟩:=q
   rw [hp] at fits
   have fits:(((decide (builtL.lookup (kindS l)=some m) && decide (kindS l=primK pr)) && decide (1≤m)) && decide (m≤3))=true:=fits
   simp only [Bool.and_eq_true,decide_eq_true_eq] at fits
   exact .prim pr m fits.1.1.2 fits.1.1.1 fits.1.2 fits.2
 ·have kn:=kind_name u
  rw [simple_other (fun _ z=>by cases z) (fun _ z=>by cases z),i1,i2,i3,i4,i5,i6,kn]
  have e1:nameNext (⟨.word x,p,k⟩::r)=some x:=by
   show (if reserved.contains x then none else some x)=some x
   rw [u];rfl
  rw [e1]
  exact .name x rfl u kn
 ·exact .num v rfl rfl
 ·exact .quo x rfl rfl
theorem simple_brack{n:Nat}{t:Vanbka.Tok}{r:Toks}(w:WfL (t::r))(hk:kindS t.lex = "("):simple (n + 1) (t::r)=inBrackets n r:=by
 have si:=simple_is (n:=n) w
 generalize simple (n + 1) (t::r)=res at si
 cases si with
 | num v e k=>rw [hk] at k;exact absurd k (by decide)
 | quo x e k=>rw [hk] at k;exact absurd k (by decide)
 | name x e u k=>rw [hk] at k;exact absurd k (by decide)
 | yes k=>rw [hk] at k;exact absurd k (by decide)
 | no k=>rw [hk] at k;exact absurd k (by decide)
 | none k=>rw [hk] at k;exact absurd k (by decide)
 | list k=>rw [hk] at k;exact absurd k (by decide)
 | brack k=>rfl
 | fn k=>rw [hk] at k;exact absurd k (by decide)
 | prim p m k b l1 l3 =>
  rw [hk] at b
  have b:(none:Option Nat)=some m:=b
  cases b
 | bad k b=>exact absurd (by rw [hk];decide) k
theorem simple_list{n:Nat}{t:Vanbka.Tok}{r:Toks}(w:WfL (t::r))(hk:kindS t.lex = "["):simple (n + 1) (t::r)=(listed n "]" r >>= fun q=>pure (.list q.1,q.2)):=by
 have si:=simple_is (n:=n) w
 generalize simple (n + 1) (t::r)=res at si
 cases si with
 | num v e k=>rw [hk] at k;exact absurd k (by decide)
 | quo x e k=>rw [hk] at k;exact absurd k (by decide)
 | name x e u k=>rw [hk] at k;exact absurd k (by decide)
 | yes k=>rw [hk] at k;exact absurd k (by decide)
 | no k=>rw [hk] at k;exact absurd k (by decide)
 | none k=>rw [hk] at k;exact absurd k (by decide)
 | list k=>rfl
 | brack k=>rw [hk] at k;exact absurd k (by decide)
 | fn k=>rw [hk] at k;exact absurd k (by decide)
 | prim p m k b l1 l3 =>
  rw [hk] at b
  have b:(none:Option Nat)=some m:=b
  cases b
 | bad k b=>exact absurd (by rw [hk];decide) k
theorem simple_fn{n:Nat}{t:Vanbka.Tok}{r:Toks}(w:WfL (t::r))(hk:kindS t.lex = "fn"):simple (n + 1) (t::r)=function n r:=by
 have si:=simple_is (n:=n) w
 generalize simple (n + 1) (t::r)=res at si
 cases si with
 | num v e k=>rw [hk] at k;exact absurd k (by decide)
 | quo x e k=>rw [hk] at k;exact absurd k (by decide)
 | name x e u k=>rw [hk] at k;exact absurd k (by decide)
 | yes k=>rw [hk] at k;exact absurd k (by decide)
 | no k=>rw [hk] at k;exact absurd k (by decide)
 | none k=>rw [hk] at k;exact absurd k (by decide)
 | list k=>rw [hk] at k;exact absurd k (by decide)
 | brack k=>rw [hk] at k;exact absurd k (by decide)
 | fn k=>rfl
 | prim p m k b l1 l3 =>
  rw [hk] at b
  have b:(none:Option Nat)=some m:=b
  cases b
 | bad k b=>exact absurd (by rw [hk];decide) k
theorem simple_prim{n m:Nat}{t:Vanbka.Tok}{r:Toks}(w:WfL (t::r))(hb:builtL.lookup (kindS t.lex)=some m):∃ p,kindS t.lex=primK p∧1≤m∧m≤3∧simple (n + 1) (t::r)=(eat (isSign "(") r >>= fun r=>parts n m r >>= fun u=>pure (.prim p u.1,u.2)):=by
 have si:=simple_is (n:=n) w
 generalize simple (n + 1) (t::r)=res at si
 cases si with
 | num v e k =>
  rw [k] at hb
  have hb:(none:Option Nat)=some m:=hb
  cases hb
 | quo x e k =>
  rw [k] at hb
  have hb:(none:Option Nat)=some m:=hb
  cases hb
 | name x e u k =>
  rw [k] at hb
  have hb:(none:Option Nat)=some m:=hb
  cases hb
 | yes k =>
  rw [k] at hb
  have hb:(none:Option Nat)=some m:=hb
  cases hb
 | no k =>
  rw [k] at hb
  have hb:(none:Option Nat)=some m:=hb
  cases hb
 | none k =>
  rw [k] at hb
  have hb:(none:Option Nat)=some m:=hb
  cases hb
 | list k =>
  rw [k] at hb
  have hb:(none:Option Nat)=some m:=hb
  cases hb
 | brack k =>
  rw [k] at hb
  have hb:(none:Option Nat)=some m:=hb
  cases hb
 | fn k =>
  rw [k] at hb
  have hb:(none:Option Nat)=some m:=hb
  cases hb
 | prim p m' k b l1 l3 =>
  rw [hb] at b
  cases b
  exact ⟨p,k,l1,l3,rfl⟩
 | bad k b=>rw [hb] at b;cases b
section
variable{P:Program}{w:World}{K:PySem.W.Frag}{mg:Str→Option Value}{base:Heap}{D:Ad}{N:Nat}
theorem m_behind{CT CR:Addr}{E:XK}{i:Nat}{σ:St}{H:Hp}{Q:VK}{X:Tx}{rd:Addr}{t:Vanbka.Tok}{r:Toks}(R:RD CT CR X rd H (t::r))(h:Q (.str (headK r)) H)(hi:σ[i]? = some (some (.ref rd)):=by rfl):tMeth CR "look_behind" (spBehind CT CR) [] E (tVar i) tNil σ H Q :=
 rd_meth hi R ⟨X,rd,t,r,rfl,R,h⟩
theorem name_next{rs:Toks}(w:WfL rs):(nameNext rs).isSome=decide (headK rs = "NAME"):=by
 cases rs with
 | nil=>rfl
 | cons t r =>
  obtain ⟨l,p,k⟩:=t
  have wl:Wf l:=w _ (.head _)
  by_cases c:kindS l = "NAME"
  ·obtain ⟨x,rfl,hx⟩:=(kind_isName wl).mp c
   rw [show decide (headK (⟨Lex.word x,p,k⟩::r) = "NAME")=true from decide_eq_true c]
   show (if reserved.contains x then none else some x).isSome=true
   rw [hx];rfl
  ·rw [show decide (headK (⟨l,p,k⟩::r) = "NAME")=false from decide_eq_false c]
   cases l with
   | word x =>
    show (if reserved.contains x then none else some x).isSome=false
    cases hx:reserved.contains x with
    | true=>rfl
    | false=>exact absurd (kind_name hx) c
   | _=>rfl
theorem out_lift{X:Tx}{rd:Addr}{H H1:Hp}{Q:VK}{E:XK}{rs:Toks}{res:Except Nat (Vanbka.Expr×Toks)}(b1:But rd H H1)(R1:RDa D X rd H1 rs)(out:Out D X rd H Q E (repE D) res):Out D X rd H1 Q E (repE D) res:=by
 cases res with
 | error l=>exact out
 | ok p=>exact fun v H2 b2 R2 n=>out v H2 (b1.trans b2) R2 (NodeAt.same (cut_part b1 R1) _ _ n)
theorem scBrack:FnScope ["reader", "tree"] ["reader"] (defScope sReadBracketed):=⟨rfl,rfl,rfl,by decide +kernel,rfl,by decide +kernel,by decide +kernel⟩
theorem ok_brack(Kn:Known K mg "read_bracketed" ["reader"] sReadBracketed)(B:Base P w K mg base D)(I:Reads P w K mg base D N)(GR:∀ h,Has P w K mg base (room h 22) "read_record" ["reader"] (spR D 1 (N + 1) h [] Any recR (repE D)))(h:Nat) :
  Has P w K mg base (room h 9) "read_bracketed" ["reader"] (spR D 1 (N + 1) h [] (fun rs=>headK rs = "(") simple (repE D)):=by
 refine has_of (r:=8) Kn scBrack (fun _ _ _ _ q=>q.len) (fun _ _ _ _ q=>q.le) fun hh f cdv A outer s H vs Q E hr q=>?_
 obtain ⟨X,rd,rs,n,hn,rfl,pre,c0,out⟩:=q
 obtain ⟨R,dp,_,fu,sz⟩:=pre
 have cl:=B.rd.c.cl
 have nd:=scBrack.nd
 have r3:Room 3 _:=hr.mono (by omega)
 have GR:=GR (h + 1)
 have GE:=I.expr (h + 1)
 refine ⟨_,(pss_cons (ps_expr (pe_hasM B.take cl r3 (pv 0) (pa_cons pe_str pa_nil)))
   (pss_cons (ps_if (pt_cmpR op_eq (pe_hasM0 B.look cl r3 (pv 0)) pe_str (nomark _)) (pss_cons (ps_expr (pe_hasM B.take cl r3 (pv 0) (pa_cons pe_str pa_nil)))
   (pss_cons (ps_expr (pe_hasM B.take cl r3 (pv 0) (pa_cons pe_str pa_nil)))
   (pss_one (ps_ret (pe_tree B r3 rfl (pa_cons pe_str (pa_cons (pe_lst pa_nil) (pa_cons (pe_lst pa_nil) (pa_cons (pe_lst pa_nil) pa_nil))))))))) pss_nil)
   (pss_cons (ps_if (PW.pt (pw_and (pt_cmpR op_eq (pe_hasM0 B.look cl r3 (pv 0)) pe_str (nomark _)) (pw_and1 (pt_cmpR op_eq (pe_hasM0 B.behind cl r3 (pv 0)) pe_str (nomark _))))) (pss_one (ps_ret (pe_has GR hr rfl (pa_cons (pv 0) pa_nil) (rm_up hh (by decide))))) pss_nil)
   (pss_cons (ps_set (i:=1) nd rfl (Or.inl rfl) (pe_has GE hr rfl (pa_cons (pv 0) pa_nil) (rm_up hh (by decide))))
   (pss_cons (ps_expr (pe_hasM B.take cl r3 (pv 0) (pa_cons pe_str pa_nil)))
   (pss_one (ps_ret (pv 1)))))))),?_⟩
 have w:=R.wfr
 obtain ⟨t,r,e1,e2,hk⟩:=head_cons c0 (by decide)
 subst e1
 have lr:(t::r).length=r.length + 1:=rfl
 have op:next (isSign "(") (t::r)=true:=by rw [nxPo w];exact decide_eq_true c0
 have C1:Cell.Con (t::r) r 1 1:=Cell.con_sign op
 have h24:h < 24:=by
  have:=Cell.deep_open (t:=t) (r:=r) (open_of op (by decide +kernel)) dp
  omega
 have dp':=dp1 C1 dp
 cases n with
 | zero=>omega
 | succ n =>
  have out:Out D X rd H Q E (repE D) (inBrackets n r):=by
   rw [← simple_brack w hk]
   exact out
  refine m_takeK R c0 fun _ H1 b1 R1 _=>?_
  have R1:RDa D X rd H1 r:=R1
  cases n with
  | zero=>omega
  | succ n =>
   rw [inBrackets,nxColon R1.wfr,name_next R1.wfr] at out
   refine m_look R1 ⟨rfl,_,rfl,ite2 (fun c=>?_) (fun c=>?_)⟩
   ·have c:=seqT c
    rw [decide_eq_true c,if_pos rfl] at out
    refine m_takeK R1 c fun _ H2 b2 R2 _=>?_
    refine m_eat R2 (nxPc R2.wfr) (out_eat out fun r3 he3 out _ H3 b3 R3=>?_)
    have b03:=(b1.trans b2).trans b3
    refine ⟨by decide,fun l1 m1=>⟨by decide,fun l2 m2=>⟨by decide,fun l3 m3=>?_⟩⟩⟩
    exact tree3 (gr_of b03 R3) R3.st m1 m2 m3 ⟨by decide,by decide,by decide⟩ .nil nodes0 blocks0 fun z H9 sm nd=>out _ _ (b03.then sm) (R3.same sm) nd
   have c:=seqF c
   rw [decide_eq_false c,if_neg Bool.false_ne_true] at out
   have fin:(decide (headK r = "NAME") && next (isSign ":") (r.drop 1))=false→tSeq (tAsg (tCall (spR D 11 N (h + 1) [] Any Vanbka.expr (repE D)) [] E (tCons (tVar 0) tNil)) (gName 1)) (tSeq (tDrop (tMeth D.CR "take" (spTake D.CF D.CT D.CR) [] E (tVar 0) (tCons (tC (.str ")")) tNil))) (tRet (tVar 1))) { nx:=fun _ H'=>Q .non H',rt:=Q } [some (.ref rd),none] H1:=by
    intro z
    rw [z,if_neg Bool.false_ne_true] at out
    refine ⟨_,rfl,X,rd,r,n,by omega,rfl,⟨R1,dp',by omega,by omega,sz⟩,trivial,out_call out fun e r2 he out v H2 b2 R2 n2=>?_⟩
    refine m_eat R2 (nxPc R2.wfr) (out_eat out fun r3 he3 out _ H3 b3 R3=>?_)
    exact ⟨_,rfl,out _ _ ((b1.trans b2).trans b3) R3 (NodeAt.same ((cut_part b1 R1).trans (cut_on_but R b3)) _ _ n2)⟩
   refine m_look R1 ⟨rfl,_,rfl,ite2 (fun k1=>?_) (fun k1=>?_)⟩
   ·have k1:=seqT k1
    obtain ⟨t2,r2,e3,e4,_⟩:=head_cons k1 (by decide)
    have R1':=R1
    rw [e3] at R1'
    have wr2:WfL r2:=fun y hy=>R1.wfr y (by rw [e3];exact List.mem_cons_of_mem _ hy)
    refine m_behind R1' ⟨rfl,_,rfl,ite2 (fun k2=>?_) (fun k2=>?_)⟩
    ·have k2:=seqT k2
     have e5:(decide (headK r = "NAME") && next (isSign ":") (r.drop 1))=true:=by rw [e4,nxColon wr2,decide_eq_true k1,decide_eq_true k2];rfl
     rw [e5,if_pos rfl] at out
     exact ⟨_,rfl,X,rd,r,n,by omega,rfl,⟨R1,dp',by omega,by omega,sz⟩,trivial,out_lift b1 R1 out⟩
    ·have k2:=seqF k2
     refine fin ?_
     rw [e4,nxColon wr2,decide_eq_false k2,Bool.and_false]
   ·have k1:=seqF k1
    refine ite2 (fun z=>absurd z (by decide)) (fun _=>fin ?_)
    rw [decide_eq_false k1,Bool.false_and]
end
end Prg
end
section
set_option maxRecDepth 100000
set_option maxHeartbeats 4000000
namespace Prg
open PySem L2
open Vanbka (Bytes Lex reserved isSign isWord next nameNext wordNext eat b halt_ placeAt tooDeepAt Op Prim Way Exprs Fields Stmts opNext chain line simple reach listed more fields parts inBrackets function block statements statement)
abbrev sReadFunction:PySem.Stmt:=top 42
abbrev sReadBuiltIn:PySem.Stmt:=top 43
def pmore(g j:Nat)(r:Toks):Except Nat (Exprs×Toks):=if j=0 then (eat (isSign ")") r >>= fun r=>pure (.nil,r)) else (eat (isSign ",") r >>= fun r=>parts g j r)
theorem parts_step(g k:Nat)(h:1≤k)(ts:Toks):parts (g + 1) k ts=Vanbka.expr g ts >>= fun p=>pmore g (k - 1) p.2 >>= fun u=>pure (.cons p.1 u.1,u.2):=by
 rw [parts]
 cases Vanbka.expr g ts with
 | error l=>rfl
 | ok p =>
  show (if k≤1 then _ else _)=(pmore g (k - 1) p.2 >>= _)
  unfold pmore
  by_cases c:k≤1
  ·rw [if_pos c,if_pos (by omega)]
   cases eat (isSign ")") p.2 <;> rfl
  ·rw [if_neg c,if_neg (by omega)]
   cases eat (isSign ",") p.2 with
   | error l=>rfl
   | ok r =>
    show (parts g (k - 1) r >>= _)=(parts g (k - 1) r >>= _)
    rfl
section
variable{P:Program}{w:World}{K:PySem.W.Frag}{mg:Str→Option Value}{base:Heap}{D:Ad}{N:Nat}
def BuiltAt(w:World)(K:PySem.W.Frag)(mg:Str→Option Value):Prop:=∃ a kvs,mg "BUILT_IN"=some (.ref a)∧KDic w K a kvs∧∀ z:Str,valV kvs (.inr z)=(builtL.lookup z).map fun (m:Nat)=>V.int (m:Int)
theorem scBuilt:FnScope ["reader", "kind", "parts"] ["reader"] (defScope sReadBuiltIn):=⟨rfl,rfl,rfl,by decide +kernel,rfl,by decide +kernel,by decide +kernel⟩
theorem ok_built(Kn:Known K mg "read_built_in" ["reader"] sReadBuiltIn)(B:Base P w K mg base D)(U:BuiltAt w K mg)(I:Reads P w K mg base D N)(h:Nat) :
  Has P w K mg base (room h 9) "read_built_in" ["reader"] (spR D 1 (N + 1) h [] (fun rs=>(builtL.lookup (headK rs)).isSome=true) simple (repE D)):=by
 refine has_of (r:=8) Kn scBuilt (fun _ _ _ _ q=>q.len) (fun _ _ _ _ q=>q.le) fun hh f cdv A outer s H vs Q E hr q=>?_
 obtain ⟨X,rd,rs,n,hn,rfl,pre,c0,out⟩:=q
 obtain ⟨R,dp,_,fu,sz⟩:=pre
 have cl:=B.rd.c.cl
 have nd:=scBuilt.nd
 have r3:Room 3 _:=hr.mono (by omega)
 have GE:=I.expr (h + 1)
 obtain ⟨ua,kvs,mU,dU,vU⟩:=U
 refine ⟨_,(pss_cons (ps_set (i:=1) nd rfl (Or.inl rfl) (pe_hasM0 B.move cl r3 (pv 0)))
   (pss_cons (ps_expr (pe_hasM B.take cl r3 (pv 0) (pa_cons pe_str pa_nil)))
   (pss_cons (ps_set (i:=2) nd rfl (Or.inl rfl) (pe_lst (pa_cons (pe_has GE hr rfl (pa_cons (pv 0) pa_nil) (rm_up hh (by decide))) pa_nil)))
   (pss_cons (ps_while ownF (pt_cmpR op_lt (pe_callB call_len_seq rfl B.ml PySem.boot_len (pa_cons (pv 2) pa_nil)) (pe_dgetK (pe_cr mU rfl) (pv 1) (fun _ _=>rfl)) (nomark _)) (pss_cons (ps_expr (pe_hasM B.take cl r3 (pv 0) (pa_cons pe_str pa_nil)))
   (pss_one (ps_expr (pe_bm PySem.F.plainAttrs_list PySem.F.slot_list_append PySem.F.type_list_append mt_append (pv 2) (pa_cons (pe_has GE hr rfl (pa_cons (pv 0) pa_nil) (rm_up hh (by decide))) pa_nil))))))
   (pss_cons (ps_expr (pe_hasM B.take cl r3 (pv 0) (pa_cons pe_str pa_nil)))
   (pss_one (ps_ret (pe_tree B r3 rfl (pa_cons (pv 1) (pa_cons (pe_lst pa_nil) (pa_cons (pv 2) (pa_cons (pe_lst pa_nil) pa_nil)))))))))))),?_⟩
 have w:=R.wfr
 obtain ⟨k,hb⟩:=Option.isSome_iff_exists.mp c0
 cases rs with
 | nil=>cases hb
 | cons t r =>
 have hb:builtL.lookup (kindS t.lex)=some k:=hb
 have lr:(t::r).length=r.length + 1:=rfl
 cases n with
 | zero=>omega
 | succ n =>
  obtain ⟨p,kp,l1,l3,es⟩:=simple_prim (n:=n) w hb
  have out:Out D X rd H Q E (repE D) (eat (isSign "(") r >>= fun r=>parts n k r >>= fun u=>pure (.prim p u.1,u.2)):=by rw [← es];exact out
  have C0:Cell.Con (t::r) r 0 1:=by
   have:=Cell.Con.one t r
   have z:Cell.bw t=0:=by
    have wf:Wf t.lex:=w t (.head _)
    have:∀ l∈fixedL,(builtL.lookup (kindS l)).isSome=true→Cell.bw { lex:=l,place:=0,len:=0 }=0:=by decide +kernel
    rcases wf_cases wf with hf | ⟨x,e,u⟩ | ⟨v,e⟩ | ⟨x,e⟩
    ·exact this t.lex hf (by rw [hb];rfl)
    ·rw [e,kind_name u] at hb
     have hb:(none:Option Nat)=some k:=hb
     cases hb
    ·rw [e] at hb
     have hb:(none:Option Nat)=some k:=hb
     cases hb
    ·rw [e] at hb
     have hb:(none:Option Nat)=some k:=hb
     cases hb
   rw [z] at this
   exact this
  refine m_move R fun H1 b1 R1=>?_
  refine m_eat R1 (nxPo R1.wfr) (out_eat out fun r2 he2 out _ H2 b2 R2=>?_)
  have op:next (isSign "(") r=true:=by
   unfold eat at he2
   split at he2
   ·assumption
   ·cases he2
  have C2:Cell.Con r r2 1 1:=con_ofE (by rw [← Cell.sw_po];exact Cell.res_eatS) he2
  have lC2:=C2.len
  have h24:h < 24:=by
   obtain ⟨t',r',e',_,_⟩:=Cell.next_cons op
   rw [e'] at op
   have d0:=dp0 C0 dp
   rw [e'] at d0
   have:=Cell.deep_open (open_of op (by decide +kernel)) d0
   omega
  have dp2:=dp1 C2 (dp0 C0 dp)
  have b02:=b1.trans b2
  cases n with
  | zero=>omega
  | succ n =>
   have out:Out D X rd H Q E (repE D) (Vanbka.expr n r2 >>= fun p'=>pmore n (k - 1) p'.2 >>= fun u=>pure (.prim p (.cons p'.1 u.1),u.2)):=by
    rw [parts_step n k l1] at out
    cases h1:Vanbka.expr n r2 with
    | error l=>rw [h1] at out;exact out
    | ok q =>
     rw [h1] at out
     have out:Out D X rd H Q E (repE D) ((pmore n (k - 1) q.2 >>= fun u=>pure (.cons q.1 u.1,u.2)) >>= fun u=>pure (.prim p u.1,u.2)):=out
     show Out D X rd H Q E (repE D) (pmore n (k - 1) q.2 >>= fun u=>pure (.prim p (.cons q.1 u.1),u.2))
     cases h2:pmore n (k - 1) q.2 with
     | error l=>rw [h2] at out;exact out
     | ok u=>rw [h2] at out;exact out
   refine ⟨_,rfl,X,rd,r2,n,by omega,rfl,⟨R2,dp2,by omega,by omega,sz⟩,trivial,out_call out fun e r3 he3 out v H3 b3 R3 n3=>?_⟩
   have C3:=con_of ((Cell.fine n).expr r2) he3
   have lC3:=C3.len
   refine ⟨(by show 1≤2 ^ 24;decide),fun l ml=>?_⟩
   have b03:=b02.trans b3
   have mlT:=gone_T R3.st ml
   have mlr:=R3.ne ml
   have mlH:=gr_of b03 R3 l ml
   have R0:RDa D X rd (upd H l (.lst [])) (t::r):=R.updn mlT mlr
   have hal:=R.len
   have eV:valV kvs (.inr (kindS t.lex))=some (.int (k:Int)):=by rw [vU,hb];rfl
   refine ⟨fun m σ H'=>∃ (g j:Nat) (r:Toks) (done:List Vanbka.Expr) (vs:List V),σ=[some (.ref rd),some (.str (kindS t.lex)),some (.ref l)]∧But rd H H'∧RDa D X rd H' r∧tooDeepAt ((h + 1:Nat):Int) r=none∧16 * r.length + 1≤g∧g≤N∧m=r.length∧H' l=some (.lst vs)∧NodesAt D.CN (Cut X.T (upd H l (.lst [])) H') (done.map nodeE) vs∧vs.length + j=k∧
     Out D X rd H Q E (repE D) (pmore g j r >>= fun u=>pure (.prim p (appE done u.1),u.2)),
    ⟨_,n,k - 1,r3,[e],[v],rfl,b03.updn mlH,R3.updn mlT mlr,dp0 C3 dp2,by omega,by omega,rfl,upd_same,nodes1 (NodeAt.same ?_ _ _ n3),by rw [List.length_singleton];omega,out⟩,?_⟩
   ·refine cut_grow2 fun b o z1 z2=>?_
    have n2:b≠l:=fun y=>by rw [y,ml] at z2;cases z2
    exact ⟨by rw [upd_ne n2];exact gr_of b02 R2 b z1,by rw [upd_ne n2];exact z2⟩
   clear out n3 R3 b3 C3 lC3 he3 b03 ml
   rintro m σ H' ⟨g,j,r,done,vs,rfl,bt,R',dp',fg,gN,rfl,hl,hN,hj,out⟩
   refine ⟨_,rfl,l,vs,rfl,.inl (SqL.of hl),_,rfl,ua,kvs,.inr (kindS t.lex),_,rfl,dU,rfl,eV,_,_,rfl,rfl,_,rfl,ite2 (fun c=>?_) (fun c=>?_)⟩
   ·have c:=of_decide_eq_true c
    have j0:j≠0:=by omega
    unfold pmore at out
    rw [if_neg j0] at out
    refine ⟨fun σ H'=>∃ m,m < r.length∧∃ (g j:Nat) (r:Toks) (done:List Vanbka.Expr) (vs:List V),σ=[some (.ref rd),some (.str (kindS t.lex)),some (.ref l)]∧But rd H H'∧RDa D X rd H' r∧tooDeepAt ((h + 1:Nat):Int) r=none∧16 * r.length + 1≤g∧g≤N∧m=r.length∧H' l=some (.lst vs)∧NodesAt D.CN (Cut X.T (upd H l (.lst [])) H') (done.map nodeE) vs∧vs.length + j=k∧
     Out D X rd H Q E (repE D) (pmore g j r >>= fun u=>pure (.prim p (appE done u.1),u.2)),fun _ _ z=>z,?_⟩
    have out:Out D X rd H Q E (repE D) (eat (isSign ",") r >>= fun r=>parts g j r >>= fun u=>pure (.prim p (appE done u.1),u.2)):=by
     cases h1:eat (isSign ",") r with
     | error l=>rw [h1] at out;exact out
     | ok r'=>rw [h1] at out;exact out
    refine m_eat R' (nxComma R'.wfr) (out_eat out fun r4 he4 out _ H4 b4 R4=>?_)
    have C4:=con_ofE Cell.res_eatS he4
    have lC4:=C4.len
    have b04:=bt.trans b4
    have hl4:H4 l=some (.lst vs):=b4 _ _ hl mlr
    cases g with
    | zero=>omega
    | succ g =>
     have out:Out D X rd H Q E (repE D) (Vanbka.expr g r4 >>= fun p'=>pmore g (j - 1) p'.2 >>= fun u=>pure (.prim p (appE (done ++ [p'.1]) u.1),u.2)):=by
      rw [parts_step g j (by omega)] at out
      cases h1:Vanbka.expr g r4 with
      | error l=>rw [h1] at out;exact out
      | ok q =>
       rw [h1] at out
       have out:Out D X rd H Q E (repE D) ((pmore g (j - 1) q.2 >>= fun u=>pure (.cons q.1 u.1,u.2)) >>= fun u=>pure (.prim p (appE done u.1),u.2)):=out
       show Out D X rd H Q E (repE D) (pmore g (j - 1) q.2 >>= fun u=>pure (.prim p (appE (done ++ [q.1]) u.1),u.2))
       cases h2:pmore g (j - 1) q.2 with
       | error l=>rw [h2] at out;exact out
       | ok u =>
        rw [h2] at out
        show Out D X rd H Q E (repE D) (.ok (.prim p (appE (done ++ [q.1]) u.1),u.2))
        rw [appE_snoc]
        exact out
     refine ⟨_,rfl,.inl ⟨rfl,_,SqL.of hl4⟩,_,rfl,X,rd,r4,g,by omega,rfl,⟨R4,dp0 C4 dp',by omega,by omega,sz⟩,trivial,out_call out fun e5 r5 he5 out v5 H5 b5 R5 n5=>?_⟩
     have C5:=con_of ((Cell.fine g).expr r4) he5
     have lC5:=C5.len
     have hl5:H5 l=some (.lst vs):=b5 _ _ hl4 mlr
     refine ⟨l,_,_,rfl,rfl,hl5,(by show vs.length < 2 ^ 24;omega),r5.length,by omega,g,j - 1,r5,done ++ [e5],vs ++ [v5],rfl,(b04.trans b5).updn mlH,R5.updn mlT mlr,dp0 C5 (dp0 C4 dp'),by omega,by omega,rfl,upd_same,?_,by rw [List.length_append,List.length_singleton];omega,out⟩
     rw [List.map_append]
     exact NodesAt.snoc (NodeAt.same (acc_new b04 R4 hl4) _ _ n5) _ _ (NodesAt.same (acc_old R0 upd_same (b4.trans b5)) _ _ hN)
   ·have c:¬ ((vs.length:Int) < (k:Int)):=fun z=>c (decide_eq_true z)
    have j0:j=0:=by omega
    unfold pmore at out
    rw [if_pos j0] at out
    have out:Out D X rd H Q E (repE D) (eat (isSign ")") r >>= fun r=>pure (.prim p (appE done .nil),r)):=by
     cases h1:eat (isSign ")") r with
     | error l=>rw [h1] at out;exact out
     | ok r'=>rw [h1] at out;exact out
    refine m_eat R' (nxPc R'.wfr) (out_eat out fun r4 he4 out _ H4 b4 R4=>?_)
    have b04:=bt.trans b4
    have hl4:H4 l=some (.lst vs):=b4 _ _ hl mlr
    have gr:=gr_of b04 R4
    refine ⟨_,rfl,by decide,fun la ma=>⟨_,rfl,by decide,fun lb mb=>?_⟩⟩
    have s1:Same H4 (upd H4 la (.lst [])):=same_new ma _
    have s2:Same (upd H4 la (.lst [])) (upd (upd H4 la (.lst [])) lb (.lst [])):=same_new mb _
    refine make_node (ls:=[]) (ps:=nodesE (appE done .nil)) (bs:=[]) (fun b z=>gr b (none_of_same (s1.trans s2) z)) (R4.st.trans (s1.trans s2)) (cut_new (none_of_same R4.st ma) (gr _ ma) (s2 _ _ upd_same)) (cut_new mlT mlH ((s1.trans s2) _ _ hl4)) (cut_new (none_of_same (R4.st.trans s1) mb) (gr _ (none_of_same s1 mb)) upd_same) ⟨by decide,by omega,by decide⟩ .nil ?_ blocks0 fun z H9 sm nd=>?_
    ·rw [nodes_appE]
     show NodesAt _ _ (done.map nodeE ++ []) vs
     rw [List.append_nil]
     exact NodesAt.same ((cut_on_but R0 b4).trans ((cut_on_same (s1.trans s2)).trans acc_end)) _ _ hN
    ·rw [kp] at nd
     exact out _ _ (b04.then ((s1.trans s2).trans sm)) (R4.same ((s1.trans s2).trans sm)) nd
end
end Prg
end
section
set_option maxRecDepth 100000
set_option maxHeartbeats 4000000
namespace Prg
open PySem L2
open Vanbka (Bytes Lex reserved isSign isWord next nameNext wordNext eat b halt_ placeAt tooDeepAt Op Prim Way Exprs Fields Stmts opNext chain line simple reach listed more fields parts inBrackets function block statements statement)
theorem dpm1{h:Nat}{ts r:Toks}{m:Nat}(c:Cell.Con ts r (-1) m)(q:tooDeepAt ((h + 1:Nat):Int) ts=none):tooDeepAt (h:Int) r=none:=by
 have:=c.deep q
 rwa [show ((h + 1:Nat):Int) + -1=(h:Int) by omega] at this
theorem res_leaves{ts:Toks}:Cell.Res (leavesR Vanbka.name Vanbka.namesMore ts) ts 0 1:=by
 unfold leavesR
 refine Cell.Res.to (Cell.Res.bind (y:=0) (k:=0) Cell.res_name fun x r _=>?_) rfl (by omega)
 exact Cell.Res.to (Cell.Res.bind (y:=0) (k:=0) (Cell.res_namesMore _ _) fun l r _=>Cell.Res.ret) rfl (by omega)
theorem params_eq(ts:Toks):Vanbka.params ts=(if next (isSign ")") ts then .ok ([],ts) else leavesR Vanbka.name Vanbka.namesMore ts) >>= fun p=>eat (isSign ")") p.2 >>= fun r=>pure (p.1,r):=by
 unfold Vanbka.params
 by_cases c:next (isSign ")") ts=true
 ·rw [if_pos c,if_pos c]
  show _=(eat (isSign ")") ts >>= fun r=>pure (([]:List Bytes),r))
  unfold eat
  rw [if_pos c]
  rfl
 ·rw [if_neg c,if_neg c]
  unfold leavesR
  cases Vanbka.name ts with
  | error l=>rfl
  | ok p =>
   obtain ⟨x,r⟩:=p
   show (Vanbka.namesMore r.length r >>= _)=((Vanbka.namesMore r.length r >>= _) >>= _)
   cases Vanbka.namesMore r.length r <;> rfl
section
variable{P:Program}{w:World}{K:PySem.W.Frag}{mg:Str→Option Value}{base:Heap}{D:Ad}{N:Nat}
theorem scFn:FnScope ["reader", "leaves"] ["reader"] (defScope sReadFunction):=⟨rfl,rfl,rfl,by decide +kernel,rfl,by decide +kernel,by decide +kernel⟩
theorem ok_fn(Kn:Known K mg "read_function" ["reader"] sReadFunction)(B:Base P w K mg base D)(GV:Has P w K mg base 4 "read_leaves" ["reader", "kind"] (spLeaves D "NAME" Vanbka.name Vanbka.namesMore))(I:Reads P w K mg base D N)(h:Nat) :
  Has P w K mg base (room h 9) "read_function" ["reader"] (spR D 1 (N + 1) h [] (fun rs=>headK rs = "fn") simple (repE D)):=by
 refine has_of (r:=8) Kn scFn (fun _ _ _ _ q=>q.len) (fun _ _ _ _ q=>q.le) fun hh f cdv A outer s H vs Q E hr q=>?_
 obtain ⟨X,rd,rs,n,hn,rfl,pre,c0,out⟩:=q
 obtain ⟨R,dp,_,fu,sz⟩:=pre
 have cl:=B.rd.c.cl
 have nd:=scFn.nd
 have r3:Room 3 _:=hr.mono (by omega)
 have GB:=I.block h
 refine ⟨_,(pss_cons (ps_expr (pe_hasM B.take cl r3 (pv 0) (pa_cons pe_str pa_nil)))
   (pss_cons (ps_set (i:=1) nd rfl (Or.inl rfl) (pe_lst (pa_cons (pe_lst pa_nil) pa_nil)))
   (pss_cons (ps_if (pt_cmpR op_eq (pe_hasM0 B.look cl r3 (pv 0)) pe_str (nomark _)) (pss_one (ps_set (i:=1) nd rfl (Or.inl rfl) (pe_lst (pa_cons (pe_hasM B.take cl r3 (pv 0) (pa_cons pe_str pa_nil)) pa_nil)))) pss_nil)
   (pss_cons (ps_expr (pe_hasM B.take cl r3 (pv 0) (pa_cons pe_str pa_nil)))
   (pss_cons (ps_if (pt_cmpR op_ne (pe_hasM0 B.look cl r3 (pv 0)) pe_str (nomark _)) (pss_one (ps_expr (pe_bm PySem.F.plainAttrs_list PySem.F.slot_list_extend PySem.F.type_list_extend mt_extend (pv 1) (pa_cons (pe_has GV hr rfl (pa_cons (pv 0) (pa_cons pe_str pa_nil)) (by omega)) pa_nil)))) pss_nil)
   (pss_cons (ps_expr (pe_hasM B.take cl r3 (pv 0) (pa_cons pe_str pa_nil)))
   (pss_one (ps_ret (pe_tree B r3 rfl (pa_cons pe_str (pa_cons (pv 1) (pa_cons (pe_lst pa_nil) (pa_cons (pe_lst (pa_cons (pe_has GB hr rfl (pa_cons (pv 0) pa_nil) (rm_same hh (by decide))) pa_nil)) pa_nil))))))))))))),?_⟩
 have w:=R.wfr
 obtain ⟨t,r,e1,e2,hk⟩:=head_cons c0 (by decide)
 subst e1
 have lr:(t::r).length=r.length + 1:=rfl
 have C1:Cell.Con (t::r) r 0 1:=Cell.con_word (s := "fn") (by rw [nw_fn w];exact decide_eq_true c0)
 cases n with
 | zero=>omega
 | succ n =>
 cases n with
 | zero=>omega
 | succ n =>
  have out:Out D X rd H Q E (repE D) (function (n + 1) r):=by
   rw [← simple_fn w hk]
   exact out
  rw [function] at out
  dsimp only at out
  refine m_takeK R c0 fun _ H1 b1 R1 _=>?_
  have R1:RDa D X rd H1 r:=R1
  refine ⟨by decide,fun l0 m0=>⟨(by show 1≤2 ^ 24;decide),fun la ma=>?_⟩⟩
  have s0:Same H1 (upd H1 l0 (.lst [])):=same_new m0 _
  have s1:Same (upd H1 l0 (.lst [])) (upd (upd H1 l0 (.lst [])) la (.lst [.ref l0])):=same_new ma _
  have R1':=R1.same (s0.trans s1)
  have b1':=b1.then (s0.trans s1)
  have nn:=name_next R1.wfr
  refine m_look R1' ⟨rfl,_,rfl,ite2 (fun c=>?_) (fun c=>?_)⟩
  ·have c:=seqT c
   rw [decide_eq_true c] at nn
   rw [nn,if_pos rfl] at out
   obtain ⟨x,ex⟩:=Option.isSome_iff_exists.mp nn
   have hnm:Vanbka.name r = .ok (x,r.drop 1):=by unfold Vanbka.name;rw [ex]
   have Cn:=con_of Cell.res_name hnm
   have lCn:=Cn.len
   rw [ex] at out
   refine m_name R1' ?_
   rw [hnm]
   intro u H2 b2 Rx lf0
   refine ⟨(by show 1≤2 ^ 24;decide),fun la ma=>?_⟩
   have b02:=b1'.trans b2
   have maT:=gone_T Rx.st ma
   have mar:=Rx.ne ma
   have maH:=gr_of b02 Rx la ma
   have sx:Same H2 (upd H2 la (.lst [u])):=same_new ma _
   have bx:=b02.then sx
   have Rx:=Rx.same sx
   have hla:(upd H2 la (.lst [u])) la=some (.lst [u]):=upd_same
   have dpx:=dp0 Cn (dp0 C1 dp)
   generalize ho:(some x:Option Bytes)=own at out
   have lf:LeafAt (Cut X.T (upd H la (.lst [])) (upd H2 la (.lst [u]))) (.bytes (own.getD [])) u:=by
    rw [← ho]
    exact LeafAt.same cut_tok lf0
   generalize hrx:r.drop 1=rx at out Rx lCn dpx
   have Rb:RDa D X rd (upd H la (.lst [])) (t::r):=R.updn maT mar
   refine m_eat Rx (nxPo Rx.wfr) (out_eat out fun r2 he2 out _ H2 b2 R2=>?_)
   have C2:Cell.Con rx r2 1 1:=con_ofE (by rw [← Cell.sw_po];exact Cell.res_eatS) he2
   have lC2:=C2.len
   have dp2:=dp1 C2 dpx
   have b02:=bx.trans b2
   have hla2:=b2 _ _ hla mar
   rw [params_eq] at out
   have lf2:=LeafAt.same (cut_on_but (T:=X.T) Rb b2) lf
   refine m_look R2 ⟨rfl,_,rfl,ite2 (fun c=>?_) (fun c=>?_)⟩
   ·have c:=sneT c
    rw [nxPc R2.wfr,decide_eq_false c,if_neg Bool.false_ne_true] at out
    have out:Out D X rd H Q E (repE D) (leavesR Vanbka.name Vanbka.namesMore r2 >>= fun p=>eat (isSign ")") p.2 >>= fun r=>block n r >>= fun q=>pure (.fn own p.1 q.1,q.2)):=by
     cases h1:leavesR Vanbka.name Vanbka.namesMore r2 with
     | error l=>rw [h1] at out;exact out
     | ok p =>
      rw [h1] at out
      have out:Out D X rd H Q E (repE D) ((eat (isSign ")") p.2 >>= fun r=>pure (p.1,r)) >>= fun p=>block n p.2 >>= fun q=>pure (.fn own p.1 q.1,q.2)):=out
      show Out D X rd H Q E (repE D) (eat (isSign ")") p.2 >>= fun r=>block n r >>= fun q=>pure (.fn own p.1 q.1,q.2))
      cases h2:eat (isSign ")") p.2 with
      | error l=>rw [h2] at out;exact out
      | ok r'=>rw [h2] at out;exact out
    refine ⟨_,rfl,.inl ⟨rfl,_,SqL.of hla2⟩,_,rfl,X,rd,r2,rfl,R2,sz,out_call out fun nl ry he3 out v3 H3 b3 R3 n3=>?_⟩
    obtain ⟨a3,ws,rfl,ha3,lw,pw⟩:=n3
    have C3:=con_of res_leaves he3
    have lC3:=C3.len
    have hla3:=b3 _ _ hla2 mar
    have ha3':H3 a3=some (.lst ws):=cut_sub R3.st _ _ ha3
    have b03:=b02.trans b3
    refine ⟨la,a3,_,_,rfl,rfl,hla3,ha3',(by show 1 + ws.length≤2 ^ 24;omega),?_⟩
    have by_:But rd H (upd H3 la (.lst ([u] ++ ws))):=b03.updn maH
    have Ry:RDa D X rd (upd H3 la (.lst ([u] ++ ws))) ry:=R3.updn maT mar
    have hly:(upd H3 la (.lst ([u] ++ ws))) la=some (.lst ([u] ++ ws)):=upd_same
    have suy:([u] ++ ws).length≤1000:=by
     show (u::ws).length≤1000
     rw [List.length_cons];omega
    have dpy:tooDeepAt ((h + 1:Nat):Int) ry=none:=dp0 C3 dp2
    have ply:Paired (LeafAt (Cut X.T (upd H la (.lst [])) (upd H3 la (.lst ([u] ++ ws))))) (.bytes (own.getD [])::nl.map Leaf.bytes) ([u] ++ ws) :=
     .cons (LeafAt.same (acc_old Rb upd_same b3) lf2) (Paired.mapP pw fun _ _ z=>LeafAt.same (acc_new b02 R2 hla2) z)
    refine m_eat Ry (nxPc Ry.wfr) (out_eat out fun r5 he5 out _ H5 b5 R5=>?_)
    have C5:Cell.Con ry r5 (-1) 1:=con_ofE (by rw [← Cell.sw_pc];exact Cell.res_eatS) he5
    have lC5:=C5.len
    have b05:=by_.trans b5
    have hl5:=b5 _ _ hly mar
    refine ⟨_,rfl,by decide,fun l2 m2=>?_⟩
    have s5:Same H5 (upd H5 l2 (.lst [])):=same_new m2 _
    have R5':=R5.same s5
    have b05':=b05.then s5
    refine ⟨_,rfl,X,rd,r5,n,by omega,rfl,⟨R5',dpm1 C5 dpy,hh,by omega,sz⟩,trivial,out_call out fun ss r6 he6 out v6 H6 b6 R6 n6=>?_⟩
    obtain ⟨a6,ws,rfl,ha6,lw,hN6⟩:=n6
    have m2r:=R5.ne m2
    refine ⟨(by show 1≤2 ^ 24;decide),fun l3 m3=>?_⟩
    have b06:=b05'.trans b6
    have gr:=gr_of b06 R6
    have hl6:=b6 _ _ (s5 _ _ hl5) mar
    have hl26:H6 l2=some (.lst []):=b6 _ _ upd_same m2r
    have s6:Same H6 (upd H6 l3 (.lst [.ref a6])):=same_new m3 _
    have g6:Same (Cut X.T (upd H5 l2 (.lst [])) H6) (Cut X.T H (upd H6 l3 (.lst [.ref a6]))):=(cut_part b05' R5').trans (cut_on_same s6)
    have gl:=((cut_on_but (T:=X.T) Rb ((b5.then s5).trans b6)).trans (cut_on_same s6)).trans (acc_end (T:=X.T) (H:=H) (l:=la) (o:=.lst []))
    exact make_node (ls:=.bytes (own.getD [])::List.map Leaf.bytes _) (ps:=[]) (bs:=[nodesS ss]) (fun b z=>gr b (none_of_same s6 z)) (R6.st.trans s6) (cut_new maT maH (s6 _ _ hl6)) (cut_new (gone_T R5.st m2) (gr_of b05 R5 l2 m2) (s6 _ _ hl26)) (cut_new (none_of_same R6.st m3) (gr _ m3) upd_same) ⟨suy,by decide,(by show 1≤1000;decide)⟩
     (Paired.mapP ply fun _ _ z=>LeafAt.same gl z) nodes0 ⟨a6,ws,[],rfl,g6 _ _ ha6,by omega,NodesAt.same g6 _ _ hN6,rfl⟩ fun z H9 sm nd=>out _ _ (b06.then (s6.trans sm)) (R6.same (s6.trans sm)) nd
   ·have c:=sneF c
    rw [nxPc R2.wfr,decide_eq_true c,if_pos rfl] at out
    have out:Out D X rd H Q E (repE D) (eat (isSign ")") r2 >>= fun r=>block n r >>= fun q=>pure (.fn own [] q.1,q.2)):=by
     cases h2:eat (isSign ")") r2 with
     | error l =>
      have out:Out D X rd H Q E (repE D) ((eat (isSign ")") r2 >>= fun r=>pure (([]:List Bytes),r)) >>= fun p=>block n p.2 >>= fun q=>pure (.fn own p.1 q.1,q.2)):=out
      rw [h2] at out;exact out
     | ok r' =>
      have out:Out D X rd H Q E (repE D) ((eat (isSign ")") r2 >>= fun r=>pure (([]:List Bytes),r)) >>= fun p=>block n p.2 >>= fun q=>pure (.fn own p.1 q.1,q.2)):=out
      rw [h2] at out;exact out
    have by_:=b02
    have Ry:=R2
    have hly:=hla2
    have suy:[u].length≤1000:=by show 1≤1000;decide
    have dpy:=dp2
    have ply:Paired (LeafAt (Cut X.T (upd H la (.lst [])) H2)) (.bytes (own.getD [])::List.map Leaf.bytes []) [u]:=.cons lf2 .nil
    refine m_eat Ry (nxPc Ry.wfr) (out_eat out fun r5 he5 out _ H5 b5 R5=>?_)
    have C5:Cell.Con r2 r5 (-1) 1:=con_ofE (by rw [← Cell.sw_pc];exact Cell.res_eatS) he5
    have lC5:=C5.len
    have b05:=by_.trans b5
    have hl5:=b5 _ _ hly mar
    refine ⟨_,rfl,by decide,fun l2 m2=>?_⟩
    have s5:Same H5 (upd H5 l2 (.lst [])):=same_new m2 _
    have R5':=R5.same s5
    have b05':=b05.then s5
    refine ⟨_,rfl,X,rd,r5,n,by omega,rfl,⟨R5',dpm1 C5 dpy,hh,by omega,sz⟩,trivial,out_call out fun ss r6 he6 out v6 H6 b6 R6 n6=>?_⟩
    obtain ⟨a6,ws,rfl,ha6,lw,hN6⟩:=n6
    have m2r:=R5.ne m2
    refine ⟨(by show 1≤2 ^ 24;decide),fun l3 m3=>?_⟩
    have b06:=b05'.trans b6
    have gr:=gr_of b06 R6
    have hl6:=b6 _ _ (s5 _ _ hl5) mar
    have hl26:H6 l2=some (.lst []):=b6 _ _ upd_same m2r
    have s6:Same H6 (upd H6 l3 (.lst [.ref a6])):=same_new m3 _
    have g6:Same (Cut X.T (upd H5 l2 (.lst [])) H6) (Cut X.T H (upd H6 l3 (.lst [.ref a6]))):=(cut_part b05' R5').trans (cut_on_same s6)
    have gl:=((cut_on_but (T:=X.T) Rb ((b5.then s5).trans b6)).trans (cut_on_same s6)).trans (acc_end (T:=X.T) (H:=H) (l:=la) (o:=.lst []))
    exact make_node (ls:=.bytes (own.getD [])::List.map Leaf.bytes _) (ps:=[]) (bs:=[nodesS ss]) (fun b z=>gr b (none_of_same s6 z)) (R6.st.trans s6) (cut_new maT maH (s6 _ _ hl6)) (cut_new (gone_T R5.st m2) (gr_of b05 R5 l2 m2) (s6 _ _ hl26)) (cut_new (none_of_same R6.st m3) (gr _ m3) upd_same) ⟨suy,by decide,(by show 1≤1000;decide)⟩
     (Paired.mapP ply fun _ _ z=>LeafAt.same gl z) nodes0 ⟨a6,ws,[],rfl,g6 _ _ ha6,by omega,NodesAt.same g6 _ _ hN6,rfl⟩ fun z H9 sm nd=>out _ _ (b06.then (s6.trans sm)) (R6.same (s6.trans sm)) nd
  ·have c:=seqF c
   rw [decide_eq_false c] at nn
   rw [nn,if_neg Bool.false_ne_true] at out
   have ex:nameNext r=none:=by
    cases hx:nameNext r with
    | none=>rfl
    | some x=>rw [hx] at nn;cases nn
   rw [ex] at out
   have maT:=gone_T (R1.same s0).st ma
   have mar:=(R1.same s0).ne ma
   have maH:=gr_of b1 R1 la (none_of_same s0 ma)
   have bx:=b1'
   have Rx:=R1'
   have hla:(upd (upd H1 l0 (.lst [])) la (.lst [.ref l0])) la=some (.lst [.ref l0]):=upd_same
   have dpx:=dp0 C1 dp
   have n0:l0≠la:=fun y=>by rw [← y,upd_same] at ma;cases ma
   generalize ho:(none:Option Bytes)=own at out
   have lf:LeafAt (Cut X.T (upd H la (.lst [])) (upd (upd H1 l0 (.lst [])) la (.lst [.ref l0]))) (.bytes (own.getD [])) (V.ref l0):=by
    rw [← ho]
    refine ⟨l0,rfl,cut_new (gone_T R1.st m0) (by rw [upd_ne n0];exact gr_of b1 R1 l0 m0) (by rw [upd_ne n0,upd_same];rfl)⟩
   have Rb:RDa D X rd (upd H la (.lst [])) (t::r):=R.updn maT mar
   refine m_eat Rx (nxPo Rx.wfr) (out_eat out fun r2 he2 out _ H2 b2 R2=>?_)
   have C2:Cell.Con r r2 1 1:=con_ofE (by rw [← Cell.sw_po];exact Cell.res_eatS) he2
   have lC2:=C2.len
   have dp2:=dp1 C2 dpx
   have b02:=bx.trans b2
   have hla2:=b2 _ _ hla mar
   rw [params_eq] at out
   have lf2:=LeafAt.same (cut_on_but (T:=X.T) Rb b2) lf
   refine m_look R2 ⟨rfl,_,rfl,ite2 (fun c=>?_) (fun c=>?_)⟩
   ·have c:=sneT c
    rw [nxPc R2.wfr,decide_eq_false c,if_neg Bool.false_ne_true] at out
    have out:Out D X rd H Q E (repE D) (leavesR Vanbka.name Vanbka.namesMore r2 >>= fun p=>eat (isSign ")") p.2 >>= fun r=>block n r >>= fun q=>pure (.fn own p.1 q.1,q.2)):=by
     cases h1:leavesR Vanbka.name Vanbka.namesMore r2 with
     | error l=>rw [h1] at out;exact out
     | ok p =>
      rw [h1] at out
      have out:Out D X rd H Q E (repE D) ((eat (isSign ")") p.2 >>= fun r=>pure (p.1,r)) >>= fun p=>block n p.2 >>= fun q=>pure (.fn own p.1 q.1,q.2)):=out
      show Out D X rd H Q E (repE D) (eat (isSign ")") p.2 >>= fun r=>block n r >>= fun q=>pure (.fn own p.1 q.1,q.2))
      cases h2:eat (isSign ")") p.2 with
      | error l=>rw [h2] at out;exact out
      | ok r'=>rw [h2] at out;exact out
    refine ⟨_,rfl,.inl ⟨rfl,_,SqL.of hla2⟩,_,rfl,X,rd,r2,rfl,R2,sz,out_call out fun nl ry he3 out v3 H3 b3 R3 n3=>?_⟩
    obtain ⟨a3,ws,rfl,ha3,lw,pw⟩:=n3
    have C3:=con_of res_leaves he3
    have lC3:=C3.len
    have hla3:=b3 _ _ hla2 mar
    have ha3':H3 a3=some (.lst ws):=cut_sub R3.st _ _ ha3
    have b03:=b02.trans b3
    refine ⟨la,a3,_,_,rfl,rfl,hla3,ha3',(by show 1 + ws.length≤2 ^ 24;omega),?_⟩
    have by_:But rd H (upd H3 la (.lst ([V.ref l0] ++ ws))):=b03.updn maH
    have Ry:RDa D X rd (upd H3 la (.lst ([V.ref l0] ++ ws))) ry:=R3.updn maT mar
    have hly:(upd H3 la (.lst ([V.ref l0] ++ ws))) la=some (.lst ([V.ref l0] ++ ws)):=upd_same
    have suy:([V.ref l0] ++ ws).length≤1000:=by
     show (V.ref l0::ws).length≤1000
     rw [List.length_cons];omega
    have dpy:tooDeepAt ((h + 1:Nat):Int) ry=none:=dp0 C3 dp2
    have ply:Paired (LeafAt (Cut X.T (upd H la (.lst [])) (upd H3 la (.lst ([V.ref l0] ++ ws))))) (.bytes (own.getD [])::nl.map Leaf.bytes) ([V.ref l0] ++ ws) :=
     .cons (LeafAt.same (acc_old Rb upd_same b3) lf2) (Paired.mapP pw fun _ _ z=>LeafAt.same (acc_new b02 R2 hla2) z)
    refine m_eat Ry (nxPc Ry.wfr) (out_eat out fun r5 he5 out _ H5 b5 R5=>?_)
    have C5:Cell.Con ry r5 (-1) 1:=con_ofE (by rw [← Cell.sw_pc];exact Cell.res_eatS) he5
    have lC5:=C5.len
    have b05:=by_.trans b5
    have hl5:=b5 _ _ hly mar
    refine ⟨_,rfl,by decide,fun l2 m2=>?_⟩
    have s5:Same H5 (upd H5 l2 (.lst [])):=same_new m2 _
    have R5':=R5.same s5
    have b05':=b05.then s5
    refine ⟨_,rfl,X,rd,r5,n,by omega,rfl,⟨R5',dpm1 C5 dpy,hh,by omega,sz⟩,trivial,out_call out fun ss r6 he6 out v6 H6 b6 R6 n6=>?_⟩
    obtain ⟨a6,ws,rfl,ha6,lw,hN6⟩:=n6
    have m2r:=R5.ne m2
    refine ⟨(by show 1≤2 ^ 24;decide),fun l3 m3=>?_⟩
    have b06:=b05'.trans b6
    have gr:=gr_of b06 R6
    have hl6:=b6 _ _ (s5 _ _ hl5) mar
    have hl26:H6 l2=some (.lst []):=b6 _ _ upd_same m2r
    have s6:Same H6 (upd H6 l3 (.lst [.ref a6])):=same_new m3 _
    have g6:Same (Cut X.T (upd H5 l2 (.lst [])) H6) (Cut X.T H (upd H6 l3 (.lst [.ref a6]))):=(cut_part b05' R5').trans (cut_on_same s6)
    have gl:=((cut_on_but (T:=X.T) Rb ((b5.then s5).trans b6)).trans (cut_on_same s6)).trans (acc_end (T:=X.T) (H:=H) (l:=la) (o:=.lst []))
    exact make_node (ls:=.bytes (own.getD [])::List.map Leaf.bytes _) (ps:=[]) (bs:=[nodesS ss]) (fun b z=>gr b (none_of_same s6 z)) (R6.st.trans s6) (cut_new maT maH (s6 _ _ hl6)) (cut_new (gone_T R5.st m2) (gr_of b05 R5 l2 m2) (s6 _ _ hl26)) (cut_new (none_of_same R6.st m3) (gr _ m3) upd_same) ⟨suy,by decide,(by show 1≤1000;decide)⟩
     (Paired.mapP ply fun _ _ z=>LeafAt.same gl z) nodes0 ⟨a6,ws,[],rfl,g6 _ _ ha6,by omega,NodesAt.same g6 _ _ hN6,rfl⟩ fun z H9 sm nd=>out _ _ (b06.then (s6.trans sm)) (R6.same (s6.trans sm)) nd
   ·have c:=sneF c
    rw [nxPc R2.wfr,decide_eq_true c,if_pos rfl] at out
    have out:Out D X rd H Q E (repE D) (eat (isSign ")") r2 >>= fun r=>block n r >>= fun q=>pure (.fn own [] q.1,q.2)):=by
     cases h2:eat (isSign ")") r2 with
     | error l =>
      have out:Out D X rd H Q E (repE D) ((eat (isSign ")") r2 >>= fun r=>pure (([]:List Bytes),r)) >>= fun p=>block n p.2 >>= fun q=>pure (.fn own p.1 q.1,q.2)):=out
      rw [h2] at out;exact out
     | ok r' =>
      have out:Out D X rd H Q E (repE D) ((eat (isSign ")") r2 >>= fun r=>pure (([]:List Bytes),r)) >>= fun p=>block n p.2 >>= fun q=>pure (.fn own p.1 q.1,q.2)):=out
      rw [h2] at out;exact out
    have by_:=b02
    have Ry:=R2
    have hly:=hla2
    have suy:[V.ref l0].length≤1000:=by show 1≤1000;decide
    have dpy:=dp2
    have ply:Paired (LeafAt (Cut X.T (upd H la (.lst [])) H2)) (.bytes (own.getD [])::List.map Leaf.bytes []) [V.ref l0]:=.cons lf2 .nil
    refine m_eat Ry (nxPc Ry.wfr) (out_eat out fun r5 he5 out _ H5 b5 R5=>?_)
    have C5:Cell.Con r2 r5 (-1) 1:=con_ofE (by rw [← Cell.sw_pc];exact Cell.res_eatS) he5
    have lC5:=C5.len
    have b05:=by_.trans b5
    have hl5:=b5 _ _ hly mar
    refine ⟨_,rfl,by decide,fun l2 m2=>?_⟩
    have s5:Same H5 (upd H5 l2 (.lst [])):=same_new m2 _
    have R5':=R5.same s5
    have b05':=b05.then s5
    refine ⟨_,rfl,X,rd,r5,n,by omega,rfl,⟨R5',dpm1 C5 dpy,hh,by omega,sz⟩,trivial,out_call out fun ss r6 he6 out v6 H6 b6 R6 n6=>?_⟩
    obtain ⟨a6,ws,rfl,ha6,lw,hN6⟩:=n6
    have m2r:=R5.ne m2
    refine ⟨(by show 1≤2 ^ 24;decide),fun l3 m3=>?_⟩
    have b06:=b05'.trans b6
    have gr:=gr_of b06 R6
    have hl6:=b6 _ _ (s5 _ _ hl5) mar
    have hl26:H6 l2=some (.lst []):=b6 _ _ upd_same m2r
    have s6:Same H6 (upd H6 l3 (.lst [.ref a6])):=same_new m3 _
    have g6:Same (Cut X.T (upd H5 l2 (.lst [])) H6) (Cut X.T H (upd H6 l3 (.lst [.ref a6]))):=(cut_part b05' R5').trans (cut_on_same s6)
    have gl:=((cut_on_but (T:=X.T) Rb ((b5.then s5).trans b6)).trans (cut_on_same s6)).trans (acc_end (T:=X.T) (H:=H) (l:=la) (o:=.lst []))
    exact make_node (ls:=.bytes (own.getD [])::List.map Leaf.bytes _) (ps:=[]) (bs:=[nodesS ss]) (fun b z=>gr b (none_of_same s6 z)) (R6.st.trans s6) (cut_new maT maH (s6 _ _ hl6)) (cut_new (gone_T R5.st m2) (gr_of b05 R5 l2 m2) (s6 _ _ hl26)) (cut_new (none_of_same R6.st m3) (gr _ m3) upd_same) ⟨suy,by decide,(by show 1≤1000;decide)⟩
     (Paired.mapP ply fun _ _ z=>LeafAt.same gl z) nodes0 ⟨a6,ws,[],rfl,g6 _ _ ha6,by omega,NodesAt.same g6 _ _ hN6,rfl⟩ fun z H9 sm nd=>out _ _ (b06.then (s6.trans sm)) (R6.same (s6.trans sm)) nd
end
end Prg
end
section
set_option maxRecDepth 100000
set_option maxHeartbeats 4000000
namespace Prg
open PySem L2
open Vanbka (Bytes Lex reserved isSign isWord next nameNext wordNext eat b halt_ placeAt tooDeepAt Op Prim Way Exprs Fields Stmts opNext chain line simple reach listed more fields parts inBrackets function block statements statement)
abbrev sReadSimple:PySem.Stmt:=top 39
section
variable{P:Program}{w:World}{K:PySem.W.Frag}{mg:Str→Option Value}{base:Heap}{D:Ad}{N:Nat}
theorem scSimple:FnScope ["reader", "kind"] ["reader"] (defScope sReadSimple):=⟨rfl,rfl,rfl,by decide +kernel,rfl,by decide +kernel,by decide +kernel⟩
theorem ok_simple(Kn:Known K mg "read_simple" ["reader"] sReadSimple)(B:Base P w K mg base D)(U:BuiltAt w K mg)
  (GL:∀ h,Has P w K mg base (room h 22) "read_listed" ["reader", "closing"] (spR D 12 (N + 1) h [.str "]"] Any (fun n=>listed n "]") (repEs D)))
  (GBr:∀ h,Has P w K mg base (room h 9) "read_bracketed" ["reader"] (spR D 1 (N + 1) h [] (fun rs=>headK rs = "(") simple (repE D)))
  (GFn:∀ h,Has P w K mg base (room h 9) "read_function" ["reader"] (spR D 1 (N + 1) h [] (fun rs=>headK rs = "fn") simple (repE D)))
  (GBi:∀ h,Has P w K mg base (room h 9) "read_built_in" ["reader"] (spR D 1 (N + 1) h [] (fun rs=>(builtL.lookup (headK rs)).isSome=true) simple (repE D))) (h:Nat) :
  Has P w K mg base (room h 10) "read_simple" ["reader"] (spR D 1 (N + 1) h [] Any simple (repE D)):=by
 refine has_of (r:=9) Kn scSimple (fun _ _ _ _ q=>q.len) (fun _ _ _ _ q=>q.le) fun hh f cdv A outer s H vs Q E hr q=>?_
 obtain ⟨X,rd,rs,n,hn,rfl,pre,c0,out⟩:=q
 obtain ⟨R,dp,_,fu,sz⟩:=pre
 have cl:=B.rd.c.cl
 have nd:=scSimple.nd
 have r3:Room 3 _:=hr.mono (by omega)
 have GL:=GL (h + 1)
 have GBr:=GBr h
 have GFn:=GFn h
 have GBi:=GBi h
 obtain ⟨ua,kvs,mU,dU,vU⟩:=U
 obtain ⟨fI,fdI,T⟩:=B.fault
 refine ⟨_,(pss_cons (ps_set (i:=1) nd rfl (Or.inl rfl) (pe_hasM0 B.look cl r3 (pv 0)))
   (pss_cons (ps_if (pt_cmpR op_in_seq (pv 1) (pe_tup (pa_cons pe_str (pa_cons pe_str (pa_cons pe_str pa_nil)))) rfl) (pss_one (ps_ret (pe_tree B r3 rfl (pa_cons (pv 1) (pa_cons (pe_lst (pa_cons (pe_hasM B.take cl r3 (pv 0) (pa_cons (pv 1) pa_nil)) pa_nil)) (pa_cons (pe_lst pa_nil) (pa_cons (pe_lst pa_nil) pa_nil))))))) pss_nil)
   (pss_cons (ps_if (pt_cmpR op_in_seq (pv 1) (pe_tup (pa_cons pe_str (pa_cons pe_str (pa_cons pe_str pa_nil)))) rfl) (pss_one (ps_ret (pe_tree B r3 rfl (pa_cons (pe_hasM0 B.move cl r3 (pv 0)) (pa_cons (pe_lst pa_nil) (pa_cons (pe_lst pa_nil) (pa_cons (pe_lst pa_nil) pa_nil))))))) pss_nil)
   (pss_cons (ps_if (pt_cmpR op_eq (pv 1) pe_str (nomark _)) (pss_cons (ps_expr (pe_hasM B.take cl r3 (pv 0) (pa_cons pe_str pa_nil)))
   (pss_one (ps_ret (pe_tree B r3 rfl (pa_cons pe_str (pa_cons (pe_lst pa_nil) (pa_cons (pe_has GL hr rfl (pa_cons (pv 0) (pa_cons pe_str pa_nil)) (rm_up hh (by decide))) (pa_cons (pe_lst pa_nil) pa_nil)))))))) pss_nil)
   (pss_cons (ps_if (pt_cmpR op_eq (pv 1) pe_str (nomark _)) (pss_one (ps_ret (pe_has GBr hr rfl (pa_cons (pv 0) pa_nil) (rm_same hh (by decide))))) pss_nil)
   (pss_cons (ps_if (pt_cmpR op_eq (pv 1) pe_str (nomark _)) (pss_one (ps_ret (pe_has GFn hr rfl (pa_cons (pv 0) pa_nil) (rm_same hh (by decide))))) pss_nil)
   (pss_cons (ps_if (pt_cmpR op_inK (pv 1) (pe_cr mU rfl) rfl) (pss_one (ps_ret (pe_has GBi hr rfl (pa_cons (pv 0) pa_nil) (rm_same hh (by decide))))) pss_nil)
   (pss_one (ps_fault T (r3.mono (by decide)) rfl (pa_cons (pe_ci B.cNo rfl) (pa_cons (pe_hasM0 B.here cl r3 (pv 0)) pa_nil))))))))))),?_⟩
 have w:=R.wfr
 have out:Out D X rd H Q E (repE D) (simple n rs):=out
 cases n with
 | zero=>omega
 | succ n =>
  refine m_look R ?_
  refine ⟨_,rfl,by decide,fun p1 np1=>⟨p1,_,rfl,.inr (SqT.of upd_same),rfl,rfl,_,rfl,?_⟩⟩
  have sp1:Same H (upd H p1 (.tup [.str "NUMBER",.str "QUOTED",.str "NAME"])):=same_new np1 _
  rw [if_neg Bool.false_ne_true,show inV (.str (headK rs)) [.str "NUMBER",.str "QUOTED",.str "NAME"]=decide (headK rs∈(["NUMBER", "QUOTED", "NAME"]:List Str)) from inV_strs _ ["NUMBER", "QUOTED", "NAME"]]
  generalize upd H p1 (.tup [.str "NUMBER",.str "QUOTED",.str "NAME"])=Ha at sp1
  have Ra:=R.same sp1
  have ba:But rd H Ha:=(But.refl rd H).then sp1
  refine ite2 (fun c=>?_) (fun c1=>?_)
  ·have c:=of_decide_eq_true c
   cases rs with
   | nil=>exact absurd c (by decide)
   | cons t r =>
    have c:kindS t.lex∈(["NUMBER", "QUOTED", "NAME"]:List Str):=c
    have ke:kindS t.lex≠"END":=fun z=>by rw [z] at c;exact absurd c (by decide)
    have fin:∀ (x:Vanbka.Expr) (lf:Leaf),nodeE x = .mk (kindS t.lex) [lf] [] []→(∀ v,ValIs X.T t.lex v→LeafAt X.T lf v)→Out D X rd H Q E (repE D) (.ok (x,r))→
      tRet (tMake D.CN (spNI D.CN) [] E (tCons (tVar 1) (tCons (tLst (tCons (tMeth D.CR "take" (spTake D.CF D.CT D.CR) [] E (tVar 0) (tCons (tVar 1) tNil)) tNil)) (tCons (tLst tNil) (tCons (tLst tNil) tNil))))) { nx:=fun _ H'=>Q .non H',rt:=Q } [some (.ref rd),some (.str (kindS t.lex))] Ha:=by
     intro x lf en hl out
     refine ⟨_,rfl,m_takeK Ra rfl (fun v H1 b1 R1 tv=>?_) ke (fun _ q=>⟨_,rfl,q⟩)⟩
     have R1:RDa D X rd H1 r:=R1
     have b01:=ba.trans b1
     refine ⟨(by show 1≤2 ^ 24;decide),fun l1 m1=>⟨by decide,fun l2 m2=>⟨by decide,fun l3 m3=>?_⟩⟩⟩
     refine tree3 (gr_of b01 R1) R1.st m1 m2 m3 ⟨(by show 1≤1000;decide),by decide,by decide⟩ (.cons (LeafAt.same cut_tok (hl v tv)) .nil) nodes0 blocks0 fun z H9 sm nd=>?_
     rw [← en] at nd
     exact out _ _ (b01.then sm) (R1.same sm) nd
    have si:=simple_is (n:=n) w
    generalize simple (n + 1) (t::r)=res at si out
    cases si with
    | num v e k=>exact fin (.num v) (.int v) (by rw [k];rfl) (fun u hu=>by rw [e] at hu;exact hu) out
    | quo x e k=>exact fin (.quoted x) (.bytes x) (by rw [k];rfl) (fun u hu=>by rw [e] at hu;exact hu) out
    | name x e u k =>
     refine fin (.name x) (.bytes x) (by rw [k];rfl) (fun v hu=>?_) out
     rw [e] at hu
     have hu:(if reserved.contains x then v = .non else ∃ a,v = .ref a∧X.T a=some (.lst (vb x))):=hu
     rw [u,if_neg Bool.false_ne_true] at hu
     exact hu
    | yes k=>rw [k] at c;exact absurd c (by decide)
    | no k=>rw [k] at c;exact absurd c (by decide)
    | none k=>rw [k] at c;exact absurd c (by decide)
    | list k=>rw [k] at c;exact absurd c (by decide)
    | brack k=>rw [k] at c;exact absurd c (by decide)
    | fn k=>rw [k] at c;exact absurd c (by decide)
    | prim p m k b l1 l3 =>
     rw [k] at c
     exact absurd c (by cases p <;> decide)
    | bad k b =>
     refine absurd ?_ k
     simp only [List.mem_cons,List.not_mem_nil,or_false] at c ⊢
     rcases c with c | c | c
     ·exact .inl c
     ·exact .inr (.inl c)
     ·exact .inr (.inr (.inl c))
  have c1:¬ headK rs∈(["NUMBER", "QUOTED", "NAME"]:List Str):=fun z=>c1 (decide_eq_true z)
  refine ⟨_,rfl,by decide,fun p2 np2=>⟨p2,_,rfl,.inr (SqT.of upd_same),rfl,rfl,_,rfl,?_⟩⟩
  have sp2:Same Ha (upd Ha p2 (.tup [.str "yes",.str "no",.str "none"])):=same_new np2 _
  rw [if_neg Bool.false_ne_true,show inV (.str (headK rs)) [.str "yes",.str "no",.str "none"]=decide (headK rs∈(["yes", "no", "none"]:List Str)) from inV_strs _ ["yes", "no", "none"]]
  generalize upd Ha p2 (.tup [.str "yes",.str "no",.str "none"])=Hb at sp2
  have Rb:=Ra.same sp2
  have bb:But rd H Hb:=ba.then sp2
  refine ite2 (fun c=>?_) (fun c2=>?_)
  ·have c:=of_decide_eq_true c
   cases rs with
   | nil=>exact absurd c (by decide)
   | cons t r =>
    have c:kindS t.lex∈(["yes", "no", "none"]:List Str):=c
    have fin:∀ (x:Vanbka.Expr),nodeE x = .mk (kindS t.lex) [] [] []→Out D X rd H Q E (repE D) (.ok (x,r))→
      tRet (tMake D.CN (spNI D.CN) [] E (tCons (tMeth D.CR "move_on" (spMove D.CT D.CR) [] E (tVar 0) tNil) (tCons (tLst tNil) (tCons (tLst tNil) (tCons (tLst tNil) tNil))))) { nx:=fun _ H'=>Q .non H',rt:=Q } [some (.ref rd),some (.str (kindS t.lex))] Hb:=by
     intro x en out
     refine m_move Rb fun H1 b1 R1=>?_
     have b01:=bb.trans b1
     refine ⟨by decide,fun l1 m1=>⟨by decide,fun l2 m2=>⟨by decide,fun l3 m3=>?_⟩⟩⟩
     refine tree3 (gr_of b01 R1) R1.st m1 m2 m3 ⟨by decide,by decide,by decide⟩ .nil nodes0 blocks0 fun z H9 sm nd=>?_
     rw [← en] at nd
     exact out _ _ (b01.then sm) (R1.same sm) nd
    have si:=simple_is (n:=n) w
    generalize simple (n + 1) (t::r)=res at si out
    cases si with
    | num v e k=>rw [k] at c;exact absurd c (by decide)
    | quo x e k=>rw [k] at c;exact absurd c (by decide)
    | name x e u k=>rw [k] at c;exact absurd c (by decide)
    | yes k=>exact fin (.truth true) (by rw [k];rfl) out
    | no k=>exact fin (.truth false) (by rw [k];rfl) out
    | none k=>exact fin .nothing (by rw [k];rfl) out
    | list k=>rw [k] at c;exact absurd c (by decide)
    | brack k=>rw [k] at c;exact absurd c (by decide)
    | fn k=>rw [k] at c;exact absurd c (by decide)
    | prim p m k b l1 l3 =>
     rw [k] at c
     exact absurd c (by cases p <;> decide)
    | bad k b =>
     refine absurd ?_ k
     simp only [List.mem_cons,List.not_mem_nil,or_false] at c ⊢
     rcases c with c | c | c
     ·exact .inr (.inr (.inr (.inl c)))
     ·exact .inr (.inr (.inr (.inr (.inl c))))
     ·exact .inr (.inr (.inr (.inr (.inr (.inl c)))))
  have c2:¬ headK rs∈(["yes", "no", "none"]:List Str):=fun z=>c2 (decide_eq_true z)
  refine ⟨_,rfl,rfl,_,rfl,ite2 (fun c=>?_) (fun c3=>?_)⟩
  ·have c:=seqT c
   obtain ⟨t,r,e1,e2,hk⟩:=head_cons c (by decide)
   subst e1
   have lr:(t::r).length=r.length + 1:=rfl
   have op:next (isSign "[") (t::r)=true:=by rw [nxBo w];exact decide_eq_true c
   have C1:Cell.Con (t::r) r 1 1:=Cell.con_sign op
   have h24:h < 24:=by
    have:=Cell.deep_open (t:=t) (r:=r) (open_of op (by decide +kernel)) dp
    omega
   have out:Out D X rd H Q E (repE D) (listed n "]" r >>= fun q=>pure (.list q.1,q.2)):=by rw [← simple_list w hk];exact out
   refine m_takeK Rb c fun _ H1 b1 R1 _=>?_
   have R1:RDa D X rd H1 r:=R1
   have b01:=bb.trans b1
   refine ⟨by decide,fun l1 m1=>?_⟩
   have s1:Same H1 (upd H1 l1 (.lst [])):=same_new m1 _
   have b02:=b01.then s1
   refine ⟨_,rfl,X,rd,r,n,by omega,rfl,⟨R1.same s1,dp1 C1 dp,by omega,by omega,sz⟩,trivial,out_call out fun l r3 he out v H3 b3 R3 n3=>?_⟩
   obtain ⟨a,vs,rfl,ha,lv,hN⟩:=n3
   refine ⟨by decide,fun l3 m3=>?_⟩
   have b03:=b02.trans b3
   have gr:=gr_of b03 R3
   have s3:Same H3 (upd H3 l3 (.lst [])):=same_new m3 _
   have g3:Same (Cut X.T (upd H1 l1 (.lst [])) H3) (Cut X.T H (upd H3 l3 (.lst []))):=(cut_part b02 (R1.same s1)).trans (cut_on_same s3)
   exact make_node (ls:=[]) (ps:=nodesE l) (bs:=[]) (fun b z=>gr b (none_of_same s3 z)) (R3.st.trans s3) (cut_new (gone_T R1.st m1) (gr_of b01 R1 l1 m1) (s3 _ _ (b3 _ _ upd_same (R1.ne m1)))) (g3 _ _ ha) (cut_new (none_of_same R3.st m3) (gr _ m3) upd_same) ⟨by decide,by omega,by decide⟩ .nil (NodesAt.same g3 _ _ hN) blocks0 fun z H9 sm nd=>out _ _ (b03.then (s3.trans sm)) (R3.same (s3.trans sm)) nd
  have c3:=seqF c3
  refine ⟨_,rfl,rfl,_,rfl,ite2 (fun c=>?_) (fun c4=>?_)⟩
  ·exact ⟨_,rfl,X,rd,rs,n + 1,hn,rfl,⟨Rb,dp,hh,fu,sz⟩,seqT c,out_lift bb Rb out⟩
  have c4:=seqF c4
  refine ⟨_,rfl,rfl,_,rfl,ite2 (fun c=>?_) (fun c5=>?_)⟩
  ·exact ⟨_,rfl,X,rd,rs,n + 1,hn,rfl,⟨Rb,dp,hh,fu,sz⟩,seqT c,out_lift bb Rb out⟩
  have c5:=seqF c5
  refine ⟨_,rfl,ua,kvs,.inr (headK rs),rfl,dU,rfl,_,rfl,?_⟩
  rw [if_neg Bool.false_ne_true,vU,Option.isSome_map]
  refine ite2 (fun c=>?_) (fun c6=>?_)
  ·exact ⟨_,rfl,X,rd,rs,n + 1,hn,rfl,⟨Rb,dp,hh,fu,sz⟩,c,out_lift bb Rb out⟩
  have c6:builtL.lookup (headK rs)=none:=by
   cases hx:builtL.lookup (headK rs) with
   | none=>rfl
   | some m=>rw [hx] at c6;exact absurd rfl c6
  have out:Out D X rd H Q E (repE D) (halt_ rs):=by
   cases rs with
   | nil =>
    have e:simple (n + 1) []=halt_ []:=by rw [simple]
    rw [e] at out;exact out
   | cons t r =>
    have si:=simple_is (n:=n) w
    generalize simple (n + 1) (t::r)=res at si out
    cases si with
    | num v e k=>exact absurd (show headK (t::r)∈_ by show kindS t.lex∈_;rw [k];decide) c1
    | quo x e k=>exact absurd (show headK (t::r)∈_ by show kindS t.lex∈_;rw [k];decide) c1
    | name x e u k=>exact absurd (show headK (t::r)∈_ by show kindS t.lex∈_;rw [k];decide) c1
    | yes k=>exact absurd (show headK (t::r)∈_ by show kindS t.lex∈_;rw [k];decide) c2
    | no k=>exact absurd (show headK (t::r)∈_ by show kindS t.lex∈_;rw [k];decide) c2
    | none k=>exact absurd (show headK (t::r)∈_ by show kindS t.lex∈_;rw [k];decide) c2
    | list k=>exact absurd k c3
    | brack k=>exact absurd k c4
    | fn k=>exact absurd k c5
    | prim p m k b l1 l3=>rw [show builtL.lookup (kindS t.lex)=none from c6] at b;cases b
    | bad k b=>exact out
  exact m_here Rb (raise_says out)
end
end Prg
end
section
set_option maxRecDepth 100000
set_option maxHeartbeats 4000000
namespace Prg
open PySem L2
open Vanbka (Bytes Lex reserved isSign isWord next nameNext wordNext eat b halt_ placeAt tooDeepAt Op Prim Way Exprs Fields Stmts opNext chain line simple reach listed more fields parts inBrackets function block statements statement)
abbrev sReadStatements:PySem.Stmt:=top 20
abbrev sReadBlock:PySem.Stmt:=top 21
abbrev sReadStatement:PySem.Stmt:=top 22
abbrev sReadBinding:PySem.Stmt:=top 23
abbrev sReadShowing:PySem.Stmt:=top 24
theorem con_wf{ts r:Toks}{z:Int}{m:Nat}(c:Cell.Con ts r z m)(w:WfL ts):WfL r:=by
 obtain ⟨p,rfl,_,_⟩:=c
 exact fun t ht=>w t (List.mem_append_right _ ht)
def appS:List Vanbka.Stmt→Stmts→Stmts
 | [],m=>m
 | e::l,m=>.cons e (appS l m)
theorem appS_snoc(l:List Vanbka.Stmt)(e:Vanbka.Stmt)(m:Stmts):appS (l ++ [e]) m=appS l (.cons e m):=by
 induction l with
 | nil=>rfl
 | cons x l ih=>exact congrArg (Stmts.cons x) ih
theorem nodes_appS(l:List Vanbka.Stmt):nodesS (appS l .nil)=l.map nodeS:=by
 induction l with
 | nil=>rfl
 | cons x l ih=>show nodeS x::_=nodeS x::_;rw [ih]
def showL:List Str:=["show", "table", "plot", "check", "do", "give"]
def wayL:Lex→Option Way
 | .word w=>if reserved.contains w then Vanbka.wayOf w else none
 | _=>none
def wayFits(z:Str):Option Way→Bool
 | some x=>decide (z∈showL) && decide (z=wayK x)
 | none=>decide (¬ z∈showL)
theorem way_fixed:∀ l∈fixedL,wayFits (kindS l) (wayL l)=true:=by decide +kernel
theorem way_next{ts:Toks}(w:WfL ts):wayFits (headK ts) ((wordNext ts).bind Vanbka.wayOf)=true:=by
 cases ts with
 | nil=>decide
 | cons t r =>
  obtain ⟨l,p,k⟩:=t
  have wl:Wf l:=w _ (.head _)
  have e2:(wordNext (⟨l,p,k⟩::r)).bind Vanbka.wayOf=wayL l:=by
   cases l with
   | word x =>
    show (if reserved.contains x then some x else none).bind Vanbka.wayOf=if reserved.contains x then Vanbka.wayOf x else none
    cases reserved.contains x <;> rfl
   | _=>rfl
  rw [e2]
  show wayFits (kindS l) (wayL l)=true
  rcases wf_cases wl with hf | ⟨x,rfl,u⟩ | ⟨v,rfl⟩ | ⟨x,rfl⟩
  ·exact way_fixed l hf
  ·rw [kind_name u]
   have:wayL (.word x)=none:=by show (if reserved.contains x then _ else none)=none;rw [u];rfl
   rw [this];decide
  ·show wayFits "NUMBER" none=true
   decide
  ·show wayFits "QUOTED" none=true
   decide
section
variable{P:Program}{w:World}{K:PySem.W.Frag}{mg:Str→Option Value}{base:Heap}{D:Ad}{N:Nat}
theorem scBlock:FnScope ["reader", "statements"] ["reader"] (defScope sReadBlock):=⟨rfl,rfl,rfl,by decide +kernel,rfl,by decide +kernel,by decide +kernel⟩
theorem ok_block(Kn:Known K mg "read_block" ["reader"] sReadBlock)(B:Base P w K mg base D)(I:Reads P w K mg base D N)(h:Nat) :
  Has P w K mg base (room h 8) "read_block" ["reader"] (spR D 1 (N + 1) h [] Any block (repSs D)):=by
 refine has_of (r:=7) Kn scBlock (fun _ _ _ _ q=>q.len) (fun _ _ _ _ q=>q.le) fun hh f cdv A outer s H vs Q E hr q=>?_
 obtain ⟨X,rd,rs,n,hn,rfl,pre,c0,out⟩:=q
 obtain ⟨R,dp,_,fu,sz⟩:=pre
 have cl:=B.rd.c.cl
 have nd:=scBlock.nd
 have r3:Room 3 _:=hr.mono (by omega)
 have GS:=I.stmts (h + 1) "}" (.inr rfl)
 refine ⟨_,(pss_cons (ps_expr (pe_hasM B.take cl r3 (pv 0) (pa_cons pe_str pa_nil)))
   (pss_cons (ps_set (i:=1) nd rfl (Or.inl rfl) (pe_has GS hr rfl (pa_cons (pv 0) (pa_cons pe_str pa_nil)) (rm_up hh (by decide))))
   (pss_cons (ps_expr (pe_hasM B.take cl r3 (pv 0) (pa_cons pe_str pa_nil)))
   (pss_one (ps_ret (pv 1)))))),?_⟩
 cases n with
 | zero=>omega
 | succ n =>
  rw [block] at out
  refine m_eat R (nxCo R.wfr) (out_eat out fun r1 he1 out _ H1 b1 R1=>?_)
  have op:next (isSign "{") rs=true:=by
   unfold eat at he1
   split at he1
   ·assumption
   ·cases he1
  have C1:Cell.Con rs r1 1 1:=con_ofE (by rw [← Cell.sw_co];exact Cell.res_eatS) he1
  have lC1:=C1.len
  have h24:h < 24:=by
   obtain ⟨t',r',e',_,_⟩:=Cell.next_cons op
   rw [e'] at op dp
   have:=Cell.deep_open (open_of op (by decide +kernel)) dp
   omega
  have out:Out D X rd H Q E (repSs D) (stmtsR "}" n r1 >>= fun p=>eat (isSign "}") p.2 >>= fun r=>pure (p.1,r)):=by
   unfold stmtsR
   cases hs:statements n r1 with
   | error l=>rw [hs] at out;exact out
   | ok p =>
    obtain ⟨ss,r2⟩:=p
    rw [hs] at out
    have w2:=con_wf (con_of ((Cell.fine n).statements r1) hs) R1.wfr
    have out:Out D X rd H Q E (repSs D) (eat (isSign "}") r2 >>= fun r=>pure (ss,r)):=out
    show Out D X rd H Q E (repSs D) ((if headK r2 = "}" then pure (ss,r2) else halt_ r2) >>= fun p=>eat (isSign "}") p.2 >>= fun r=>pure (p.1,r))
    by_cases c:headK r2 = "}"
    ·rw [if_pos c];exact out
    ·rw [if_neg c]
     unfold eat at out
     rw [nxCc w2,decide_eq_false c,if_neg Bool.false_ne_true] at out
     exact out
  refine ⟨_,rfl,X,rd,r1,n,by omega,rfl,⟨R1,dp1 C1 dp,by omega,by omega,sz⟩,trivial,out_call out fun ss r2 he2 out v H2 b2 R2 n2=>?_⟩
  refine m_eat R2 (nxCc R2.wfr) (out_eat out fun r3 he3 out _ H3 b3 R3=>?_)
  obtain ⟨a,vs,rfl,ha,lv,hN⟩:=n2
  have g:Same (Cut X.T H1 H2) (Cut X.T H H3):=(cut_part b1 R1).trans (cut_on_but R b3)
  exact ⟨_,rfl,out _ _ ((b1.trans b2).trans b3) R3 ⟨a,vs,rfl,g _ _ ha,lv,NodesAt.same g _ _ hN⟩⟩
theorem stmt_none{n:Nat}{r:Toks}(w:WfL r)(c:headK r = "END"∨headK r = "}"):statement (n + 1) r=halt_ r:=by
 have hw:(wordNext r).bind Vanbka.wayOf=none:=by
  have:=way_next w
  cases hx:(wordNext r).bind Vanbka.wayOf with
  | none=>rfl
  | some x =>
   rw [hx] at this
   have z:headK r∈showL:=of_decide_eq_true (Bool.and_eq_true_iff.mp this).1
   rcases c with c | c <;> rw [c] at z <;> exact absurd z (by decide)
 rw [statement]
 dsimp only
 rw [nw_let w,nw_set w,nw_if w,nw_while w,nw_for w,nw_slider w,nw_choice w,hw]
 rcases c with c | c <;> rw [c] <;> rfl
theorem stmts_stop{n:Nat}{r:Toks}(w:WfL r)(c:headK r = "END"∨headK r = "}"):statements (n + 1) r = .ok (.nil,r):=by
 rw [statements,nxCc w]
 cases r with
 | nil=>rfl
 | cons t r =>
  rcases c with c | c
  ·exact absurd c (kind_noEnd (w t (.head _)))
  ·rw [decide_eq_true c];rfl
theorem stmts_go{n:Nat}{r:Toks}(w:WfL r)(c1:headK r≠"END")(c2:headK r≠"}"):statements (n + 1) r=statement n r >>= fun p=>statements n p.2 >>= fun q=>pure (.cons p.1 q.1,q.2):=by
 rw [statements,nxCc w,decide_eq_false c2]
 cases r with
 | nil=>exact absurd rfl c1
 | cons t r=>rfl
theorem scStmts:FnScope ["reader", "closing", "statements", "place", "statement"] ["reader", "closing"] (defScope sReadStatements):=⟨rfl,rfl,rfl,by decide +kernel,rfl,by decide +kernel,by decide +kernel⟩
theorem ok_stmts{z:Str}(hz:z = "END"∨z = "}")(Kn:Known K mg "read_statements" ["reader", "closing"] sReadStatements)(B:Base P w K mg base D)(I:Reads P w K mg base D N)(h:Nat) :
  Has P w K mg base (room h 24) "read_statements" ["reader", "closing"] (spR D 2 (N + 1) h [.str z] Any (stmtsR z) (repSs D)):=by
 refine has_of (r:=23) Kn scStmts (fun _ _ _ _ q=>q.len) (fun _ _ _ _ q=>q.le) fun hh f cdv A outer s H vs Q E hr q=>?_
 obtain ⟨X,rd,rs,n,hn,rfl,pre,c0,out⟩:=q
 obtain ⟨R,dp,_,fu,sz⟩:=pre
 have cl:=B.rd.c.cl
 have nd:=scStmts.nd
 have r3:Room 3 _:=hr.mono (by omega)
 have G:=I.stmt h
 obtain ⟨_,_,TN,_⟩:=B.tree
 refine ⟨_,(pss_cons (ps_set (i:=2) nd rfl (Or.inl rfl) (pe_lst pa_nil))
   (pss_cons (ps_while ownF (pt_cmpR op_ne (pe_hasM0 B.look cl r3 (pv 0)) (pv 1) (nomark _))
    (pss_cons (ps_set (i:=3) nd rfl (Or.inl rfl) (pe_hasM0 B.here cl r3 (pv 0)))
    (pss_cons (ps_set (i:=4) nd rfl (Or.inl rfl) (pe_has G hr rfl (pa_cons (pv 0) pa_nil) (rm_same hh (by decide))))
    (pss_cons (ps_fld (pv 4) (pv 3) rfl)
    (pss_cons (ps_fld (pv 4) (pe_hasM0 B.last cl r3 (pv 0)) rfl)
    (pss_one (ps_expr (pe_bm PySem.F.plainAttrs_list PySem.F.slot_list_append PySem.F.type_list_append mt_append (pv 2) (pa_cons (pv 4) pa_nil)))))))))
   (pss_one (ps_ret (pv 2))))),?_⟩
 refine ⟨by decide,fun l ml=>?_⟩
 have mlT:=gone_T R.st ml
 have mlr:=R.ne ml
 have R1:RDa D X rd (upd H l (.lst [])) rs:=R.same (same_new ml _)
 have hal:=R.len
 refine ⟨fun m σ H'=>∃ (g:Nat) (r:Toks) (done:List Vanbka.Stmt) (vs:List V) (v3 v4:Option V),σ=[some (.ref rd),some (.str z),some (.ref l),v3,v4]∧But rd H H'∧RDa D X rd H' r∧tooDeepAt (h:Int) r=none∧16 * r.length + 2≤g∧g≤N + 1∧m=r.length∧H' l=some (.lst vs)∧NodesAt D.CN (Cut X.T (upd H l (.lst [])) H') (done.map nodeS) vs∧vs.length + r.length≤X.all.length∧
   Out D X rd H Q E (repSs D) (stmtsR z g r >>= fun p=>pure (appS done p.1,p.2)),
  ⟨_,n,rs,[],[],none,none,rfl,(But.refl rd H).then (same_new ml _),R1,dp,fu,hn,rfl,upd_same,nodes0,by simpa using hal,?_⟩,?_⟩
 ·have out:Out D X rd H Q E (repSs D) (stmtsR z n rs):=out
  cases hs:stmtsR z n rs with
  | error l=>rw [hs] at out;exact out
  | ok p=>rw [hs] at out;exact out
 rintro m σ H' ⟨g,r,done,vs,v3,v4,rfl,bt,R',dp',fg,gN,rfl,hl,hN,hsz,out⟩
 have w':=R'.wfr
 cases g with
 | zero=>omega
 | succ g =>
  refine m_look R' ⟨_,rfl,rfl,_,rfl,ite2 (fun c=>?_) (fun c=>?_)⟩
  ·have c:=sneT c
   refine ⟨fun σ H'=>∃ m,m < r.length∧∃ (g:Nat) (r:Toks) (done:List Vanbka.Stmt) (vs:List V) (v3 v4:Option V),σ=[some (.ref rd),some (.str z),some (.ref l),v3,v4]∧But rd H H'∧RDa D X rd H' r∧tooDeepAt (h:Int) r=none∧16 * r.length + 2≤g∧g≤N + 1∧m=r.length∧H' l=some (.lst vs)∧NodesAt D.CN (Cut X.T (upd H l (.lst [])) H') (done.map nodeS) vs∧vs.length + r.length≤X.all.length∧
    Out D X rd H Q E (repSs D) (stmtsR z g r >>= fun p=>pure (appS done p.1,p.2)),fun _ _ z=>z,?_⟩
   have out:Out D X rd H Q E (repSs D) (statement g r >>= fun p=>stmtsR z g p.2 >>= fun q=>pure (appS (done ++ [p.1]) q.1,q.2)):=by
    by_cases ce:headK r = "END"∨headK r = "}"
    ·unfold stmtsR at out
     rw [stmts_stop w' ce] at out
     cases g with
     | zero=>omega
     | succ g =>
      rw [stmt_none w' ce]
      have out:Out D X rd H Q E (repSs D) ((if headK r=z then pure (Stmts.nil,r) else halt_ r) >>= fun p=>pure (appS done p.1,p.2)):=out
      rw [if_neg c] at out
      exact out
    ·have ce:=not_or.mp ce
     unfold stmtsR at out
     rw [stmts_go w' ce.1 ce.2] at out
     cases h1:statement g r with
     | error l=>rw [h1] at out;exact out
     | ok p =>
      obtain ⟨st,r2⟩:=p
      rw [h1] at out
      show Out D X rd H Q E (repSs D) (stmtsR z g r2 >>= fun q=>pure (appS (done ++ [st]) q.1,q.2))
      unfold stmtsR
      have out:Out D X rd H Q E (repSs D) (((statements g r2 >>= fun q=>pure (.cons st q.1,q.2)) >>= fun p=>if headK p.2=z then pure (p.1,p.2) else halt_ p.2) >>= fun p=>pure (appS done p.1,p.2)):=out
      cases h2:statements g r2 with
      | error l=>rw [h2] at out;exact out
      | ok q =>
       obtain ⟨sl,r3⟩:=q
       rw [h2] at out
       have out:Out D X rd H Q E (repSs D) ((if headK r3=z then pure (Stmts.cons st sl,r3) else halt_ r3) >>= fun p=>pure (appS done p.1,p.2)):=out
       show Out D X rd H Q E (repSs D) ((if headK r3=z then pure (sl,r3) else halt_ r3) >>= fun q=>pure (appS (done ++ [st]) q.1,q.2))
       by_cases cz:headK r3=z
       ·rw [if_pos cz] at out ⊢
        show Out D X rd H Q E (repSs D) (.ok (appS (done ++ [st]) sl,r3))
        rw [appS_snoc]
        exact out
       ·rw [if_neg cz] at out ⊢
        exact out
   refine m_here R' ⟨_,rfl,X,rd,r,g,by omega,rfl,⟨R',dp',hh,by omega,sz⟩,trivial,out_call out fun st r2 he out v H2 b2 R2 n2=>?_⟩
   have C2:=con_of ((Cell.fine g).statement r) he
   have lC2:=C2.len
   obtain ⟨x,dx,k,a1,a2,a3,d,rfl,xT,xH',x2,nn⟩:=placed n2
   have xH:=gr_of bt R' x xH'
   have xr:=R'.ne xH'
   have xl:x≠l:=fun y=>by rw [y,hl] at xH';cases xH'
   obtain ⟨pp,pt,ea⟩:=R'.front R2 (by omega)
   refine ⟨_,rfl,_,rfl,x,D.CN,dx.d,_,rfl,x2,TN.c.cl,TN.c.no _ (by decide),(by show 7 < 1000;decide),?_⟩
   refine m_last (R2.updn xT xr) ea ⟨_,rfl,x,D.CN,dx.d,_,rfl,upd_same,TN.c.cl,TN.c.no _ (by decide),(by show 7 < 1000;decide),?_⟩
   rw [upd_upd]
   have n3:=nn (.int (placeAt X.all X.len r.length:Nat)) (.int ((pt.place + pt.len:Nat):Int))
   have b3:But rd H' (upd H2 x (.ins D.CN dx.d (treeF k a1 a2 a3 ⟨dx.d,.int (placeAt X.all X.len r.length:Nat),.int ((pt.place + pt.len:Nat):Int)⟩ d))):=b2.updn xH'
   have R3:RDa D X rd (upd H2 x (.ins D.CN dx.d (treeF k a1 a2 a3 ⟨dx.d,.int (placeAt X.all X.len r.length:Nat),.int ((pt.place + pt.len:Nat):Int)⟩ d))) r2:=R2.updn xT xr
   have hl3:=b3 _ _ hl mlr
   refine ⟨_,rfl,.inl ⟨rfl,_,SqL.of hl3⟩,_,rfl,l,_,_,rfl,rfl,hl3,(by show vs.length < 2 ^ 24;omega),r2.length,by omega,g,r2,done ++ [st],vs ++ [.ref x],_,_,rfl,(bt.trans b3).updn ml,R3.updn mlT mlr,dp0 C2 dp',by omega,by omega,rfl,upd_same,?_,by rw [List.length_append,List.length_singleton];omega,out⟩
   rw [List.map_append]
   exact NodesAt.snoc (NodeAt.same (acc_new bt R' hl) _ _ n3) _ _ (NodesAt.same (acc_old R1 upd_same b3) _ _ hN)
  ·have c:=sneF c
   have ce:headK r = "END"∨headK r = "}":=by rw [c];exact hz
   unfold stmtsR at out
   rw [stmts_stop w' ce] at out
   have out:Out D X rd H Q E (repSs D) ((if headK r=z then pure (Stmts.nil,r) else halt_ r) >>= fun p=>pure (appS done p.1,p.2)):=out
   rw [if_pos c] at out
   have out:Out D X rd H Q E (repSs D) (.ok (appS done .nil,r)):=out
   refine ⟨_,rfl,out _ _ bt R' ⟨l,vs,rfl,cut_new mlT ml hl,by omega,?_⟩⟩
   rw [nodes_appS]
   exact NodesAt.same acc_end _ _ hN
theorem scBind:FnScope ["reader", "kind", "name", "value"] ["reader"] (defScope sReadBinding):=⟨rfl,rfl,rfl,by decide +kernel,rfl,by decide +kernel,by decide +kernel⟩
theorem ok_bind(Kn:Known K mg "read_binding" ["reader"] sReadBinding)(B:Base P w K mg base D)(I:Reads P w K mg base D N)(h:Nat) :
  Has P w K mg base (room h 22) "read_binding" ["reader"] (spR D 1 (N + 1) h [] (fun rs=>headK rs∈(["let", "set"]:List Str)) statement (repS D)):=by
 refine has_of (r:=21) Kn scBind (fun _ _ _ _ q=>q.len) (fun _ _ _ _ q=>q.le) fun hh f cdv A outer s H vs Q E hr q=>?_
 obtain ⟨X,rd,rs,n,hn,rfl,pre,c0,out⟩:=q
 obtain ⟨R,dp,_,fu,sz⟩:=pre
 have cl:=B.rd.c.cl
 have nd:=scBind.nd
 have r3:Room 3 _:=hr.mono (by omega)
 have GE:=I.expr h
 refine ⟨_,(pss_cons (ps_set (i:=1) nd rfl (Or.inl rfl) (pe_hasM0 B.move cl r3 (pv 0)))
   (pss_cons (ps_set (i:=2) nd rfl (Or.inl rfl) (pe_hasM B.take cl r3 (pv 0) (pa_cons pe_str pa_nil)))
   (pss_cons (ps_expr (pe_hasM B.take cl r3 (pv 0) (pa_cons pe_str pa_nil)))
   (pss_cons (ps_set (i:=3) nd rfl (Or.inl rfl) (pe_has GE hr rfl (pa_cons (pv 0) pa_nil) (rm_same hh (by decide))))
   (pss_cons (ps_expr (pe_hasM B.take cl r3 (pv 0) (pa_cons pe_str pa_nil)))
   (pss_one (ps_ret (pe_tree B r3 rfl (pa_cons (pv 1) (pa_cons (pe_lst (pa_cons (pv 2) pa_nil)) (pa_cons (pe_lst (pa_cons (pv 3) pa_nil)) (pa_cons (pe_lst pa_nil) pa_nil)))))))))))),?_⟩
 have w:=R.wfr
 cases n with
 | zero=>omega
 | succ n =>
  cases rs with
  | nil=>exact absurd c0 (by decide)
  | cons t r =>
   have lr:(t::r).length=r.length + 1:=rfl
   have c0:kindS t.lex∈(["let", "set"]:List Str):=c0
   obtain ⟨mk,emk,C1,out⟩:∃ mk:Bytes→Vanbka.Expr→Vanbka.Stmt,(∀ x e,nodeS (mk x e) = .mk (kindS t.lex) [.bytes x] [nodeE e] [])∧Cell.Con (t::r) r 0 1∧Out D X rd H Q E (repS D) (Vanbka.name r >>= fun p=>eat (isSign "=") p.2 >>= fun r=>Vanbka.expr n r >>= fun q=>eat (isSign ";") q.2 >>= fun r=>pure (mk p.1 q.1,r)):=by
    rw [statement,nw_let w,nw_set w] at out
    simp only [List.mem_cons,List.not_mem_nil,or_false] at c0
    rcases c0 with c | c
    ·rw [show decide (headK (t::r) = "let")=true from decide_eq_true c,if_pos rfl] at out
     exact ⟨.leta,fun x e=>by rw [c];rfl,Cell.con_word (s := "let") (by rw [nw_let w];exact decide_eq_true c),out⟩
    ·rw [show decide (headK (t::r) = "let")=false by show decide (kindS t.lex = "let")=false;rw [c];decide,if_neg Bool.false_ne_true,show decide (headK (t::r) = "set")=true from decide_eq_true c,if_pos rfl] at out
     exact ⟨.seta,fun x e=>by rw [c];rfl,Cell.con_word (s := "set") (by rw [nw_set w];exact decide_eq_true c),out⟩
   refine m_move R fun H1 b1 R1=>?_
   refine m_name R1 (out_tok out fun x r2 he2 out v H2 b2 R2 lf=>?_)
   have C2:=con_of Cell.res_name he2
   have lC2:=C2.len
   refine m_eat R2 (nxEq R2.wfr) (out_eat out fun r3 he3 out _ H3 b3 R3=>?_)
   have C3:=con_ofE Cell.res_eatS he3
   have lC3:=C3.len
   have b03:=(b1.trans b2).trans b3
   refine ⟨_,rfl,X,rd,r3,n,by omega,rfl,⟨R3,dp0 C3 (dp0 C2 (dp0 C1 dp)),hh,by omega,sz⟩,trivial,out_call out fun e r4 he4 out v4 H4 b4 R4 n4=>?_⟩
   refine m_eat R4 (nxSemi R4.wfr) (out_eat out fun r5 he5 out _ H5 b5 R5=>?_)
   have b05:=(b03.trans b4).trans b5
   have g4:Same (Cut X.T H3 H4) (Cut X.T H H5):=(cut_part b03 R3).trans (cut_on_but R b5)
   refine ⟨_,rfl,_,rfl,(by show 1≤2 ^ 24;decide),fun l1 m1=>⟨_,rfl,(by show 1≤2 ^ 24;decide),fun l2 m2=>⟨by decide,fun l3 m3=>?_⟩⟩⟩
   refine tree3 (gr_of b05 R5) R5.st m1 m2 m3 ⟨(by show 1≤1000;decide),(by show 1≤1000;decide),by decide⟩ (.cons (LeafAt.same cut_tok lf) .nil) (nodes1 (NodeAt.same g4 _ _ n4)) blocks0 fun z H9 sm nd=>?_
   rw [← emk] at nd
   exact out _ _ (b05.then sm) (R5.same sm) nd
theorem scShow:FnScope ["reader", "kind", "value"] ["reader"] (defScope sReadShowing):=⟨rfl,rfl,rfl,by decide +kernel,rfl,by decide +kernel,by decide +kernel⟩
theorem ok_show(Kn:Known K mg "read_showing" ["reader"] sReadShowing)(B:Base P w K mg base D)(I:Reads P w K mg base D N)(h:Nat) :
  Has P w K mg base (room h 22) "read_showing" ["reader"] (spR D 1 (N + 1) h [] (fun rs=>headK rs∈showL) statement (repS D)):=by
 refine has_of (r:=21) Kn scShow (fun _ _ _ _ q=>q.len) (fun _ _ _ _ q=>q.le) fun hh f cdv A outer s H vs Q E hr q=>?_
 obtain ⟨X,rd,rs,n,hn,rfl,pre,c0,out⟩:=q
 obtain ⟨R,dp,_,fu,sz⟩:=pre
 have cl:=B.rd.c.cl
 have nd:=scShow.nd
 have r3:Room 3 _:=hr.mono (by omega)
 have GE:=I.expr h
 refine ⟨_,(pss_cons (ps_set (i:=1) nd rfl (Or.inl rfl) (pe_hasM0 B.move cl r3 (pv 0)))
   (pss_cons (ps_set (i:=2) nd rfl (Or.inl rfl) (pe_has GE hr rfl (pa_cons (pv 0) pa_nil) (rm_same hh (by decide))))
   (pss_cons (ps_expr (pe_hasM B.take cl r3 (pv 0) (pa_cons pe_str pa_nil)))
   (pss_one (ps_ret (pe_tree B r3 rfl (pa_cons (pv 1) (pa_cons (pe_lst pa_nil) (pa_cons (pe_lst (pa_cons (pv 2) pa_nil)) (pa_cons (pe_lst pa_nil) pa_nil)))))))))),?_⟩
 have w:=R.wfr
 cases n with
 | zero=>omega
 | succ n =>
  cases rs with
  | nil=>exact absurd c0 (by decide)
  | cons t r =>
   have lr:(t::r).length=r.length + 1:=rfl
   have wn:=way_next w
   cases hw:(wordNext (t::r)).bind Vanbka.wayOf with
   | none =>
    rw [hw] at wn
    exact absurd c0 (of_decide_eq_true wn)
   | some wy =>
    rw [hw] at wn
    have ek:kindS t.lex=wayK wy:=of_decide_eq_true (Bool.and_eq_true_iff.mp wn).2
    have C1:Cell.Con (t::r) r 0 1:=by
     have:=Cell.Con.one t r
     have z:Cell.bw t=0:=by
      cases hl:t.lex with
      | word x=>exact Cell.bw_word hl
      | _ =>
       obtain ⟨l,p,k⟩:=t
       have hl:l=_:=hl
       subst hl
       cases hw
     rw [z] at this
     exact this
    have out:Out D X rd H Q E (repS D) (Vanbka.expr n r >>= fun q=>eat (isSign ";") q.2 >>= fun r=>pure (.way wy q.1,r)):=by
     rw [statement,nw_let w,nw_set w,nw_if w,nw_while w,nw_for w,nw_slider w,nw_choice w,hw] at out
     have hk:headK (t::r)=wayK wy:=ek
     rw [hk] at out
     cases wy <;> exact out
    refine m_move R fun H1 b1 R1=>?_
    refine ⟨_,rfl,X,rd,r,n,by omega,rfl,⟨R1,dp0 C1 dp,hh,by omega,sz⟩,trivial,out_call out fun e r4 he4 out v4 H4 b4 R4 n4=>?_⟩
    refine m_eat R4 (nxSemi R4.wfr) (out_eat out fun r5 he5 out _ H5 b5 R5=>?_)
    have b05:=(b1.trans b4).trans b5
    have g4:Same (Cut X.T H1 H4) (Cut X.T H H5):=(cut_part b1 R1).trans (cut_on_but R b5)
    refine ⟨_,rfl,by decide,fun l1 m1=>⟨_,rfl,(by show 1≤2 ^ 24;decide),fun l2 m2=>⟨by decide,fun l3 m3=>?_⟩⟩⟩
    refine tree3 (gr_of b05 R5) R5.st m1 m2 m3 ⟨by decide,(by show 1≤1000;decide),by decide⟩ .nil (nodes1 (NodeAt.same g4 _ _ n4)) blocks0 fun z H9 sm nd=>?_
    rw [ek] at nd
    exact out _ _ (b05.then sm) (R5.same sm) nd
end
end Prg
end
section
set_option maxRecDepth 100000
set_option maxHeartbeats 4000000
namespace Prg
open PySem L2
open Vanbka (Bytes Lex reserved isSign isWord next nameNext wordNext eat b halt_ placeAt tooDeepAt Op Prim Way Exprs Fields Stmts opNext chain line simple reach listed more fields parts inBrackets function block statements statement)
abbrev sReadIf:PySem.Stmt:=top 25
abbrev sReadWhile:PySem.Stmt:=top 26
abbrev sReadFor:PySem.Stmt:=top 27
section
variable{P:Program}{w:World}{K:PySem.W.Frag}{mg:Str→Option Value}{base:Heap}{D:Ad}{N:Nat}
theorem none_of_but{X:Tx}{rd l:Addr}{H2 H3:Hp}{r:Toks}(b3:But rd H2 H3)(R2:RDa D X rd H2 r)(ne:l≠rd)(n:H3 l=none):H2 l=none:=by
 cases e:H2 l with
 | none=>rfl
 | some o=>rw [b3 _ _ e ne] at n;cases n
theorem block1{CN a:Addr}{H:Hp}{ws:List V}{l:List Node}(h:H a=some (.lst ws))(lw:ws.length≤700)(hN:NodesAt CN H l ws):BlocksAt CN H [l] [.ref a]:=⟨a,ws,[],rfl,h,by omega,hN,rfl⟩
theorem tree_blk{X:Tx}{rd l1 l2 l3 a:Addr}{H H1 H3:Hp}{r' r r0:Toks}{Q:Addr→Hp→Prop}{E:XK}{k:Str}{vls vps ws:List V}{ls:List Leaf}{ps:List Node}{ss:List Node}(b1:But rd H H1)(R1:RDa D X rd H1 r')(R:RDa D X rd H r0)(m1:H1 l1=none)(m2:upd H1 l1 (.lst vls) l2=none)
  (hl:Paired (LeafAt X.T) ls vls) (hp:NodesAt D.CN (Cut X.T H H1) ps vps) (sz:vls.length≤1000∧vps.length≤1000)
  (b3:But rd (upd (upd H1 l1 (.lst vls)) l2 (.lst vps)) H3) (R3:RDa D X rd H3 r) (ha:Cut X.T (upd (upd H1 l1 (.lst vls)) l2 (.lst vps)) H3 a=some (.lst ws)) (lw:ws.length≤700) (hN:NodesAt D.CN (Cut X.T (upd (upd H1 l1 (.lst vls)) l2 (.lst vps)) H3) ss ws)
  (m3:H3 l3=none) (q:∀ z H9,But rd H H9→RDa D X rd H9 r→NodeAt D.CN (Cut X.T H H9) (.mk k ls ps [ss]) (.ref z)→Q z H9) :
  ∀ z dx,upd H3 l3 (.lst [.ref a]) z=none→upd H3 l3 (.lst [.ref a]) dx=none→dx≠z→
   spNI D.CN [.ref z,.str k,.ref l1,.ref l2,.ref l3] (upd (upd (upd H3 l3 (.lst [.ref a])) dx (.own z)) z (.ins D.CN dx [])) (fun v H2=>v = .non∧Q z H2) E:=by
 have s1:Same H1 (upd H1 l1 (.lst vls)):=same_new m1 _
 have s2:Same (upd H1 l1 (.lst vls)) (upd (upd H1 l1 (.lst vls)) l2 (.lst vps)):=same_new m2 _
 have R2:=R1.same (s1.trans s2)
 have b2:=b1.then (s1.trans s2)
 have b03:=b2.trans b3
 have gr:=gr_of b03 R3
 have s3:Same H3 (upd H3 l3 (.lst [.ref a])):=same_new m3 _
 have m1r:=R1.ne m1
 have m2r:=(R1.same s1).ne m2
 have g:Same (Cut X.T (upd (upd H1 l1 (.lst vls)) l2 (.lst vps)) H3) (Cut X.T H (upd H3 l3 (.lst [.ref a]))):=(cut_part b2 R2).trans (cut_on_same s3)
 have gp:Same (Cut X.T H H1) (Cut X.T H (upd H3 l3 (.lst [.ref a]))):=cut_grow2 fun b o z1 z2=>⟨z1,s3 _ _ (b3 _ _ ((s1.trans s2) _ _ z2) (R.ne z1))⟩
 exact make_node (ls:=ls) (ps:=ps) (bs:=[ss]) (fun b z=>gr b (none_of_same s3 z)) (R3.st.trans s3) (cut_new (gone_T R1.st m1) (gr_of b1 R1 l1 m1) (s3 _ _ (b3 _ _ (s2 _ _ upd_same) m1r))) (cut_new (gone_T (R1.same s1).st m2) (gr_of b1 R1 l2 (none_of_same s1 m2)) (s3 _ _ (b3 _ _ upd_same m2r))) (cut_new (none_of_same R3.st m3) (gr _ m3) upd_same)
  ⟨sz.1,sz.2,(by show 1≤1000;decide)⟩ (Paired.mapP hl fun _ _ z=>LeafAt.same cut_tok z) (NodesAt.same gp _ _ hp) (block1 (g _ _ ha) lw (NodesAt.same g _ _ hN)) fun x H9 sm nd=>q x H9 (b03.then (s3.trans sm)) (R3.same (s3.trans sm)) nd
theorem scIf:FnScope ["reader", "condition", "blocks"] ["reader"] (defScope sReadIf):=⟨rfl,rfl,rfl,by decide +kernel,rfl,by decide +kernel,by decide +kernel⟩
theorem ok_if(Kn:Known K mg "read_if" ["reader"] sReadIf)(B:Base P w K mg base D)(I:Reads P w K mg base D N)(h:Nat) :
  Has P w K mg base (room h 22) "read_if" ["reader"] (spR D 1 (N + 1) h [] (fun rs=>headK rs = "if") statement (repS D)):=by
 refine has_of (r:=21) Kn scIf (fun _ _ _ _ q=>q.len) (fun _ _ _ _ q=>q.le) fun hh f cdv A outer s H vs Q E hr q=>?_
 obtain ⟨X,rd,rs,n,hn,rfl,pre,c0,out⟩:=q
 obtain ⟨R,dp,_,fu,sz⟩:=pre
 have cl:=B.rd.c.cl
 have nd:=scIf.nd
 have r3:Room 3 _:=hr.mono (by omega)
 have GE:=I.expr h
 have GB:=I.block h
 refine ⟨_,(pss_cons (ps_expr (pe_hasM B.take cl r3 (pv 0) (pa_cons pe_str pa_nil)))
   (pss_cons (ps_set (i:=1) nd rfl (Or.inl rfl) (pe_has GE hr rfl (pa_cons (pv 0) pa_nil) (rm_same hh (by decide))))
   (pss_cons (ps_set (i:=2) nd rfl (Or.inl rfl) (pe_lst (pa_cons (pe_has GB hr rfl (pa_cons (pv 0) pa_nil) (rm_same hh (by decide))) pa_nil)))
   (pss_cons (ps_if (pt_cmpR op_eq (pe_hasM0 B.look cl r3 (pv 0)) pe_str (nomark _)) (pss_cons (ps_expr (pe_hasM B.take cl r3 (pv 0) (pa_cons pe_str pa_nil)))
   (pss_one (ps_expr (pe_bm PySem.F.plainAttrs_list PySem.F.slot_list_append PySem.F.type_list_append mt_append (pv 2) (pa_cons (pe_has GB hr rfl (pa_cons (pv 0) pa_nil) (rm_same hh (by decide))) pa_nil))))) pss_nil)
   (pss_one (ps_ret (pe_tree B r3 rfl (pa_cons pe_str (pa_cons (pe_lst pa_nil) (pa_cons (pe_lst (pa_cons (pv 1) pa_nil)) (pa_cons (pv 2) pa_nil))))))))))),?_⟩
 have w:=R.wfr
 cases n with
 | zero=>omega
 | succ n =>
  obtain ⟨t,r,e1,e2,hk⟩:=head_cons c0 (by decide)
  subst e1
  have lr:(t::r).length=r.length + 1:=rfl
  have C1:Cell.Con (t::r) r 0 1:=Cell.con_word (s := "if") (by rw [nw_if w];exact decide_eq_true c0)
  rw [statement,nw_let w,nw_set w,nw_if w,nw_while w,nw_for w,nw_slider w,nw_choice w,c0] at out
  refine m_takeK R c0 fun _ H1 b1 R1 _=>?_
  have R1:RDa D X rd H1 r:=R1
  have out:Out D X rd H Q E (repS D) (Vanbka.expr n r >>= fun p=>block n p.2 >>= fun q=>if next (isWord "else") q.2 then (block n (q.2.drop 1) >>= fun u=>pure (.iffElse p.1 q.1 u.1,u.2)) else pure (.iff p.1 q.1,q.2)):=out
  refine ⟨_,rfl,X,rd,r,n,by omega,rfl,⟨R1,dp0 C1 dp,hh,by omega,sz⟩,trivial,out_call out fun c r2 he2 out v2 H2 b2 R2 n2=>?_⟩
  have C2:=con_of ((Cell.fine n).expr r) he2
  have lC2:=C2.len
  have b02:=b1.trans b2
  dsimp only at out
  refine ⟨_,rfl,X,rd,r2,n,by omega,rfl,⟨R2,dp0 C2 (dp0 C1 dp),hh,by omega,sz⟩,trivial,out_call out fun xs r3 he3 out v3 H3 b3 R3 n3=>?_⟩
  have C3:=con_of ((Cell.fine n).block r2) he3
  have lC3:=C3.len
  dsimp only at out
  obtain ⟨a3,ws,rfl,ha3,lw,hN3⟩:=n3
  have b03:=b02.trans b3
  refine ⟨(by show 1≤2 ^ 24;decide),fun l ml=>?_⟩
  have mlT:=gone_T R3.st ml
  have mlr:=R3.ne ml
  have mlH:=gr_of b03 R3 l ml
  have sl:Same H3 (upd H3 l (.lst [.ref a3])):=same_new ml _
  have R4:=R3.same sl
  have b04:=b03.then sl
  have Rb:RDa D X rd (upd H l (.lst [])) (t::r):=R.updn mlT mlr
  have nc4:NodeAt D.CN (Cut X.T (upd H l (.lst [])) (upd H3 l (.lst [.ref a3]))) (nodeE c) v2:=NodeAt.same (cut_grow2 fun b o z1 z2=>by
   have n1:b≠l:=fun y=>by rw [y] at z2;rw [(none_of_but b3 R2 mlr ml)] at z2;cases z2
   exact ⟨by rw [upd_ne n1];exact gr_of b1 R1 b z1,by rw [upd_ne n1];exact b3 _ _ z2 (R1.ne z1)⟩) _ _ n2
  have g34:Same (Cut X.T H2 H3) (Cut X.T (upd H l (.lst [])) (upd H3 l (.lst [.ref a3]))):=cut_grow2 fun b o z1 z2=>by
   have n1:b≠l:=fun y=>by rw [y,ml] at z2;cases z2
   exact ⟨by rw [upd_ne n1];exact gr_of b02 R2 b z1,by rw [upd_ne n1];exact z2⟩
  have hB4:BlocksAt D.CN (Cut X.T (upd H l (.lst [])) (upd H3 l (.lst [.ref a3]))) [nodesS xs] [.ref a3]:=block1 (g34 _ _ ha3) lw (NodesAt.same g34 _ _ hN3)
  rw [nw_else R3.wfr] at out
  refine m_look R4 ⟨rfl,_,rfl,ite2 (fun ce=>?_) (fun ce=>?_)⟩
  ·have ce:=seqT ce
   rw [decide_eq_true ce,if_pos rfl] at out
   obtain ⟨t5,r5,e5,e6,_⟩:=head_cons ce (by decide)
   have len5:r3.length=r5.length + 1:=by rw [e5];rfl
   have C5:Cell.Con r3 (r3.drop 1) 0 1:=Cell.con_word (s := "else") (by rw [nw_else R3.wfr];exact decide_eq_true ce)
   rw [e6] at out C5
   refine m_takeK R4 ce fun _ H5 b5 R5 _=>?_
   rw [e6] at R5
   have hl5:H5 l=some (.lst [.ref a3]):=b5 _ _ upd_same mlr
   have b05:=b04.trans b5
   refine ⟨_,rfl,.inl ⟨rfl,_,SqL.of hl5⟩,_,rfl,X,rd,r5,n,by omega,rfl,⟨R5,dp0 C5 (dp0 C3 (dp0 C2 (dp0 C1 dp))),hh,by omega,sz⟩,trivial,out_call out fun ys r6 he6 out v6 H6 b6 R6 n6=>?_⟩
   obtain ⟨a6,us,rfl,ha6,lu,hN6⟩:=n6
   have hl6:H6 l=some (.lst [.ref a3]):=b6 _ _ hl5 mlr
   refine ⟨l,_,_,rfl,rfl,hl6,(by show 1 < 2 ^ 24;decide),?_⟩
   have g4:Same (Cut X.T (upd H l (.lst [])) (upd H3 l (.lst [.ref a3]))) (Cut X.T (upd H l (.lst [])) (upd H6 l (.lst ([.ref a3] ++ [.ref a6])))):=acc_old Rb upd_same (b5.trans b6)
   have g6:Same (Cut X.T H5 H6) (Cut X.T (upd H l (.lst [])) (upd H6 l (.lst ([.ref a3] ++ [.ref a6])))):=acc_new b05 R5 hl5
   have by_:But rd H (upd H6 l (.lst ([.ref a3] ++ [.ref a6]))):=(b05.trans b6).updn mlH
   have Ry:RDa D X rd (upd H6 l (.lst ([.ref a3] ++ [.ref a6]))) r6:=R6.updn mlT mlr
   have hly:(upd H6 l (.lst ([.ref a3] ++ [.ref a6]))) l=some (.lst ([.ref a3] ++ [.ref a6])):=upd_same
   have nc:=NodeAt.same (acc_end (T:=X.T) (H:=H) (l:=l) (o:=.lst [])) _ _ (NodeAt.same g4 _ _ nc4)
   have hB:BlocksAt D.CN (Cut X.T H (upd H6 l (.lst ([.ref a3] ++ [.ref a6])))) [nodesS xs,nodesS ys] ([.ref a3] ++ [.ref a6]):=by
    refine BlocksAt.same (acc_end (T:=X.T) (H:=H) (l:=l) (o:=.lst [])) _ _ ?_
    obtain ⟨a,ws',rr,ea,h1,h2,h3,h4⟩:=BlocksAt.same g4 _ _ hB4
    cases ea
    exact ⟨a3,ws',[.ref a6],rfl,h1,h2,h3,block1 (g6 _ _ ha6) lu (NodesAt.same g6 _ _ hN6)⟩
   refine ⟨by decide,fun l1 m1=>⟨_,rfl,(by show 1≤2 ^ 24;decide),fun l2 m2=>?_⟩⟩
   have s1:Same (upd H6 l (.lst ([.ref a3] ++ [.ref a6]))) (upd (upd H6 l (.lst ([.ref a3] ++ [.ref a6]))) l1 (.lst [])):=same_new m1 _
   have s2:Same (upd (upd H6 l (.lst ([.ref a3] ++ [.ref a6]))) l1 (.lst [])) (upd (upd (upd H6 l (.lst ([.ref a3] ++ [.ref a6]))) l1 (.lst [])) l2 (.lst [v2])):=same_new m2 _
   have gr:=gr_of by_ Ry
   refine ⟨_,rfl,?_⟩
   exact make_node (ls:=[]) (ps:=[nodeE c]) (bs:=[nodesS xs,nodesS ys]) (fun b z=>gr b (none_of_same (s1.trans s2) z)) (Ry.st.trans (s1.trans s2)) (cut_new (none_of_same Ry.st m1) (gr _ m1) (s2 _ _ upd_same)) (cut_new (none_of_same (Ry.st.trans s1) m2) (gr _ (none_of_same s1 m2)) upd_same) (cut_new mlT mlH ((s1.trans s2) _ _ hly))
    ⟨by decide,(by show 1≤1000;decide),(by show 2≤1000;decide)⟩ .nil (nodes1 (NodeAt.same ((cut_on_same (s1.trans s2))) _ _ nc)) (BlocksAt.same (cut_on_same (s1.trans s2)) _ _ hB) fun z H9 sm nd=>out _ _ (by_.then ((s1.trans s2).trans sm)) (Ry.same ((s1.trans s2).trans sm)) nd
  ·have ce:=seqF ce
   rw [decide_eq_false ce,if_neg Bool.false_ne_true] at out
   have by_:=b04
   have Ry:=R4
   have hly:(upd H3 l (.lst [.ref a3])) l=some (.lst [.ref a3]):=upd_same
   have nc:=NodeAt.same (acc_end (T:=X.T) (H:=H) (l:=l) (o:=.lst [])) _ _ nc4
   have hB:=BlocksAt.same (acc_end (T:=X.T) (H:=H) (l:=l) (o:=.lst [])) _ _ hB4
   refine ⟨by decide,fun l1 m1=>⟨_,rfl,(by show 1≤2 ^ 24;decide),fun l2 m2=>?_⟩⟩
   have s1:Same (upd H3 l (.lst [.ref a3])) (upd (upd H3 l (.lst [.ref a3])) l1 (.lst [])):=same_new m1 _
   have s2:Same (upd (upd H3 l (.lst [.ref a3])) l1 (.lst [])) (upd (upd (upd H3 l (.lst [.ref a3])) l1 (.lst [])) l2 (.lst [v2])):=same_new m2 _
   have gr:=gr_of by_ Ry
   refine ⟨_,rfl,?_⟩
   exact make_node (ls:=[]) (ps:=[nodeE c]) (bs:=[nodesS xs]) (fun b z=>gr b (none_of_same (s1.trans s2) z)) (Ry.st.trans (s1.trans s2)) (cut_new (none_of_same Ry.st m1) (gr _ m1) (s2 _ _ upd_same)) (cut_new (none_of_same (Ry.st.trans s1) m2) (gr _ (none_of_same s1 m2)) upd_same) (cut_new mlT mlH ((s1.trans s2) _ _ hly))
    ⟨by decide,(by show 1≤1000;decide),(by show 1≤1000;decide)⟩ .nil (nodes1 (NodeAt.same ((cut_on_same (s1.trans s2))) _ _ nc)) (BlocksAt.same (cut_on_same (s1.trans s2)) _ _ hB) fun z H9 sm nd=>out _ _ (by_.then ((s1.trans s2).trans sm)) (Ry.same ((s1.trans s2).trans sm)) nd
theorem scWhile:FnScope ["reader", "condition"] ["reader"] (defScope sReadWhile):=⟨rfl,rfl,rfl,by decide +kernel,rfl,by decide +kernel,by decide +kernel⟩
theorem ok_while(Kn:Known K mg "read_while" ["reader"] sReadWhile)(B:Base P w K mg base D)(I:Reads P w K mg base D N)(h:Nat) :
  Has P w K mg base (room h 22) "read_while" ["reader"] (spR D 1 (N + 1) h [] (fun rs=>headK rs = "while") statement (repS D)):=by
 refine has_of (r:=21) Kn scWhile (fun _ _ _ _ q=>q.len) (fun _ _ _ _ q=>q.le) fun hh f cdv A outer s H vs Q E hr q=>?_
 obtain ⟨X,rd,rs,n,hn,rfl,pre,c0,out⟩:=q
 obtain ⟨R,dp,_,fu,sz⟩:=pre
 have cl:=B.rd.c.cl
 have nd:=scWhile.nd
 have r3:Room 3 _:=hr.mono (by omega)
 have GE:=I.expr h
 have GB:=I.block h
 refine ⟨_,(pss_cons (ps_expr (pe_hasM B.take cl r3 (pv 0) (pa_cons pe_str pa_nil)))
   (pss_cons (ps_set (i:=1) nd rfl (Or.inl rfl) (pe_has GE hr rfl (pa_cons (pv 0) pa_nil) (rm_same hh (by decide))))
   (pss_one (ps_ret (pe_tree B r3 rfl (pa_cons pe_str (pa_cons (pe_lst pa_nil) (pa_cons (pe_lst (pa_cons (pv 1) pa_nil)) (pa_cons (pe_lst (pa_cons (pe_has GB hr rfl (pa_cons (pv 0) pa_nil) (rm_same hh (by decide))) pa_nil)) pa_nil))))))))),?_⟩
 have w:=R.wfr
 cases n with
 | zero=>omega
 | succ n =>
  obtain ⟨t,r,e1,e2,hk⟩:=head_cons c0 (by decide)
  subst e1
  have lr:(t::r).length=r.length + 1:=rfl
  have C1:Cell.Con (t::r) r 0 1:=Cell.con_word (s := "while") (by rw [nw_while w];exact decide_eq_true c0)
  rw [statement,nw_let w,nw_set w,nw_if w,nw_while w,nw_for w,nw_slider w,nw_choice w,c0] at out
  refine m_takeK R c0 fun _ H1 b1 R1 _=>?_
  have R1:RDa D X rd H1 r:=R1
  have out:Out D X rd H Q E (repS D) (Vanbka.expr n r >>= fun p=>block n p.2 >>= fun q=>pure (.while_ p.1 q.1,q.2)):=out
  refine ⟨_,rfl,X,rd,r,n,by omega,rfl,⟨R1,dp0 C1 dp,hh,by omega,sz⟩,trivial,out_call out fun c r2 he2 out v2 H2 b2 R2 n2=>?_⟩
  have C2:=con_of ((Cell.fine n).expr r) he2
  have lC2:=C2.len
  have b02:=b1.trans b2
  refine ⟨by decide,fun l1 m1=>⟨_,rfl,(by show 1≤2 ^ 24;decide),fun l2 m2=>?_⟩⟩
  have s12:Same H2 (upd (upd H2 l1 (.lst [])) l2 (.lst [v2])):=(same_new m1 _).trans (same_new m2 _)
  refine ⟨_,rfl,X,rd,r2,n,by omega,rfl,⟨R2.same s12,dp0 C2 (dp0 C1 dp),hh,by omega,sz⟩,trivial,out_call out fun xs r3 he3 out v3 H3 b3 R3 n3=>?_⟩
  obtain ⟨a3,ws,rfl,ha3,lw,hN3⟩:=n3
  exact ⟨(by show 1≤2 ^ 24;decide),fun l3 m3=>tree_blk b02 R2 R m1 m2 .nil (nodes1 (NodeAt.same (cut_part b1 R1) _ _ n2)) ⟨by decide,(by show 1≤1000;decide)⟩ b3 R3 ha3 lw hN3 m3 fun z H9 b9 R9 nd=>out _ _ b9 R9 nd⟩
theorem scFor:FnScope ["reader", "name", "walked"] ["reader"] (defScope sReadFor):=⟨rfl,rfl,rfl,by decide +kernel,rfl,by decide +kernel,by decide +kernel⟩
theorem ok_for(Kn:Known K mg "read_for" ["reader"] sReadFor)(B:Base P w K mg base D)(I:Reads P w K mg base D N)(h:Nat) :
  Has P w K mg base (room h 22) "read_for" ["reader"] (spR D 1 (N + 1) h [] (fun rs=>headK rs = "for") statement (repS D)):=by
 refine has_of (r:=21) Kn scFor (fun _ _ _ _ q=>q.len) (fun _ _ _ _ q=>q.le) fun hh f cdv A outer s H vs Q E hr q=>?_
 obtain ⟨X,rd,rs,n,hn,rfl,pre,c0,out⟩:=q
 obtain ⟨R,dp,_,fu,sz⟩:=pre
 have cl:=B.rd.c.cl
 have nd:=scFor.nd
 have r3:Room 3 _:=hr.mono (by omega)
 have GE:=I.expr h
 have GB:=I.block h
 refine ⟨_,(pss_cons (ps_expr (pe_hasM B.take cl r3 (pv 0) (pa_cons pe_str pa_nil)))
   (pss_cons (ps_set (i:=1) nd rfl (Or.inl rfl) (pe_hasM B.take cl r3 (pv 0) (pa_cons pe_str pa_nil)))
   (pss_cons (ps_expr (pe_hasM B.take cl r3 (pv 0) (pa_cons pe_str pa_nil)))
   (pss_cons (ps_set (i:=2) nd rfl (Or.inl rfl) (pe_has GE hr rfl (pa_cons (pv 0) pa_nil) (rm_same hh (by decide))))
   (pss_one (ps_ret (pe_tree B r3 rfl (pa_cons pe_str (pa_cons (pe_lst (pa_cons (pv 1) pa_nil)) (pa_cons (pe_lst (pa_cons (pv 2) pa_nil)) (pa_cons (pe_lst (pa_cons (pe_has GB hr rfl (pa_cons (pv 0) pa_nil) (rm_same hh (by decide))) pa_nil)) pa_nil))))))))))),?_⟩
 have w:=R.wfr
 cases n with
 | zero=>omega
 | succ n =>
  obtain ⟨t,r,e1,e2,hk⟩:=head_cons c0 (by decide)
  subst e1
  have lr:(t::r).length=r.length + 1:=rfl
  have C1:Cell.Con (t::r) r 0 1:=Cell.con_word (s := "for") (by rw [nw_for w];exact decide_eq_true c0)
  rw [statement,nw_let w,nw_set w,nw_if w,nw_while w,nw_for w,nw_slider w,nw_choice w,c0] at out
  refine m_takeK R c0 fun _ H1 b1 R1 _=>?_
  have R1:RDa D X rd H1 r:=R1
  have out:Out D X rd H Q E (repS D) (Vanbka.name r >>= fun x=>eat (isWord "in") x.2 >>= fun r=>Vanbka.expr n r >>= fun p=>block n p.2 >>= fun q=>pure (.for x.1 p.1 q.1,q.2)):=out
  refine m_name R1 (out_tok out fun x ra hea out va Ha ba Ra lf=>?_)
  have Ca:=con_of Cell.res_name hea
  have lCa:=Ca.len
  refine m_eat Ra (nw_in Ra.wfr) (out_eat out fun rb heb out _ Hb bb Rb=>?_)
  have Cb:=con_ofE Cell.res_eatW heb
  have lCb:=Cb.len
  have b0b:=(b1.trans ba).trans bb
  refine ⟨_,rfl,X,rd,rb,n,by omega,rfl,⟨Rb,dp0 Cb (dp0 Ca (dp0 C1 dp)),hh,by omega,sz⟩,trivial,out_call out fun c r2 he2 out v2 H2 b2 R2 n2=>?_⟩
  have C2:=con_of ((Cell.fine n).expr rb) he2
  have lC2:=C2.len
  have b02:=b0b.trans b2
  refine ⟨_,rfl,(by show 1≤2 ^ 24;decide),fun l1 m1=>⟨_,rfl,(by show 1≤2 ^ 24;decide),fun l2 m2=>?_⟩⟩
  have s12:Same H2 (upd (upd H2 l1 (.lst [va])) l2 (.lst [v2])):=(same_new m1 _).trans (same_new m2 _)
  refine ⟨_,rfl,X,rd,r2,n,by omega,rfl,⟨R2.same s12,dp0 C2 (dp0 Cb (dp0 Ca (dp0 C1 dp))),hh,by omega,sz⟩,trivial,out_call out fun xs r3 he3 out v3 H3 b3 R3 n3=>?_⟩
  obtain ⟨a3,ws,rfl,ha3,lw,hN3⟩:=n3
  exact ⟨(by show 1≤2 ^ 24;decide),fun l3 m3=>tree_blk b02 R2 R m1 m2 (.cons lf .nil) (nodes1 (NodeAt.same (cut_part b0b Rb) _ _ n2)) ⟨(by show 1≤1000;decide),(by show 1≤1000;decide)⟩ b3 R3 ha3 lw hN3 m3 fun z H9 b9 R9 nd=>out _ _ b9 R9 nd⟩
end
end Prg
end
section
set_option maxRecDepth 100000
set_option maxHeartbeats 4000000
namespace Prg
open PySem L2
open Vanbka (Bytes Lex reserved isSign isWord next nameNext wordNext eat b halt_ placeAt tooDeepAt Op Prim Way Exprs Fields Stmts opNext chain line simple reach listed more fields parts inBrackets function block statements statement)
abbrev sReadSlider:PySem.Stmt:=top 28
abbrev sReadChoice:PySem.Stmt:=top 30
def sgnP:Nat→Vanbka.Tok→Bool
 | 0=>isSign "="
 | 1=>isWord "in"
 | _=>isSign ","
def sgnK:Nat→Str
 | 0 => "="
 | 1 => "in"
 | _ => ","
theorem nxSgn(i:Nat){rs:Toks}(h:WfL rs):next (sgnP i) rs=decide (headK rs=sgnK i):=by
 match i with
 | 0=>exact nxEq h
 | 1=>exact nw_in h
 | _ + 2=>exact nxComma h
theorem sgn_ne(i:Nat):sgnK i≠"END":=by
 match i with
 | 0=>decide
 | 1=>decide
 | _ + 2=>exact (show (",":Str)≠"END" by decide)
def slR(x:Bytes):Nat→List Int→Toks→Except Nat (Vanbka.Stmt×Toks)
 | 0,_,r=>eat (isSign "=") r >>= fun r=>Vanbka.whole r >>= fun v=>eat (isWord "in") v.2 >>= fun r=>Vanbka.whole r >>= fun lo=>eat (isSign ",") lo.2 >>= fun r=>Vanbka.whole r >>= fun hi=>eat (isSign ";") hi.2 >>= fun r=>pure (.slider x v.1 lo.1 hi.1,r)
 | 1,d,r=>eat (isWord "in") r >>= fun r=>Vanbka.whole r >>= fun lo=>eat (isSign ",") lo.2 >>= fun r=>Vanbka.whole r >>= fun hi=>eat (isSign ";") hi.2 >>= fun r=>pure (.slider x (d.getD 0 0) lo.1 hi.1,r)
 | 2,d,r=>eat (isSign ",") r >>= fun r=>Vanbka.whole r >>= fun hi=>eat (isSign ";") hi.2 >>= fun r=>pure (.slider x (d.getD 0 0) (d.getD 1 0) hi.1,r)
 | _,d,r=>eat (isSign ";") r >>= fun r=>pure (.slider x (d.getD 0 0) (d.getD 1 0) (d.getD 2 0),r)
theorem slR_step{x:Bytes}{i:Nat}{d:List Int}{r:Toks}(hi:i < 3)(hd:d.length=i):slR x i d r=eat (sgnP i) r >>= fun r=>Vanbka.whole r >>= fun p=>slR x (i + 1) (d ++ [p.1]) p.2:=by
 match i,d,hi,hd with
 | 0,[],_,_=>rfl
 | 1,[a],_,_=>rfl
 | 2,[a,b],_,_=>rfl
section
variable{P:Program}{w:World}{K:PySem.W.Frag}{mg:Str→Option Value}{base:Heap}{D:Ad}{N:Nat}
theorem scSlider:FnScope ["reader", "leaves", "sign"] ["reader"] (defScope sReadSlider):=⟨rfl,rfl,rfl,by decide +kernel,rfl,by decide +kernel,by decide +kernel⟩
theorem ok_slider(Kn:Known K mg "read_slider" ["reader"] sReadSlider)(B:Base P w K mg base D)(GW:Has P w K mg base 4 "read_whole" ["reader"] (spWhole D))(I:Reads P w K mg base D N)(h:Nat) :
  Has P w K mg base (room h 22) "read_slider" ["reader"] (spR D 1 (N + 1) h [] (fun rs=>headK rs = "slider") statement (repS D)):=by
 refine has_of (r:=21) Kn scSlider (fun _ _ _ _ q=>q.len) (fun _ _ _ _ q=>q.le) fun hh f cdv A outer s H vs Q E hr q=>?_
 obtain ⟨X,rd,rs,n,hn,rfl,pre,c0,out⟩:=q
 obtain ⟨R,dp,_,fu,sz⟩:=pre
 have cl:=B.rd.c.cl
 have nd:=scSlider.nd
 have r3:Room 3 _:=hr.mono (by omega)
 have GE:=I.expr h
 have GB:=I.block h
 refine ⟨_,(pss_cons (ps_expr (pe_hasM B.take cl r3 (pv 0) (pa_cons pe_str pa_nil)))
   (pss_cons (ps_set (i:=1) nd rfl (Or.inl rfl) (pe_lst (pa_cons (pe_hasM B.take cl r3 (pv 0) (pa_cons pe_str pa_nil)) pa_nil)))
   (pss_cons (ps_for ownF rfl (pi_tup (pe_tup (pa_cons pe_str (pa_cons pe_str (pa_cons pe_str pa_nil))))) (pg_name (i:=2) nd rfl (Or.inl rfl)) (pss_cons (ps_expr (pe_hasM B.take cl r3 (pv 0) (pa_cons (pv 2) pa_nil)))
   (pss_one (ps_expr (pe_bm PySem.F.plainAttrs_list PySem.F.slot_list_append PySem.F.type_list_append mt_append (pv 1) (pa_cons (pe_has GW hr rfl (pa_cons (pv 0) pa_nil) (by omega)) pa_nil))))))
   (pss_cons (ps_expr (pe_hasM B.take cl r3 (pv 0) (pa_cons pe_str pa_nil)))
   (pss_one (ps_ret (pe_tree B r3 rfl (pa_cons pe_str (pa_cons (pv 1) (pa_cons (pe_lst pa_nil) (pa_cons (pe_lst pa_nil) pa_nil))))))))))),?_⟩
 have w:=R.wfr
 cases n with
 | zero=>omega
 | succ n =>
  obtain ⟨t,r,e1,e2,hk⟩:=head_cons c0 (by decide)
  subst e1
  have lr:(t::r).length=r.length + 1:=rfl
  have C1:Cell.Con (t::r) r 0 1:=Cell.con_word (s := "slider") (by rw [nw_slider w];exact decide_eq_true c0)
  rw [statement,nw_let w,nw_set w,nw_if w,nw_while w,nw_for w,nw_slider w,nw_choice w,c0] at out
  refine m_takeK R c0 fun _ H1 b1 R1 _=>?_
  have R1:RDa D X rd H1 r:=R1
  have out:Out D X rd H Q E (repS D) (Vanbka.name r >>= fun p=>slR p.1 0 [] p.2):=out
  refine m_name R1 (out_tok out fun x r2 he2 out v H2 b2 R2 lf=>?_)
  have b02:=b1.trans b2
  dsimp only at out
  refine ⟨(by show 1≤2 ^ 24;decide),fun l ml=>?_⟩
  have mlT:=gone_T R2.st ml
  have mlr:=R2.ne ml
  have mlH:=gr_of b02 R2 l ml
  have sl:Same H2 (upd H2 l (.lst [v])):=same_new ml _
  refine ⟨by decide,fun tp mt=>?_⟩
  have mtr:=(R2.same sl).ne mt
  have mtl:tp≠l:=fun y=>by
   have mt:upd H2 l (.lst [v]) tp=none:=mt
   rw [y,upd_same] at mt;cases mt
  have st:Same (upd H2 l (.lst [v])) (upd (upd H2 l (.lst [v])) tp (.tup [.str "=",.str "in",.str ","])):=same_new mt _
  refine ⟨tp,rfl,⟨_,SqT.of upd_same⟩,fun i m σ H'=>∃ (r:Toks) (done:List Int) (vs:List V) (v2:Option V),σ=[some (.ref rd),some (.ref l),v2]∧But rd H H'∧RDa D X rd H' r∧m=3 - i∧i≤3∧H' l=some (.lst vs)∧H' tp=some (.tup [.str "=",.str "in",.str ","])∧done.length=i∧Paired (LeafAt X.T) (.bytes x::done.map Leaf.int) vs∧Out D X rd H Q E (repS D) (slR x i done r),
   ⟨_,r2,[],[v],none,rfl,b02.then (sl.trans st),R2.same (sl.trans st),rfl,Nat.zero_le _,st _ _ upd_same,upd_same,rfl,.cons lf .nil,out⟩,?_⟩
  rintro i m σ H' ⟨r,done,vs,v2,rfl,bt,R',rfl,hi,hl,ht,hd,hU,out⟩
  have hv:=(Paired.len hU)
  rw [List.length_cons,List.length_map,hd] at hv
  by_cases h3:i < 3
  ·have hx:([.str "=",.str "in",.str ","]:List V)[i]? = some (.str (sgnK i)):=by
    match i,h3 with
    | 0,_=>rfl
    | 1,_=>rfl
    | 2,_=>rfl
   refine .inr ⟨⟨_,_,SqT.of ht,hx⟩,fun σ H'=>∃ m,m < 3 - i∧∃ (r:Toks) (done:List Int) (vs:List V) (v2:Option V),σ=[some (.ref rd),some (.ref l),v2]∧But rd H H'∧RDa D X rd H' r∧m=3 - (i + 1)∧i + 1≤3∧H' l=some (.lst vs)∧H' tp=some (.tup [.str "=",.str "in",.str ","])∧done.length=i + 1∧Paired (LeafAt X.T) (.bytes x::done.map Leaf.int) vs∧Out D X rd H Q E (repS D) (slR x (i + 1) done r),fun _ _ z=>z,?_⟩
   rintro y H2' ⟨rfl,hy⟩
   have ey:=hy _ (SqT.of ht)
   rw [hx] at ey
   cases ey
   rw [slR_step h3 hd] at out
   refine m_eat R' (nxSgn i R'.wfr) (out_eat out fun r3 he3 out _ H3 b3 R3=>?_) (sgn_ne i) (fun _ q=>⟨_,rfl,q⟩)
   have hl3:=b3 _ _ hl mlr
   have ht3:=b3 _ _ ht mtr
   refine ⟨_,rfl,.inl ⟨rfl,_,SqL.of hl3⟩,_,rfl,X,rd,r3,rfl,R3,out_tok out fun z r4 he4 out v4 H4 b4 R4 e4=>?_⟩
   have hl4:=b4 _ _ hl3 mlr
   have ht4:=b4 _ _ ht3 mtr
   refine ⟨l,_,_,rfl,rfl,hl4,(by show vs.length < 2 ^ 24;omega),3 - (i + 1),by omega,r4,done ++ [z],vs ++ [v4],_,rfl,((bt.trans b3).trans b4).updn mlH,R4.updn mlT mlr,rfl,h3,upd_same,by rw [upd_ne mtl];exact ht4,by rw [List.length_append,List.length_singleton];omega,?_,out⟩
   rw [List.map_append]
   exact Paired.snoc hU e4
  ·have e3:i=3:=by omega
   subst e3
   match done,hd with
   | [d0,d1,d2],_ =>
    refine .inl ⟨⟨_,SqT.of ht,by decide⟩,?_⟩
    have out:Out D X rd H Q E (repS D) (eat (isSign ";") r >>= fun r=>pure (.slider x d0 d1 d2,r)):=out
    refine m_eat R' (nxSemi R'.wfr) (out_eat out fun r5 he5 out _ H5 b5 R5=>?_)
    have b05:=bt.trans b5
    have hl5:=b5 _ _ hl mlr
    refine ⟨_,rfl,by decide,fun l2 m2=>⟨by decide,fun l3 m3=>?_⟩⟩
    have gr:=gr_of b05 R5
    have s1:Same H5 (upd H5 l2 (.lst [])):=same_new m2 _
    have s2:Same (upd H5 l2 (.lst [])) (upd (upd H5 l2 (.lst [])) l3 (.lst [])):=same_new m3 _
    exact make_node (ls:=[.bytes x,.int d0,.int d1,.int d2]) (ps:=[]) (bs:=[]) (fun b z=>gr b (none_of_same (s1.trans s2) z)) (R5.st.trans (s1.trans s2)) (cut_new mlT mlH ((s1.trans s2) _ _ hl5)) (cut_new (none_of_same R5.st m2) (gr _ m2) (s2 _ _ upd_same)) (cut_new (none_of_same (R5.st.trans s1) m3) (gr _ (none_of_same s1 m3)) upd_same) ⟨by omega,by decide,by decide⟩ (Paired.mapP hU fun _ _ z=>LeafAt.same cut_tok z) nodes0 blocks0 fun z H9 sm nd=>out _ _ (b05.then ((s1.trans s2).trans sm)) (R5.same ((s1.trans s2).trans sm)) nd
theorem scChoice:FnScope ["reader", "leaves"] ["reader"] (defScope sReadChoice):=⟨rfl,rfl,rfl,by decide +kernel,rfl,by decide +kernel,by decide +kernel⟩
theorem ok_choice(Kn:Known K mg "read_choice" ["reader"] sReadChoice)(B:Base P w K mg base D)(GV:Has P w K mg base 4 "read_leaves" ["reader", "kind"] (spLeaves D "QUOTED" Vanbka.quoted Vanbka.quotedMore))(I:Reads P w K mg base D N)(h:Nat) :
  Has P w K mg base (room h 22) "read_choice" ["reader"] (spR D 1 (N + 1) h [] (fun rs=>headK rs = "choice") statement (repS D)):=by
 refine has_of (r:=21) Kn scChoice (fun _ _ _ _ q=>q.len) (fun _ _ _ _ q=>q.le) fun hh f cdv A outer s H vs Q E hr q=>?_
 obtain ⟨X,rd,rs,n,hn,rfl,pre,c0,out⟩:=q
 obtain ⟨R,dp,_,fu,sz⟩:=pre
 have cl:=B.rd.c.cl
 have nd:=scChoice.nd
 have r3:Room 3 _:=hr.mono (by omega)
 have GE:=I.expr h
 have GB:=I.block h
 refine ⟨_,(pss_cons (ps_expr (pe_hasM B.take cl r3 (pv 0) (pa_cons pe_str pa_nil)))
   (pss_cons (ps_set (i:=1) nd rfl (Or.inl rfl) (pe_lst (pa_cons (pe_hasM B.take cl r3 (pv 0) (pa_cons pe_str pa_nil)) pa_nil)))
   (pss_cons (ps_expr (pe_hasM B.take cl r3 (pv 0) (pa_cons pe_str pa_nil)))
   (pss_cons (ps_expr (pe_bm PySem.F.plainAttrs_list PySem.F.slot_list_append PySem.F.type_list_append mt_append (pv 1) (pa_cons (pe_hasM B.take cl r3 (pv 0) (pa_cons pe_str pa_nil)) pa_nil)))
   (pss_cons (ps_expr (pe_hasM B.take cl r3 (pv 0) (pa_cons pe_str pa_nil)))
   (pss_cons (ps_expr (pe_bm PySem.F.plainAttrs_list PySem.F.slot_list_extend PySem.F.type_list_extend mt_extend (pv 1) (pa_cons (pe_has GV hr rfl (pa_cons (pv 0) (pa_cons pe_str pa_nil)) (by omega)) pa_nil)))
   (pss_cons (ps_expr (pe_hasM B.take cl r3 (pv 0) (pa_cons pe_str pa_nil)))
   (pss_one (ps_ret (pe_tree B r3 rfl (pa_cons pe_str (pa_cons (pv 1) (pa_cons (pe_lst pa_nil) (pa_cons (pe_lst pa_nil) pa_nil)))))))))))))),?_⟩
 have w:=R.wfr
 cases n with
 | zero=>omega
 | succ n =>
  obtain ⟨t,r,e1,e2,hk⟩:=head_cons c0 (by decide)
  subst e1
  have lr:(t::r).length=r.length + 1:=rfl
  have C1:Cell.Con (t::r) r 0 1:=Cell.con_word (s := "choice") (by rw [nw_choice w];exact decide_eq_true c0)
  rw [statement,nw_let w,nw_set w,nw_if w,nw_while w,nw_for w,nw_slider w,nw_choice w,c0] at out
  refine m_takeK R c0 fun _ H1 b1 R1 _=>?_
  have R1:RDa D X rd H1 r:=R1
  have out:Out D X rd H Q E (repS D) (Vanbka.name r >>= fun x=>eat (isSign "=") x.2 >>= fun r=>Vanbka.number r >>= fun v=>eat (isWord "in") v.2 >>= fun r=>leavesR Vanbka.quoted Vanbka.quotedMore r >>= fun l=>eat (isSign ";") l.2 >>= fun r=>pure (.choice x.1 v.1 l.1,r)):=by
   have out:Out D X rd H Q E (repS D) (Vanbka.name r >>= fun x=>eat (isSign "=") x.2 >>= fun r=>Vanbka.number r >>= fun v=>eat (isWord "in") v.2 >>= fun r=>Vanbka.quoted r >>= fun o=>Vanbka.quotedMore o.2.length o.2 >>= fun l=>eat (isSign ";") l.2 >>= fun r=>pure (.choice x.1 v.1 (o.1::l.1),r)):=out
   cases h1:Vanbka.name r with
   | error z=>rw [h1] at out;exact out
   | ok x =>
    rw [h1] at out
    have out:Out D X rd H Q E (repS D) (eat (isSign "=") x.2 >>= fun r=>Vanbka.number r >>= fun v=>eat (isWord "in") v.2 >>= fun r=>Vanbka.quoted r >>= fun o=>Vanbka.quotedMore o.2.length o.2 >>= fun l=>eat (isSign ";") l.2 >>= fun r=>pure (.choice x.1 v.1 (o.1::l.1),r)):=out
    show Out D X rd H Q E (repS D) (eat (isSign "=") x.2 >>= _)
    cases h2:eat (isSign "=") x.2 with
    | error z=>rw [h2] at out;exact out
    | ok r2 =>
     rw [h2] at out
     have out:Out D X rd H Q E (repS D) (Vanbka.number r2 >>= fun v=>eat (isWord "in") v.2 >>= fun r=>Vanbka.quoted r >>= fun o=>Vanbka.quotedMore o.2.length o.2 >>= fun l=>eat (isSign ";") l.2 >>= fun r=>pure (.choice x.1 v.1 (o.1::l.1),r)):=out
     show Out D X rd H Q E (repS D) (Vanbka.number r2 >>= _)
     cases h3:Vanbka.number r2 with
     | error z=>rw [h3] at out;exact out
     | ok v =>
      rw [h3] at out
      have out:Out D X rd H Q E (repS D) (eat (isWord "in") v.2 >>= fun r=>Vanbka.quoted r >>= fun o=>Vanbka.quotedMore o.2.length o.2 >>= fun l=>eat (isSign ";") l.2 >>= fun r=>pure (.choice x.1 v.1 (o.1::l.1),r)):=out
      show Out D X rd H Q E (repS D) (eat (isWord "in") v.2 >>= _)
      cases h4:eat (isWord "in") v.2 with
      | error z=>rw [h4] at out;exact out
      | ok r4 =>
       rw [h4] at out
       have out:Out D X rd H Q E (repS D) (Vanbka.quoted r4 >>= fun o=>Vanbka.quotedMore o.2.length o.2 >>= fun l=>eat (isSign ";") l.2 >>= fun r=>pure (.choice x.1 v.1 (o.1::l.1),r)):=out
       show Out D X rd H Q E (repS D) (leavesR Vanbka.quoted Vanbka.quotedMore r4 >>= fun l=>eat (isSign ";") l.2 >>= fun r=>pure (.choice x.1 v.1 l.1,r))
       unfold leavesR
       cases h5:Vanbka.quoted r4 with
       | error z=>rw [h5] at out;exact out
       | ok o =>
        rw [h5] at out
        obtain ⟨o1,o2⟩:=o
        have out:Out D X rd H Q E (repS D) (Vanbka.quotedMore o2.length o2 >>= fun l=>eat (isSign ";") l.2 >>= fun r=>pure (.choice x.1 v.1 (o1::l.1),r)):=out
        show Out D X rd H Q E (repS D) ((Vanbka.quotedMore o2.length o2 >>= fun l=>pure (o1::l.1,l.2)) >>= fun l=>eat (isSign ";") l.2 >>= fun r=>pure (.choice x.1 v.1 l.1,r))
        cases h6:Vanbka.quotedMore o2.length o2 with
        | error z=>rw [h6] at out;exact out
        | ok l=>rw [h6] at out;exact out
  refine m_name R1 (out_tok out fun x r2 he2 out v H2 b2 R2 lf=>?_)
  have b02:=b1.trans b2
  refine ⟨(by show 1≤2 ^ 24;decide),fun l ml=>?_⟩
  have mlT:=gone_T R2.st ml
  have mlr:=R2.ne ml
  have Rbase:RDa D X rd (upd H l (.lst [])) (t::r):=R.updn mlT mlr
  have mlH:=gr_of b02 R2 l ml
  have sl:Same H2 (upd H2 l (.lst [v])):=same_new ml _
  have R2':=R2.same sl
  have b02':=b02.then sl
  refine m_eat R2' (nxEq R2'.wfr) (out_eat out fun r3 he3 out _ H3 b3 R3=>?_)
  have hl3:H3 l=some (.lst [v]):=b3 _ _ upd_same mlr
  refine ⟨_,rfl,.inl ⟨rfl,_,SqL.of hl3⟩,?_⟩
  refine m_number R3 (out_tok out fun k r4 he4 out v4 H4 b4 R4 e4=>?_)
  have hl4:H4 l=some (.lst [v]):=b4 _ _ hl3 mlr
  refine ⟨l,_,_,rfl,rfl,hl4,(by show 1 < 2 ^ 24;decide),?_⟩
  have b04:But rd H (upd H4 l (.lst ([v] ++ [v4]))):=((b02'.trans b3).trans b4).updn mlH
  have R4':RDa D X rd (upd H4 l (.lst ([v] ++ [v4]))) r4:=R4.updn mlT mlr
  refine m_eat R4' (nw_in R4'.wfr) (out_eat out fun r5 he5 out _ H5 b5 R5=>?_)
  have hl5:H5 l=some (.lst ([v] ++ [v4])):=b5 _ _ upd_same mlr
  have b05:=b04.trans b5
  refine ⟨_,rfl,.inl ⟨rfl,_,SqL.of hl5⟩,_,rfl,X,rd,r5,rfl,R5,sz,out_call out fun qs r he6 out v6 H6 b6 R6 n6=>?_⟩
  obtain ⟨a6,us,rfl,ha6,lu,hu6⟩:=n6
  have hl6:H6 l=some (.lst ([v] ++ [v4])):=b6 _ _ hl5 mlr
  have ha6':H6 a6=some (.lst us):=cut_sub R6.st _ _ ha6
  refine ⟨l,a6,_,_,rfl,rfl,hl6,ha6',(by show 2 + us.length≤2 ^ 24;omega),?_⟩
  have bt:But rd H (upd H6 l (.lst (([v] ++ [v4]) ++ us))):=(b05.trans b6).updn mlH
  have R':RDa D X rd (upd H6 l (.lst (([v] ++ [v4]) ++ us))) r:=R6.updn mlT mlr
  have hl:(upd H6 l (.lst (([v] ++ [v4]) ++ us))) l=some (.lst (([v] ++ [v4]) ++ us)):=upd_same
  have hU:Paired (LeafAt (Cut X.T (upd H l (.lst [])) (upd H6 l (.lst (([v] ++ [v4]) ++ us))))) (.bytes x :: .int (k:Nat)::qs.map Leaf.bytes) (([v] ++ [v4]) ++ us) :=
   .cons (LeafAt.same cut_tok lf) (.cons e4 (Paired.mapP hu6 fun _ _ z=>LeafAt.same (acc_new b05 R5 hl5) z))
  refine m_eat R' (nxSemi R'.wfr) (out_eat out fun r7 he7 out _ H7 b7 R7=>?_)
  have b07:=bt.trans b7
  have hl7:=b7 _ _ hl mlr
  refine ⟨_,rfl,by decide,fun l2 m2=>⟨by decide,fun l3 m3=>?_⟩⟩
  have gr:=gr_of b07 R7
  have s1:Same H7 (upd H7 l2 (.lst [])):=same_new m2 _
  have s2:Same (upd H7 l2 (.lst [])) (upd (upd H7 l2 (.lst [])) l3 (.lst [])):=same_new m3 _
  exact make_node (ls:=.bytes x :: .int (k:Nat)::qs.map Leaf.bytes) (ps:=[]) (bs:=[]) (fun b z=>gr b (none_of_same (s1.trans s2) z)) (R7.st.trans (s1.trans s2)) (cut_new mlT mlH ((s1.trans s2) _ _ hl7)) (cut_new (none_of_same R7.st m2) (gr _ m2) (s2 _ _ upd_same)) (cut_new (none_of_same (R7.st.trans s1) m3) (gr _ (none_of_same s1 m3)) upd_same) ⟨(by show (v::v4::us).length≤1000;rw [List.length_cons,List.length_cons];omega),by decide,by decide⟩ (Paired.mapP hU fun _ _ z=>LeafAt.same ((cut_on_but Rbase b7).trans ((cut_on_same (s1.trans s2)).trans acc_end)) z) nodes0 blocks0 fun z H9 sm nd=>out _ _ (b07.then ((s1.trans s2).trans sm)) (R7.same ((s1.trans s2).trans sm)) nd
theorem scStmt:FnScope ["reader", "kind"] ["reader"] (defScope sReadStatement):=⟨rfl,rfl,rfl,by decide +kernel,rfl,by decide +kernel,by decide +kernel⟩
theorem ok_stmt(Kn:Known K mg "read_statement" ["reader"] sReadStatement)(B:Base P w K mg base D)(W:KTup K mg "SHOWING" (showL.map V.str))
  (G1:∀ h,Has P w K mg base (room h 22) "read_binding" ["reader"] (spR D 1 (N + 1) h [] (fun rs=>headK rs∈(["let", "set"]:List Str)) statement (repS D)))
  (G2:∀ h,Has P w K mg base (room h 22) "read_showing" ["reader"] (spR D 1 (N + 1) h [] (fun rs=>headK rs∈showL) statement (repS D)))
  (G3:∀ h,Has P w K mg base (room h 22) "read_if" ["reader"] (spR D 1 (N + 1) h [] (fun rs=>headK rs = "if") statement (repS D)))
  (G4:∀ h,Has P w K mg base (room h 22) "read_while" ["reader"] (spR D 1 (N + 1) h [] (fun rs=>headK rs = "while") statement (repS D)))
  (G5:∀ h,Has P w K mg base (room h 22) "read_for" ["reader"] (spR D 1 (N + 1) h [] (fun rs=>headK rs = "for") statement (repS D)))
  (G6:∀ h,Has P w K mg base (room h 22) "read_slider" ["reader"] (spR D 1 (N + 1) h [] (fun rs=>headK rs = "slider") statement (repS D)))
  (G7:∀ h,Has P w K mg base (room h 22) "read_choice" ["reader"] (spR D 1 (N + 1) h [] (fun rs=>headK rs = "choice") statement (repS D))) (h:Nat) :
  Has P w K mg base (room h 23) "read_statement" ["reader"] (spR D 1 (N + 1) h [] Any statement (repS D)):=by
 refine has_of (r:=22) Kn scStmt (fun _ _ _ _ q=>q.len) (fun _ _ _ _ q=>q.le) fun hh f cdv A outer s H vs Q E hr q=>?_
 obtain ⟨X,rd,rs,n,hn,rfl,pre,c0,out⟩:=q
 obtain ⟨R,dp,_,fu,sz⟩:=pre
 have cl:=B.rd.c.cl
 have nd:=scStmt.nd
 have r3:Room 3 _:=hr.mono (by omega)
 have G1:=G1 h
 have G2:=G2 h
 have G3:=G3 h
 have G4:=G4 h
 have G5:=G5 h
 have G6:=G6 h
 have G7:=G7 h
 obtain ⟨wa,mW,sW⟩:=W
 obtain ⟨fI,fdI,T⟩:=B.fault
 refine ⟨_,(pss_cons (ps_set (i:=1) nd rfl (Or.inl rfl) (pe_hasM0 B.look cl r3 (pv 0)))
   (pss_cons (ps_if (pt_cmpR op_in_seq (pv 1) (pe_tup (pa_cons pe_str (pa_cons pe_str pa_nil))) rfl) (pss_one (ps_ret (pe_has G1 hr rfl (pa_cons (pv 0) pa_nil) (rm_same hh (by decide))))) pss_nil)
   (pss_cons (ps_if (pt_cmpR op_in_seq (pv 1) (pe_cr mW rfl) rfl) (pss_one (ps_ret (pe_has G2 hr rfl (pa_cons (pv 0) pa_nil) (rm_same hh (by decide))))) pss_nil)
   (pss_cons (ps_if (pt_cmpR op_eq (pv 1) pe_str (nomark _)) (pss_one (ps_ret (pe_has G3 hr rfl (pa_cons (pv 0) pa_nil) (rm_same hh (by decide))))) pss_nil)
   (pss_cons (ps_if (pt_cmpR op_eq (pv 1) pe_str (nomark _)) (pss_one (ps_ret (pe_has G4 hr rfl (pa_cons (pv 0) pa_nil) (rm_same hh (by decide))))) pss_nil)
   (pss_cons (ps_if (pt_cmpR op_eq (pv 1) pe_str (nomark _)) (pss_one (ps_ret (pe_has G5 hr rfl (pa_cons (pv 0) pa_nil) (rm_same hh (by decide))))) pss_nil)
   (pss_cons (ps_if (pt_cmpR op_eq (pv 1) pe_str (nomark _)) (pss_one (ps_ret (pe_has G6 hr rfl (pa_cons (pv 0) pa_nil) (rm_same hh (by decide))))) pss_nil)
   (pss_cons (ps_if (pt_cmpR op_eq (pv 1) pe_str (nomark _)) (pss_one (ps_ret (pe_has G7 hr rfl (pa_cons (pv 0) pa_nil) (rm_same hh (by decide))))) pss_nil)
   (pss_one (ps_fault T (r3.mono (by decide)) rfl (pa_cons (pe_ci B.cNo rfl) (pa_cons (pe_hasM0 B.here cl r3 (pv 0)) pa_nil)))))))))))),?_⟩
 have w:=R.wfr
 have out:Out D X rd H Q E (repS D) (statement n rs):=out
 refine m_look R ⟨_,rfl,by decide,fun p1 np1=>⟨p1,_,rfl,.inr (SqT.of upd_same),rfl,rfl,_,rfl,?_⟩⟩
 have sp1:Same H (upd H p1 (.tup [.str "let",.str "set"])):=same_new np1 _
 rw [if_neg Bool.false_ne_true,show inV (.str (headK rs)) [.str "let",.str "set"]=decide (headK rs∈(["let", "set"]:List Str)) from inV_strs _ ["let", "set"]]
 generalize upd H p1 (.tup [.str "let",.str "set"])=Ha at sp1
 have Ra:=R.same sp1
 have ba:But rd H Ha:=(But.refl rd H).then sp1
 have go:∀ {res:Except Nat (Vanbka.Stmt×Toks)},Out D X rd H Q E (repS D) res→Out D X rd Ha Q E (repS D) res:=by
  intro res out
  cases res with
  | error l=>exact out
  | ok p=>exact fun v H2 b2 R2 nn=>out v H2 (ba.trans b2) R2 (NodeAt.same (cut_part ba Ra) _ _ nn)
 refine ite2 (fun c=>?_) (fun c1=>?_)
 ·exact ⟨_,rfl,X,rd,rs,n,hn,rfl,⟨Ra,dp,hh,fu,sz⟩,of_decide_eq_true c,go out⟩
 have c1:¬ headK rs∈(["let", "set"]:List Str):=fun z=>c1 (decide_eq_true z)
 refine ⟨_,rfl,wa,_,rfl,.inr (sW _),rfl,by decide,_,rfl,?_⟩
 rw [if_neg Bool.false_ne_true,inV_strs]
 refine ite2 (fun c=>?_) (fun c2=>?_)
 ·exact ⟨_,rfl,X,rd,rs,n,hn,rfl,⟨Ra,dp,hh,fu,sz⟩,of_decide_eq_true c,go out⟩
 have c2:¬ headK rs∈showL:=fun z=>c2 (decide_eq_true z)
 refine ⟨_,rfl,rfl,_,rfl,ite2 (fun c=>?_) (fun c3=>?_)⟩
 ·exact ⟨_,rfl,X,rd,rs,n,hn,rfl,⟨Ra,dp,hh,fu,sz⟩,seqT c,go out⟩
 refine ⟨_,rfl,rfl,_,rfl,ite2 (fun c=>?_) (fun c4=>?_)⟩
 ·exact ⟨_,rfl,X,rd,rs,n,hn,rfl,⟨Ra,dp,hh,fu,sz⟩,seqT c,go out⟩
 refine ⟨_,rfl,rfl,_,rfl,ite2 (fun c=>?_) (fun c5=>?_)⟩
 ·exact ⟨_,rfl,X,rd,rs,n,hn,rfl,⟨Ra,dp,hh,fu,sz⟩,seqT c,go out⟩
 refine ⟨_,rfl,rfl,_,rfl,ite2 (fun c=>?_) (fun c6=>?_)⟩
 ·exact ⟨_,rfl,X,rd,rs,n,hn,rfl,⟨Ra,dp,hh,fu,sz⟩,seqT c,go out⟩
 refine ⟨_,rfl,rfl,_,rfl,ite2 (fun c=>?_) (fun c7=>?_)⟩
 ·exact ⟨_,rfl,X,rd,rs,n,hn,rfl,⟨Ra,dp,hh,fu,sz⟩,seqT c,go out⟩
 have hw:(wordNext rs).bind Vanbka.wayOf=none:=by
  have:=way_next w
  cases hx:(wordNext rs).bind Vanbka.wayOf with
  | none=>rfl
  | some x =>
   rw [hx] at this
   exact absurd (of_decide_eq_true (Bool.and_eq_true_iff.mp this).1) c2
 cases n with
 | zero=>omega
 | succ n =>
  have d1:headK rs≠"let":=fun z=>c1 (by rw [z];decide)
  have d2:headK rs≠"set":=fun z=>c1 (by rw [z];decide)
  rw [statement] at out
  dsimp only at out
  rw [nw_let w,nw_set w,nw_if w,nw_while w,nw_for w,nw_slider w,nw_choice w,hw,decide_eq_false d1,decide_eq_false d2,decide_eq_false (seqF c3),decide_eq_false (seqF c4),decide_eq_false (seqF c5),decide_eq_false (seqF c6),decide_eq_false (seqF c7)] at out
  exact m_here Ra (raise_says out)
end
end Prg
end
section
set_option maxRecDepth 100000
set_option maxHeartbeats 4000000
namespace Prg
open PySem L2
open Vanbka (Bytes Lex reserved isSign isWord next nameNext wordNext eat b halt_ placeAt tooDeepAt Op Prim Way Exprs Fields Stmts opNext chain line simple reach listed more fields parts inBrackets function block statements statement)
abbrev sReadProgram:PySem.Stmt:=top 19
abbrev sReadGood:PySem.Stmt:=top 80
abbrev sCheckBrackets:PySem.Stmt:=top 82
abbrev sCheckDepth:PySem.Stmt:=top 83
structure Text(K:PySem.W.Frag)(mg:Str→Option Value):Prop where
 kExpr:Known K mg "read_expression" ["reader"] sReadExpr
 kJoined:Known K mg "read_joined" ["reader", "strength"] sReadJoined
 kSigned:Known K mg "read_signed" ["reader"] sReadSigned
 kReached:Known K mg "read_reached" ["reader"] sReadReached
 kReach:Known K mg "read_reach" ["reader", "left"] sReadReach
 kListed:Known K mg "read_listed" ["reader", "closing"] sReadListed
 kSimple:Known K mg "read_simple" ["reader"] sReadSimple
 kBrack:Known K mg "read_bracketed" ["reader"] sReadBracketed
 kRecord:Known K mg "read_record" ["reader"] sReadRecord
 kFn:Known K mg "read_function" ["reader"] sReadFunction
 kBuilt:Known K mg "read_built_in" ["reader"] sReadBuiltIn
 kBlock:Known K mg "read_block" ["reader"] sReadBlock
 kStmts:Known K mg "read_statements" ["reader", "closing"] sReadStatements
 kStmt:Known K mg "read_statement" ["reader"] sReadStatement
 kBind:Known K mg "read_binding" ["reader"] sReadBinding
 kShow:Known K mg "read_showing" ["reader"] sReadShowing
 kIf:Known K mg "read_if" ["reader"] sReadIf
 kWhile:Known K mg "read_while" ["reader"] sReadWhile
 kFor:Known K mg "read_for" ["reader"] sReadFor
 kSlider:Known K mg "read_slider" ["reader"] sReadSlider
 kChoice:Known K mg "read_choice" ["reader"] sReadChoice
section
variable{P:Program}{w:World}{K:PySem.W.Frag}{mg:Str→Option Value}{base:Heap}{D:Ad}{N:Nat}
theorem has_vac{x:Str}{ps:List Str}{st:PySem.Stmt}{k:Nat}{sp:Sp}(Kn:Known K mg x ps st)(h:∀ vs H Q E,sp vs H Q E→False):Has P w K mg base k x ps sp:=by
 obtain ⟨f,fd,F,bi,kp,m⟩:=Kn
 exact ⟨f,fd,⟨fun _ _ _ _ z=>(h _ _ _ _ z).elim,fun _ _ _ _ _ _ _ _ _ _ _ _ _ z=>(h _ _ _ _ z).elim⟩,bi,kp,m⟩
theorem spR.zero{α:Type}{r h:Nat}{xs:List V}{G:Toks→Prop}{F:Nat→Toks→Except Nat (α×Toks)}{rep:Hp→α→V→Prop}(hr:1≤r):∀ vs H Q E,spR D r 0 h xs G F rep vs H Q E→False:=by
 rintro vs H Q E ⟨X,rd,rs,n,hn,_,p,_⟩
 have:=p.fu
 omega
theorem joined_all(T:Text K mg)(B:Base P w K mg base D)(Jo:Has P w K mg base 1 "joins_at" ["kind", "strength"] spJoins)(I:Reads P w K mg base D N)(h k:Nat)(k1:1≤k)(k8:k≤8) :
  Has P w K mg base (room h (21 - k)) "read_joined" ["reader", "strength"] (spR D (11 - k) (N + 1) h [.int (k:Nat)] Any (fun n=>line n k) (repE D)):=by
 have e:21 - k=20 - k + 1:=by omega
 rw [e]
 by_cases c8:k=8
 ·subst c8
  exact ok_joinedK T.kJoined B Jo k1 k8 (ok_signed T.kSigned B I h) (fun _=>rfl) (rm_any (by decide)) (has_none T.kJoined) (fun z=>absurd z (by decide)) (Nat.zero_le _) (has_none T.kJoined) (fun z=>absurd z (by decide)) (Nat.zero_le _)
 ·have Jn:=I.line h (k + 1) (by omega) (by omega)
  by_cases c3:k≤3
  ·exact ok_joinedK T.kJoined B Jo k1 k8 (has_none T.kSigned) (fun z=>absurd z c8) (Nat.zero_le _) (I.line h 4 (by decide) (by decide)) (fun _=>rfl) (rm_any (by omega)) Jn (fun _=>rfl) (rm_any (by omega))
  ·exact ok_joinedK T.kJoined B Jo k1 k8 (has_none T.kSigned) (fun z=>absurd z c8) (Nat.zero_le _) (has_none T.kJoined) (fun z=>absurd z c3) (Nat.zero_le _) Jn (fun _=>rfl) (rm_any (by omega))
theorem reads(T:Text K mg)(B:Base P w K mg base D)(Jo:Has P w K mg base 1 "joins_at" ["kind", "strength"] spJoins)(GW:Has P w K mg base 4 "read_whole" ["reader"] (spWhole D))(GV:Has P w K mg base 4 "read_leaves" ["reader", "kind"] (spLeaves D "NAME" Vanbka.name Vanbka.namesMore))
  (GQ:Has P w K mg base 4 "read_leaves" ["reader", "kind"] (spLeaves D "QUOTED" Vanbka.quoted Vanbka.quotedMore)) (U:BuiltAt w K mg) (W:KTup K mg "SHOWING" (showL.map V.str)):∀ N,Reads P w K mg base D N:=by
 intro N
 induction N with
 | zero =>
  exact ⟨fun h=>has_vac T.kExpr (spR.zero (by decide)),fun h k k1 k8=>has_vac T.kJoined (spR.zero (by omega)),fun h=>has_vac T.kReached (spR.zero (by decide)),fun h=>has_vac T.kSimple (spR.zero (by decide)),fun h=>has_vac T.kBlock (spR.zero (by decide)),
   fun h z _=>has_vac T.kStmts (spR.zero (by decide)),fun h=>has_vac T.kStmt (spR.zero (by decide))⟩
 | succ N I =>
  have GLp:=fun h=>ok_listed close_p T.kListed B I h
  have GLb:=fun h=>ok_listed close_b T.kListed B I h
  exact ⟨fun h=>ok_expr T.kExpr B I h,fun h k k1 k8=>joined_all T B Jo I h k k1 k8,fun h=>ok_reached T.kReached B I (fun h=>ok_reach T.kReach B I GLp h) h,
   fun h=>ok_simple T.kSimple B U GLb (fun h=>ok_brack T.kBrack B I (fun h=>ok_record T.kRecord B I h) h) (fun h=>ok_fn T.kFn B GV I h) (fun h=>ok_built T.kBuilt B U I h) h,fun h=>ok_block T.kBlock B I h,fun h z hz=>ok_stmts hz T.kStmts B I h,
   fun h=>ok_stmt T.kStmt B W (fun h=>ok_bind T.kBind B I h) (fun h=>ok_show T.kShow B I h) (fun h=>ok_if T.kIf B I h) (fun h=>ok_while T.kWhile B I h) (fun h=>ok_for T.kFor B I h) (fun h=>ok_slider T.kSlider B GW I h) (fun h=>ok_choice T.kChoice B GQ I h) h⟩
def spRI(CR:Addr):Sp:=fun vs H Q _=>∃ x dx lt,vs=[.ref x,.ref lt]∧H x=some (.ins CR dx [])∧∀ H',But x H H'→H' x=some (.ins CR dx [("tokens",.ref lt),("at",.int 0)])→Q .non H'
theorem scRI:FnScope ["self", "tokens"] ["self", "tokens"] (defScope sReaderInit):=⟨rfl,rfl,rfl,by decide +kernel,rfl,by decide +kernel,by decide +kernel⟩
theorem ok_RI{f:Addr}{fd:FuncData}(F:Fun K "__init__" "Reader.__init__" sReaderInit f fd)(R:ReaderAt K mg D.CR):FnOk P w K mg base (CXF P w) 1 f fd ["self", "tokens"] (spRI D.CR):=by
 refine F.okF (k:=0) scRI (fun vs H Q E h=>?_) (fun cdv A outer s H vs Q E hr h=>?_)
 ·obtain ⟨x,dx,lt,rfl,_⟩:=h
  rfl
 obtain ⟨x,dx,lt,rfl,hx,q⟩:=h
 refine ⟨_,pss_cons (ps_fld (pv 0) (pv 1) rfl) (pss_one (ps_fld (pv 0) pe_int rfl)),?_⟩
 refine ⟨_,rfl,_,rfl,x,D.CR,dx,_,rfl,hx,R.c.cl,R.c.no _ (.head _),(by show 0 < 1000;decide),?_⟩
 refine ⟨_,rfl,x,D.CR,dx,_,rfl,upd_same,R.c.cl,R.c.no _ (.tail _ (.head _)),(by show 1 < 1000;decide),?_⟩
 exact q _ (((But.refl x H).updx).updx) (by rw [upd_same];rfl)
structure ReaderMk(P:Program)(w:World)(K:PySem.W.Frag)(mg:Str→Option Value)(base:Heap)(D:Ad)(rI:Addr)(rdI:FuncData):Prop where
 c:ClsAt K mg "Reader" D.CR ["tokens", "at"]
 make:Mk K D.CR rI
 ok:FnOk P w K mg base (CXF P w) 1 rI rdI ["self", "tokens"] (spRI D.CR)
 b:Binds K rdI ["self", "tokens"] []
def spProg(D:Ad):Sp:=fun vs H Q E=>∃ (T:Hp) (lt:Addr) (all:Toks) (len:Nat) (tr:∀ a C dx fs,T a=some (.ins C dx fs)→fs.lookup ("depth":Str)=none),vs=[.ref lt]∧Same T H∧ToksAt D.CT T lt all len∧WfL all∧tooDeepAt 0 all=none∧all.length≤700∧match Vanbka.program all with
 | .error l=>Err D.CF E 4 (placeAt all len l:Nat)
 | .ok s=>∀ v H',Same H H'→repSs D H' s v→Q v H'
theorem scProg:FnScope ["tokens", "reader"] ["tokens"] (defScope sReadProgram):=⟨rfl,rfl,rfl,by decide +kernel,rfl,by decide +kernel,by decide +kernel⟩
theorem ok_prog{f rI:Addr}{fd rdI:FuncData}(F:Fun K "read_program" "read_program" sReadProgram f fd)(RI:ReaderMk P w K mg base D rI rdI)(I:∀ N,Reads P w K mg base D N):FnOk P w K mg base (CXF P w) 505 f fd ["tokens"] (spProg D):=by
 refine F.okF (k:=504) scProg (fun vs H Q E h=>?_) (fun cdv A outer s H vs Q E hr h=>?_)
 ·obtain ⟨T,lt,all,len,tr,rfl,_⟩:=h
  rfl
 obtain ⟨T,lt,all,len,tr,rfl,st,tk,wf,dp,sz,q⟩:=h
 have nd:=scProg.nd
 have GS:=(I (Vanbka.enough all)).stmts 0 "END" (.inl rfl)
 refine ⟨_,(pss_cons (ps_set (i:=1) nd rfl (Or.inl rfl) (pe_make RI.make RI.ok (hr.mono (by decide)) rfl RI.c.m RI.b .nil passF (pa_cons (pv 0) pa_nil)))
   (pss_one (ps_ret (pe_has GS hr rfl (pa_cons (pv 1) (pa_cons pe_str pa_nil)))))),?_⟩
 refine ⟨_,rfl,fun x dx nx ndx ne=>⟨x,dx,lt,rfl,upd_same,fun H2 bt e=>⟨rfl,?_⟩⟩⟩
 have sm:Same H H2:=But.same nx ndx bt
 have R:RDa D ⟨T,lt,all,len,tr⟩ x H2 all:=⟨st.trans sm,tk,wf,none_of_same st nx,dx,[],e,rfl⟩
 refine ⟨_,rfl,⟨T,lt,all,len,tr⟩,x,all,Vanbka.enough all,Nat.le_refl _,rfl,⟨R,dp,by decide,by unfold Vanbka.enough;omega,sz⟩,trivial,?_⟩
 unfold Vanbka.program at q
 unfold stmtsR
 cases hs:statements (Vanbka.enough all) all with
 | error l=>rw [hs] at q;exact q
 | ok p =>
  obtain ⟨ss,r⟩:=p
  rw [hs] at q
  have w2:=con_wf (con_of ((Cell.fine _).statements all) hs) wf
  have q:match (if r.isEmpty=true then pure ss else halt_ r:Except Nat Stmts) with
   | .error l=>Err D.CF E 4 (placeAt all len l:Nat)
   | .ok s=>∀ v H',Same H H'→repSs D H' s v→Q v H':=q
  show Out D ⟨T,lt,all,len,tr⟩ x H2 _ E (repSs D) (if headK r = "END" then pure (ss,r) else halt_ r)
  cases r with
  | nil =>
   rw [if_pos (show headK [] = "END" from rfl)]
   intro v H3 b3 R3 n3
   refine q v H3 (fun b o eb=>b3 _ _ (sm _ _ eb) (ne_of_none eb nx)) ?_
   obtain ⟨a,vs,rfl,ha,lv,hN⟩:=n3
   have g:Same (Cut T H2 H3) H3:=cut_sub (X:=⟨T,lt,all,len,tr⟩) R3.st
   exact ⟨a,vs,rfl,g _ _ ha,lv,NodesAt.same g _ _ hN⟩
  | cons t r =>
   rw [if_neg (show ¬ headK (t::r) = "END" from kind_noEnd (w2 t (.head _)))]
   exact q
def spBrackets(D:Ad):Sp:=fun vs H Q E=>∃ (T:Hp) (lt:Addr) (all:Toks),vs=[.ref lt]∧Same T H∧TokL D.CT T lt all∧WfL all∧match tooDeepAt 0 all with
 | some p=>Err D.CF E 3 (p:Int)
 | none=>∀ H',Same H H'→Q .non H'
def openK:List Str:=["(", "[", "{"]
def closeK:List Str:=[")", "]", "}"]
theorem open_fixed:∀ l∈fixedL,Vanbka.opening l=decide (kindS l∈openK)∧Vanbka.closing l=decide (kindS l∈closeK):=by decide +kernel
theorem open_kind{l:Lex}(h:Wf l):Vanbka.opening l=decide (kindS l∈openK)∧Vanbka.closing l=decide (kindS l∈closeK):=by
 rcases wf_cases h with hf | ⟨x,rfl,u⟩ | ⟨v,rfl⟩ | ⟨x,rfl⟩
 ·exact open_fixed l hf
 ·rw [kind_name u];exact ⟨rfl,rfl⟩
 ·exact ⟨rfl,rfl⟩
 ·exact ⟨rfl,rfl⟩
theorem scBr:FnScope ["tokens", "deep", "token"] ["tokens"] (defScope sCheckBrackets):=⟨rfl,rfl,rfl,by decide +kernel,rfl,by decide +kernel,by decide +kernel⟩
theorem ok_brackets{f fI tI:Addr}{fd fdI tdI:FuncData}(F:Fun K "check_brackets" "check_brackets" sCheckBrackets f fd)(T:FaultAt K mg D.CF fI fdI)(U:TokenAt K mg D.CT tI tdI)(c1:CI mg "DEEP_BRACKET" 3)(c2:CI mg "DEEPEST_BRACKET" 24)(WO:KTup K mg "OPENING" (openK.map V.str))(WC:KTup K mg "CLOSING" (closeK.map V.str)) :
  FnOk P w K mg base (CXF P w) 3 f fd ["tokens"] (spBrackets D):=by
 refine F.okF (k:=2) scBr (fun vs H Q E h=>?_) (fun cdv A outer s H vs Q E hr h=>?_)
 ·obtain ⟨T,lt,all,rfl,_⟩:=h
  rfl
 obtain ⟨Th,lt,all,rfl,st,⟨xs,hx,pr⟩,wf,q⟩:=h
 have nd:=scBr.nd
 obtain ⟨oa,mO,sO⟩:=WO
 obtain ⟨ca,mC,sC⟩:=WC
 refine ⟨_,(pss_cons (ps_set (i:=1) nd rfl (Or.inl rfl) pe_int)
   (pss_one (ps_for ownF rfl (pi_list (pv 0)) (pg_name (i:=2) nd rfl (Or.inl rfl)) (pss_one (ps_if (pt_cmpR op_in_seq (pe_fld (pv 2) rfl) (pe_cr mO rfl) rfl) (pss_cons (ps_aug (i:=1) nd rfl (Or.inl rfl) pe_int ip_add)
   (pss_one (ps_if (pt_cmpR op_gt (pv 1) (pe_ci c2 rfl) (nomark _)) (pss_one (ps_fault T hr rfl (pa_cons (pe_ci c1 rfl) (pa_cons (pe_fld (pv 2) rfl) pa_nil)))) pss_nil))) (pss_one (ps_if (pt_cmpR op_in_seq (pe_fld (pv 2) rfl) (pe_cr mC rfl) rfl) (pss_one (ps_aug (i:=1) nd rfl (Or.inl rfl) pe_int ip_sub)) pss_nil))))))),?_⟩
 have hS:SqL K H lt (xs.map V.ref):=SqL.of (st _ _ hx)
 have pl:=Paired.len pr
 refine ⟨_,rfl,lt,rfl,⟨_,hS⟩,fun i m σ H'=>m=all.length - i∧i≤all.length∧Same H H'∧∃ (d:Int) (v2:Option V),σ=[some (.ref lt),some (.int d),v2]∧tooDeepAt 0 all=tooDeepAt d (all.drop i),⟨_,rfl,Nat.zero_le _,Same.refl H,0,none,rfl,rfl⟩,?_⟩
 rintro i m σ H' ⟨rfl,hi,sm,d,v2,rfl,inv⟩
 have hS':=sm.seq hS
 by_cases hlt:i < all.length
 ·have hlx:i < (xs.map V.ref).length:=by rw [List.length_map];omega
  have hti:all[i]? = some all[i]:=List.getElem?_eq_getElem hlt
  obtain ⟨x,ex,tx⟩:=Paired.get pr hti
  have hxi:(xs.map V.ref)[i]? = some (.ref x):=by rw [List.getElem?_map,ex];rfl
  refine .inr ⟨⟨_,_,hS',hxi⟩,fun σ' H2=>∃ m',m' < all.length - i∧(m'=all.length - (i + 1)∧i + 1≤all.length∧Same H H2∧∃ (d:Int) (v2:Option V),σ'=[some (.ref lt),some (.int d),v2]∧tooDeepAt 0 all=tooDeepAt d (all.drop (i + 1))),fun _ _ z=>z,?_⟩
  rintro y H2 ⟨rfl,hy⟩
  have ey:=hy _ hS'
  rw [hxi] at ey
  cases ey
  obtain ⟨dt,k,p,e,v,ho,hh⟩:∃ (dt:Addr) (k:Str) (p e:Int) (v:V),H2 x=some (.ins D.CT dt (tokF k p e v))∧∃ t r,all.drop i=t::r∧k=kindS t.lex∧p=(t.place:Int):=by
   obtain ⟨dt,v,e,_⟩:=tx
   exact ⟨dt,_,_,_,_,sm _ _ (st _ _ e),all[i],all.drop (i + 1),List.drop_eq_getElem_cons hlt,rfl,rfl⟩
  have next':∀ (d':Int) (H3:Hp) (v3:Option V),Same H H3→tooDeepAt d (all.drop i)=tooDeepAt d' (all.drop (i + 1))→∃ m',m' < all.length - i∧(m'=all.length - (i + 1)∧i + 1≤all.length∧Same H H3∧∃ (d:Int) (v2:Option V),([some (.ref lt),some (.int d'),v3]:St)=[some (.ref lt),some (.int d),v2]∧tooDeepAt 0 all=tooDeepAt d (all.drop (i + 1))):=fun d' H3 v3 s3 e3 =>
   ⟨_,by omega,rfl,hlt,s3,d',v3,rfl,inv.trans e3⟩
  refine ⟨_,rfl,x,D.CT,dt,_,_,rfl,ho,U.c.cl,U.c.no _ (.head _),rfl,oa,_,rfl,.inr (sO _),rfl,by decide,_,rfl,?_⟩
  have s1:Same H2 H2:=Same.refl _
  rw [if_neg Bool.false_ne_true,inV_strs]
  refine ite2 (fun c=>?_) (fun c=>?_)
  ·have c:=of_decide_eq_true c
   obtain ⟨t,r,hd,rfl,rfl⟩:=hh
   ·have wt:Wf t.lex:=wf t (List.mem_of_mem_drop (i:=i) (by rw [hd];exact .head _))
    have op:Vanbka.opening t.lex=true:=by rw [(open_kind wt).1];exact decide_eq_true c
    have hr':all.drop (i + 1)=r:=by rw [← List.drop_drop,hd];rfl
    refine ⟨_,rfl,_,_,rfl,rfl,_,rfl,_,_,rfl,rfl,_,rfl,ite2 (fun c3=>?_) (fun c3=>?_)⟩
    ·have c3:=of_decide_eq_true c3
     have g:24≤d:=by
      have:(24:Int) < d + 1:=c3
      omega
     rw [inv,hd,tooDeepAt,if_pos op,if_pos g] at q
     refine ⟨_,rfl,x,D.CT,dt,_,_,rfl,s1 _ _ ho,U.c.cl,U.c.no _ (.tail _ (.head _)),rfl,raise_says q⟩
    ·have g:¬ 24≤d:=fun z=>c3 (decide_eq_true (by show (24:Int) < d + 1;omega))
     refine next' (d + 1) _ _ (sm.trans s1) ?_
     rw [hd,tooDeepAt,if_pos op,if_neg g,hr']
  ·have c:¬ k∈openK:=fun z=>c (decide_eq_true z)
   refine ⟨_,rfl,x,D.CT,dt,_,_,rfl,s1 _ _ ho,U.c.cl,U.c.no _ (.head _),rfl,ca,_,rfl,.inr (sC _),rfl,by decide,_,rfl,?_⟩
   have s2:=s1
   rw [if_neg Bool.false_ne_true,inV_strs]
   refine ite2 (fun c4=>?_) (fun c4=>?_)
   ·have c4:=of_decide_eq_true c4
    obtain ⟨t,r,hd,rfl,rfl⟩:=hh
    ·have wt:Wf t.lex:=wf t (List.mem_of_mem_drop (i:=i) (by rw [hd];exact .head _))
     have op:¬ Vanbka.opening t.lex=true:=by rw [(open_kind wt).1];exact fun z=>c (of_decide_eq_true z)
     have cl:Vanbka.closing t.lex=true:=by rw [(open_kind wt).2];exact decide_eq_true c4
     have hr':all.drop (i + 1)=r:=by rw [← List.drop_drop,hd];rfl
     refine ⟨_,rfl,_,_,rfl,rfl,next' (d - 1) _ _ (sm.trans s2) ?_⟩
     rw [hd,tooDeepAt,if_neg op,if_pos cl,hr']
   ·have c4:¬ k∈closeK:=fun z=>c4 (decide_eq_true z)
    refine next' d _ _ (sm.trans s2) ?_
    obtain ⟨t,r,hd,rfl,rfl⟩:=hh
    ·have wt:Wf t.lex:=wf t (List.mem_of_mem_drop (i:=i) (by rw [hd];exact .head _))
     have op:¬ Vanbka.opening t.lex=true:=by rw [(open_kind wt).1];exact fun z=>c (of_decide_eq_true z)
     have cl:¬ Vanbka.closing t.lex=true:=by rw [(open_kind wt).2];exact fun z=>c4 (of_decide_eq_true z)
     have hr':all.drop (i + 1)=r:=by rw [← List.drop_drop,hd];rfl
     rw [hd,tooDeepAt,if_neg op,if_neg cl,hr']
 ·have e:i=all.length:=by omega
  subst e
  rw [List.drop_eq_nil_of_le (by omega)] at inv
  rw [inv] at q
  exact .inl ⟨⟨_,hS',by rw [List.length_map,pl];exact Nat.le_refl _⟩,q H' sm⟩
def spDepth(D:Ad):Sp:=fun vs H Q E=>∃ (s:Stmts) (v:V),vs=[v]∧repSs D H s v∧if 40 < s.depth then Err D.CF E 5 (s.depth:Int) else ∀ H',Same H H'→Q .non H'
theorem scDepth:FnScope ["program", "depth"] ["program"] (defScope sCheckDepth):=⟨rfl,rfl,rfl,by decide +kernel,rfl,by decide +kernel,by decide +kernel⟩
theorem ok_depth{f fI:Addr}{fd fdI:FuncData}(F:Fun K "check_depth" "check_depth" sCheckDepth f fd)(T:FaultAt K mg D.CF fI fdI)(G:Has P w K mg base 1 "greatest_depth" ["trees"] (spGreat K D.CN))(c1:CI mg "DEEP_PROGRAM" 5)(c2:CI mg "DEEPEST_PROGRAM" 40) :
  FnOk P w K mg base (CXF P w) 3 f fd ["program"] (spDepth D):=by
 refine F.okF (k:=2) scDepth (fun vs H Q E h=>?_) (fun cdv A outer s H vs Q E hr h=>?_)
 ·obtain ⟨ss,v,rfl,_⟩:=h
  rfl
 obtain ⟨ss,v,rfl,⟨a,us,rfl,ha,lu,hN⟩,q⟩:=h
 have nd:=scDepth.nd
 refine ⟨_,(pss_cons (ps_set (i:=1) nd rfl (Or.inl rfl) (pe_has G hr rfl (pa_cons (pv 0) pa_nil)))
   (pss_one (ps_if (pt_cmpR op_gt (pv 1) (pe_ci c2 rfl) (nomark _)) (pss_one (ps_fault T hr rfl (pa_cons (pe_ci c1 rfl) (pa_cons (pv 1) pa_nil)))) pss_nil))),?_⟩
 refine ⟨_,rfl,a,us,_,rfl,SqL.of ha,hN,by omega,fun H1 sm=>?_⟩
 rw [depth_Ss]
 refine ⟨_,rfl,_,_,rfl,rfl,_,rfl,ite2 (fun c=>?_) (fun c=>?_)⟩
 ·have c:(40:Int) < (ss.depth:Int):=of_decide_eq_true c
  rw [if_pos (by omega)] at q
  exact ⟨_,rfl,raise_says q⟩
 ·have c:¬ (40:Int) < (ss.depth:Int):=fun z=>c (decide_eq_true z)
  rw [if_neg (by omega)] at q
  exact q H1 sm
end
end Prg
end
section
set_option maxRecDepth 100000
set_option maxHeartbeats 1000000
namespace L2
open PySem PySem.Spec PyProof.Rows
def tTryN(C:Addr)(tb:XK→TS)(ts:TS):TS:=fun D σ H=>∃ EB:XK,tb EB D σ H∧∀ C' dxo H',EB C' dxo H'→C' = .ref C∧∃ dx,dxo=some dx∧∀ (σ':St) (H2:Hp),σ'.length=σ.length→Same H' H2→ts { nx:=fun _ _=>False,rt:=D.rt } σ' H2
theorem ps_tryN{X:Cx}{body suite:List Stmt}{b0:Stmt}{cn:Str}{np hpos pos:Pos}{C fI:Addr}{fs:List Str}{tb:XK→TS}{ts:TS}
  (hst:X.stack=X.env::X.outer) (hf:X.env.frame=some X.env.locals) (hex:X.ex=[]) (hg:Gl X cn) (hm:X.mg cn=some (.ref C)) (q:xcls X.K C fI fs=true)
  (hb:∀ (pn:List (Addr×Obj)) (EB:XK) (E':Value→Shared→Prop),Passes (CXF X.prog X.w) (X.with pn E') EB→PSs (X.with pn E') body (tb EB))
  (hs:∀ (pn:List (Addr×Obj)) (e:Value),PSs (X.clause pn e) (b0::suite) ts) (hdb:(cn == ("__debug__":Str))=false:=by decide) :
  PS X (.Try body [.ExceptHandler (some (.Name cn np)) none (b0::suite) hpos] [] [] pos) (tTryN C tb ts):=by
 intro pins s σ H D I h
 obtain ⟨EB,hB,hH⟩:=h
 refine wpAny_Try_except ?_
 have ok:=I.ok
 have key:∀ (E':Value→Shared→Prop),(∀ e s1,E' e s1↔wpAny (model X.prog X.w) X.A (noteFrame e X.env) (fun _ s₂=>wpAny (model X.prog X.w) X.A (setFlight e none) (fun _ s₃ =>
   wpAny (model X.prog X.w) X.A (handleBy e X.env [.ExceptHandler (some (.Name cn np)) none (b0::suite) hpos]) (SP X pins D) X.xe s₃) X.xe s₂) X.xe s1)→Passes (CXF X.prog X.w) (X.with (X.pn ++ pins) E') EB:=by
  intro E' hE' pins' σ1 H1 s1 e s2 I1 c
  refine (hE' e s2).mpr ?_
  refine to_clause (X:=X.with (X.pn ++ pins) E') hst hf hex I1 c (fun x T C' dx H2 H3 s3 ee hE nx sm ex eT ar I3=>?_) rfl
  subst ee
  obtain ⟨rfl,dx',edx,hH2⟩:=hH C' (some dx) H2 hE
  cases edx
  have J:=I3.toClause ok (.ref x)
  obtain ⟨nm,qn,N,bs,sn,sub,ab,col,dd,c0,c1,c2,c3,c5,mN,hC,_⟩:=xcls_get J.kIn q
  obtain ⟨⟨o,vs,hx,hc,hdx,hd,h1⟩,_,_⟩:=id ar
  refine wpAny_handleBy_cons (codeAny_handlers_test (ld_glob J hg hm ?_ hdb)) (by intro z;cases z)
  obtain ⟨hp,g,dr,tk,os⟩:=s3
  refine wpAny_excMatches_sub_self hC hx hc (by decide) ?_
  refine codeAny_handlers_suite ?_
  refine again_clause J eT ar fun s4 ar4 J4=>?_
  refine wpAny_mono (hs _ (.ref x) pins' s4 _ _ _ J4 (hH2 σ1 _ ?_ sm)) (fun fl s6 z=>?_) (fun _ _ z=>z.elim)
  ·rw [I.len,I1.len]
  ·cases fl with
   | next=>obtain ⟨_,_,_,z⟩:=z;exact z.elim
   | brk=>obtain ⟨_,_,_,z⟩:=z;exact z.elim
   | cont=>obtain ⟨_,_,_,z⟩:=z;exact z.elim
   | ret u =>
    obtain ⟨v,σ6,H6,J7,ru,q6⟩:=z
    exact ⟨v,_,H6,J7.ofClause ok,ru,q6⟩
 refine wpAny_mono (hb (X.pn ++ pins) EB _ (key _ fun _ _=>Iff.rfl) [] s σ H D (I.toPn _) hB) (fun f s1 z=>?_) (fun _ _ z=>z)
 cases f with
 | next =>
  obtain ⟨σ',H',I',z⟩:=z
  exact wpAny_execs_nil ⟨σ',H',I'.ofPn ok,z⟩
 | brk=>obtain ⟨σ',H',I',z⟩:=z;exact ⟨σ',H',I'.ofPn ok,z⟩
 | cont=>obtain ⟨σ',H',I',z⟩:=z;exact ⟨σ',H',I'.ofPn ok,z⟩
 | ret u=>obtain ⟨v,σ',H',I',ru,z⟩:=z;exact ⟨v,σ',H',I'.ofPn ok,ru,z⟩
end L2
end
section
set_option maxRecDepth 100000
set_option maxHeartbeats 4000000
namespace Prg
open PySem L2
open Vanbka (Bytes)
abbrev sReadTokens:PySem.Stmt:=top 81
abbrev sTooLong:PySem.Stmt:=top 113
section
variable{P:Program}{w:World}{K:PySem.W.Frag}{mg:Str→Option Value}{base:Heap}{f CF CT:Addr}{fd:FuncData}
def spRToks(K:PySem.W.Frag)(CF CT:Addr):Sp:=fun vs H Q E=>∃ (a:Addr) (t:Bytes),vs=[.ref a]∧SqL K H a (vb t)∧t.length≤900000∧match t.findIdx? (fun c => !Vanbka.allowed c) with
 | some p=>Err CF E 1 (p:Int)
 | none=>match Vanbka.tokens t with
  | .error p=>Err CF E 2 (p:Int)
  | .ok ts=>∀ l H',Same H H'→TokL CT (Cut noH H H') l ts→Q (.ref l) H'
theorem scRToks:FnScope ["text"] ["text"] (defScope sReadTokens):=⟨rfl,rfl,rfl,by decide +kernel,rfl,by decide +kernel,by decide +kernel⟩
theorem ok_rtoks(F:Fun K "read_tokens" "read_tokens" sReadTokens f fd)(G1:Has P w K mg base 3 "check_bytes" ["text"] (spBytes K CF))(G2:Has P w K mg base 5 "cut_tokens" ["text"] (spTokens K CF CT)):FnOk P w K mg base (CXF P w) 6 f fd ["text"] (spRToks K CF CT):=by
 refine F.okF (k:=5) scRToks (fun vs H Q E h=>?_) (fun cdv A outer s H vs Q E hr h=>?_)
 ·obtain ⟨a,t,rfl,_⟩:=h
  rfl
 obtain ⟨a,t,rfl,hS,hlen,q⟩:=h
 refine ⟨_,pss_cons (ps_expr (pe_has G1 hr rfl (pa_cons (pv 0) pa_nil))) (pss_one (ps_ret (pe_has G2 hr rfl (pa_cons (pv 0) pa_nil)))),?_⟩
 refine ⟨_,rfl,a,t,rfl,hS,?_⟩
 cases hf:t.findIdx? (fun c => !Vanbka.allowed c) with
 | some p=>rw [hf] at q;exact q
 | none =>
  rw [hf] at q
  intro H1 s1
  refine ⟨_,rfl,a,t,rfl,s1.seq hS,hlen,?_⟩
  cases ht:Vanbka.tokens t with
  | error p=>rw [ht] at q;exact q
  | ok ts =>
   rw [ht] at q
   exact fun l H2 s2 tk=>q l H2 (s1.trans s2) (TokL.same (cut_grow (fun b z=>none_of_same s1 z) fun _ _ _ z=>z) tk)
def spLong(K:PySem.W.Frag):Sp:=fun vs H Q _=>∃ (a:Addr) (t:Bytes),vs=[.ref a]∧SqL K H a (vb t)∧Q (.bl (decide (Vanbka.LONGEST < t.length))) H
theorem scLong:FnScope ["text"] ["text"] (defScope sTooLong):=⟨rfl,rfl,rfl,by decide +kernel,rfl,by decide +kernel,by decide +kernel⟩
theorem ok_long(F:Fun K "is_too_long" "is_too_long" sTooLong f fd)(ml:mg "len"=none)(c1:CI mg "LONGEST_TEXT" 600):FnOk P w K mg base (CXF P w) 1 f fd ["text"] (spLong K):=by
 refine F.okF (k:=0) scLong (fun vs H Q E h=>?_) (fun cdv A outer s H vs Q E hr h=>?_)
 ·obtain ⟨a,t,rfl,_⟩:=h
  rfl
 obtain ⟨a,t,rfl,hS,q⟩:=h
 refine ⟨_,pss_one (ps_ret (pe_cmpR op_gt (pe_callB call_len_seq rfl ml PySem.boot_len (pa_cons (pv 0) pa_nil)) (pe_ci c1 rfl) (nomark _))),?_⟩
 refine ⟨_,rfl,a,_,rfl,.inl hS,_,_,rfl,rfl,?_⟩
 have e:decide ((600:Int) < ((vb t).length:Int))=decide (Vanbka.LONGEST < t.length):=decide_eq_decide.mpr (by
  rw [vb_len]
  unfold Vanbka.LONGEST
  omega)
 rw [← e] at q
 exact q
end
def told(x:Vanbka.Answer):List Int:=match x with
 | .refused n=>[n]
 | .told l=>l
end Prg
end
section
set_option maxRecDepth 100000
set_option maxHeartbeats 4000000
namespace Prg
open PySem L2
open Vanbka (Bytes Lex reserved isSign isWord next nameNext wordNext eat b halt_ placeAt tooDeepAt Op Prim Way Exprs Fields Stmts opNext chain line simple reach listed more fields parts inBrackets function block statements statement)
section
variable{P:Program}{w:World}{K:PySem.W.Frag}{mg:Str→Option Value}{base:Heap}{D:Ad}
abbrev sEndToken:PySem.Stmt:=top 67
def spEnd(K:PySem.W.Frag)(CT:Addr):Sp:=fun vs H Q _=>∃ (a:Addr) (t:Bytes),vs=[.ref a]∧SqL K H a (vb t)∧∀ x H',Same H H'→EndAt CT H' x t.length→Q (.ref x) H'
theorem scEnd:FnScope ["text"] ["text"] (defScope sEndToken):=⟨rfl,rfl,rfl,by decide +kernel,rfl,by decide +kernel,by decide +kernel⟩
theorem ok_end{f CT tI:Addr}{fd tdI:FuncData}(F:Fun K "end_token" "end_token" sEndToken f fd)(U:TokenAt K mg CT tI tdI)(ml:mg "len"=none):FnOk P w K mg base (CXF P w) 3 f fd ["text"] (spEnd K CT):=by
 refine F.okF (k:=2) scEnd (fun vs H Q E h=>?_) (fun cdv A outer s H vs Q E hr h=>?_)
 ·obtain ⟨a,t,rfl,_⟩:=h
  rfl
 obtain ⟨a,t,rfl,hS,q⟩:=h
 refine ⟨_,pss_one (ps_ret (pe_make U.make (ok_TI U) hr rfl U.c.m U.b .nil passF
    (pa_cons pe_str (pa_cons (pe_callB call_len_seq rfl ml PySem.boot_len (pa_cons (pv 0) pa_nil)) (pa_cons (pe_callB call_len_seq rfl ml PySem.boot_len (pa_cons (pv 0) pa_nil)) (pa_cons pe_non pa_nil)))))),?_⟩
 refine ⟨_,rfl,a,_,rfl,.inl hS,_,rfl,a,_,rfl,.inl hS,fun x dx nx ndx ne=>⟨x,dx,_,_,_,_,rfl,upd_same,fun H2 b e=>⟨rfl,q x H2 (But.same nx ndx b) ⟨dx,?_⟩⟩⟩⟩
 rw [← vb_len t]
 exact e
def Only(T:Hp):Hp:=fun b=>match T b with
 | some (.ins C dx fs)=>if fs.lookup ("depth":Str)=none then some (.ins C dx fs) else none
 | o=>o
theorem only_tr{T:Hp}:∀ a C dx fs,Only T a=some (.ins C dx fs)→fs.lookup ("depth":Str)=none:=by
 intro a C dx fs h
 unfold Only at h
 split at h
 ·split at h
  ·rename_i c
   injection h with h
   injection h with _ _ h
   rw [← h]
   exact c
  ·cases h
 ·rename_i n
  exact absurd h (n C dx fs)
theorem only_sub{T:Hp}:Same (Only T) T:=fun b o h=>by
 unfold Only at h
 split at h
 ·rename_i e
  split at h
  ·rw [e];exact h
  ·cases h
 ·exact h
theorem only_lst{T:Hp}{a:Addr}{us:List V}(h:T a=some (.lst us)):Only T a=some (.lst us):=by
 unfold Only
 rw [h]
theorem only_tok{T:Hp}{a C dx:Addr}{k:Str}{p e:Int}{v:V}(h:T a=some (.ins C dx (tokF k p e v))):Only T a=some (.ins C dx (tokF k p e v)):=by
 unfold Only
 rw [h]
 exact if_pos rfl
theorem TokAt.only{CT:Addr}{H:Hp}{x:Addr}{t:Vanbka.Tok}(h:TokAt CT H x t):TokAt CT (Only H) x t:=by
 obtain ⟨dx,v,e,q⟩:=h
 exact ⟨dx,v,only_tok e,q.lists fun _ _ z=>only_lst z⟩
def spGood(K:PySem.W.Frag)(D:Ad):Sp:=fun vs H Q E=>∃ (a:Addr) (t:Bytes),vs=[.ref a]∧SqL K H a (vb t)∧t.length≤600∧match Vanbka.read t with
 | .error e=>Err D.CF E (e.1:Nat) (e.2:Nat)
 | .ok s=>∀ v H',Same H H'→repSs D H' s v→Q v H'
theorem scGood:FnScope ["text", "tokens", "program"] ["text"] (defScope sReadGood):=⟨rfl,rfl,rfl,by decide +kernel,rfl,by decide +kernel,by decide +kernel⟩
theorem repSs.same{H H':Hp}{s:Stmts}{v:V}(sm:Same H H')(h:repSs D H s v):repSs D H' s v:=by
 obtain ⟨a,vs,e,ha,lv,hN⟩:=h
 exact ⟨a,vs,e,sm _ _ ha,lv,NodesAt.same sm _ _ hN⟩
theorem ok_good{f:Addr}{fd:FuncData}(F:Fun K "read_good" "read_good" sReadGood f fd)(GR:Has P w K mg base 6 "read_tokens" ["text"] (spRToks K D.CF D.CT))(GE:Has P w K mg base 3 "end_token" ["text"] (spEnd K D.CT))(G3:Has P w K mg base 3 "check_brackets" ["tokens"] (spBrackets D))
  (G4:Has P w K mg base 505 "read_program" ["tokens"] (spProg D)) (G5:Has P w K mg base 3 "check_depth" ["program"] (spDepth D)):FnOk P w K mg base (CXF P w) 506 f fd ["text"] (spGood K D):=by
 refine F.okF (k:=505) scGood (fun vs H Q E h=>?_) (fun cdv A outer s H vs Q E hr h=>?_)
 ·obtain ⟨a,t,rfl,_⟩:=h
  rfl
 obtain ⟨a,t,rfl,hS,hlen,q⟩:=h
 have nd:=scGood.nd
 refine ⟨_,(pss_cons (ps_set (i:=1) nd rfl (Or.inl rfl) (pe_has GR hr rfl (pa_cons (pv 0) pa_nil)))
   (pss_cons (ps_expr (pe_has G3 hr rfl (pa_cons (pv 1) pa_nil)))
   (pss_cons (ps_set (i:=2) nd rfl (Or.inl rfl) (pe_has G4 hr rfl (pa_cons (pe_op op_cat (pv 1) (pe_lst (pa_cons (pe_has GE hr rfl (pa_cons (pv 0) pa_nil)) pa_nil))) pa_nil)))
   (pss_cons (ps_expr (pe_has G5 hr rfl (pa_cons (pv 2) pa_nil)))
   (pss_one (ps_ret (pv 2))))))),?_⟩
 unfold Vanbka.read at q
 refine ⟨_,rfl,a,t,rfl,hS,by omega,?_⟩
 cases hf:t.findIdx? (fun c => !Vanbka.allowed c) with
 | some p=>rw [hf] at q;exact q
 | none =>
  rw [hf] at q
  cases ht:Vanbka.tokens t with
  | error p=>rw [ht] at q;exact q
  | ok ts =>
   rw [ht] at q
   dsimp only at q
   intro lt H2 s2 tk
   have sT:Same (Cut noH H H2) H2:=fun b o e=>by
    rcases cut_cases e with z | ⟨_,_,z⟩
    ·cases z
    ·exact z
   have wf:WfL ts:=tokens_wf _ _ _ _ ht
   have ln:ts.length≤t.length:=tokens_len _ _ _ _ ht
   refine ⟨_,rfl,H2,lt,ts,rfl,Same.refl H2,TokL.same sT tk,wf,?_⟩
   cases hd:tooDeepAt 0 ts with
   | some p=>rw [hd] at q;exact q
   | none =>
    rw [hd] at q
    dsimp only at q
    intro H3 s3
    refine ⟨_,rfl,_,rfl,a,t,rfl,(s2.trans s3).seq hS,fun x H4 s4 en=>⟨by show 1≤2 ^ 24;decide,fun l1 m1=>?_⟩⟩
    obtain ⟨xs,hx,pr⟩:=TokL.same ((sT.trans s3).trans s4) tk
    have pl:=Paired.len pr
    have s5:Same H4 (upd H4 l1 (.lst [.ref x])):=same_new m1 _
    refine ⟨lt,l1,_,_,rfl,rfl,s5 _ _ hx,upd_same,?_,fun p mp=>?_⟩
    ·rw [List.length_map,pl]
     show ts.length + 1≤2 ^ 24
     omega
    have s6:=s5.trans (same_new mp (.lst (xs.map V.ref ++ [.ref x])))
    refine ⟨Only _,p,ts,t.length,only_tr,rfl,only_sub,⟨xs ++ [x],?_,?_⟩,wf,hd,by omega,?_⟩
    ·refine only_lst ?_
     rw [upd_same,List.map_append]
     rfl
    ·refine Paired.snoc (Paired.mapR (G:=TokO D.CT _ t.length) (g:=some) (fun _ _ z=>TokAt.only (TokAt.same s6 z)) pr) ?_
     obtain ⟨dx,e⟩:=en
     exact ⟨dx,only_tok (s6 _ _ e)⟩
    cases hp:Vanbka.program ts with
    | error l=>rw [hp] at q;exact q
    | ok ss =>
     rw [hp] at q
     dsimp only at q
     intro v H7 s7 rp
     refine ⟨_,rfl,ss,v,rfl,rp,?_⟩
     have q:match (if 40 < ss.depth then .error (5,ss.depth) else .ok ss:Except (Nat×Nat) Stmts) with
      | .error e=>Err D.CF E (e.1:Nat) (e.2:Nat)
      | .ok s=>∀ v H',Same H H'→repSs D H' s v→Q v H':=q
     by_cases c:40 < ss.depth
     ·rw [if_pos c] at q ⊢
      exact q
     ·rw [if_neg c] at q ⊢
      intro H8 s8
      exact ⟨_,rfl,q v H8 (s2.trans (s3.trans (s4.trans (s6.trans (s7.trans s8))))) (repSs.same s8 rp)⟩
end
end Prg
end
section
set_option maxRecDepth 100000
set_option maxHeartbeats 4000000
namespace Prg
open PySem L2
open Vanbka (Bytes Exprs Fields Stmts)
def MT(te:TE)(σ:St)(H:Hp)(x:Bytes):Prop:=∀ H',Same H H'→∀ Q:VK,(∀ a H2,Same H' H2→H2 a=some (.lst (vb x))→Q (.ref a) H2)→te σ H' Q
theorem MT.var{σ:St}{H:Hp}{i:Nat}{a:Addr}{x:Bytes}(e:σ[i]? = some (some (.ref a)))(h:H a=some (.lst (vb x))):MT (tVar i) σ H x:=fun H' s Q q=>⟨_,e,q a H' (Same.refl H') (s _ _ h)⟩
section
variable{P:Program}{w:World}{K:PySem.W.Frag}{mg:Str→Option Value}{base:Heap}{D:Ad}
structure TreeO(D:Ad)(H:Hp)(x:Addr)(k:Str)(ls:List Leaf)(ps:List Node)(bs:List (List Node)):Prop where
 ex:∃ (dx:TX) (a1 a2 a3:Addr) (vls vps vbs:List V) (d:Nat),H x=some (.ins D.CN dx.d (treeF k a1 a2 a3 dx d))∧H a1=some (.lst vls)∧H a2=some (.lst vps)∧H a3=some (.lst vbs)∧(vls.length≤1000∧vps.length≤1000∧vbs.length≤1000)∧Paired (LeafAt H) ls vls∧NodesAt D.CN H ps vps∧BlocksAt D.CN H bs vbs
theorem TreeO.of{H:Hp}{k:Str}{ls:List Leaf}{ps:List Node}{bs:List (List Node)}{v:V}(h:NodeAt D.CN H (.mk k ls ps bs) v):∃ x,v = .ref x∧TreeO D H x k ls ps bs:=by
 obtain ⟨x,dx,a1,a2,a3,vls,vps,vbs,e,h1⟩:=h
 exact ⟨x,e,dx,a1,a2,a3,vls,vps,vbs,_,h1⟩
theorem TreeO.same{H H':Hp}{x:Addr}{k:Str}{ls:List Leaf}{ps:List Node}{bs:List (List Node)}(s:Same H H')(h:TreeO D H x k ls ps bs):TreeO D H' x k ls ps bs:=by
 obtain ⟨dx,a1,a2,a3,vls,vps,vbs,d,h1,h2,h3,h4,sz,h5,h6,h7⟩:=h.ex
 exact ⟨dx,a1,a2,a3,vls,vps,vbs,d,s _ _ h1,s _ _ h2,s _ _ h3,s _ _ h4,sz,Paired.mapP h5 fun _ _ z=>z.same s,h6.same s,h7.same s⟩
variable{C:ClsAt K mg "Tree" D.CN ["kind", "leaves", "parts", "blocks", "depth", "place", "end"]}
theorem t_kind(C:ClsAt K mg "Tree" D.CN ["kind", "leaves", "parts", "blocks", "depth", "place", "end"]){H:Hp}{x:Addr}{k:Str}{ls:List Leaf}{ps:List Node}{bs:List (List Node)}{σ:St}{i:Nat}{Q:VK}(T:TreeO D H x k ls ps bs)(hi:σ[i]? = some (some (.ref x)))(q:Q (.str k) H):tFld K (tVar i) "kind" σ H Q:=by
 obtain ⟨dx,a1,a2,a3,vls,vps,vbs,d,h1,h2,h3,h4,sz,h5,h6,h7⟩:=T.ex
 exact ⟨_,hi,x,D.CN,dx,_,_,rfl,h1,C.cl,C.no _ (.head _),rfl,q⟩
theorem t_part(C:ClsAt K mg "Tree" D.CN ["kind", "leaves", "parts", "blocks", "depth", "place", "end"]){H:Hp}{x:Addr}{k:Str}{ls:List Leaf}{ps:List Node}{bs:List (List Node)}{σ:St}{i j:Nat}{Q:VK}{y:Node}(T:TreeO D H x k ls ps bs)(hi:σ[i]? = some (some (.ref x)))(hj:ps[j]? = some y)(q:∀ v,NodeAt D.CN H y v→Q v H) :
  tOp (rIxL K) (tFld K (tVar i) "parts") (tC (.int (j:Int))) σ H Q:=by
 obtain ⟨dx,a1,a2,a3,vls,vps,vbs,d,h1,h2,h3,h4,sz,h5,h6,h7⟩:=T.ex
 obtain ⟨v,e,n⟩:=NodesAt.get ps vps h6 j y hj
 exact ⟨_,hi,x,D.CN,dx,_,_,rfl,h1,C.cl,C.no _ (.tail _ (.tail _ (.head _))),rfl,a2,vps,j,v,rfl,rfl,SqL.of h3,atI_nat e,q v n⟩
theorem t_leaf(C:ClsAt K mg "Tree" D.CN ["kind", "leaves", "parts", "blocks", "depth", "place", "end"]){H:Hp}{x:Addr}{k:Str}{ls:List Leaf}{ps:List Node}{bs:List (List Node)}{σ:St}{i j:Nat}{Q:VK}{y:Leaf}(T:TreeO D H x k ls ps bs)(hi:σ[i]? = some (some (.ref x)))(hj:ls[j]? = some y)(q:∀ v,LeafAt H y v→Q v H) :
  tOp (rIxL K) (tFld K (tVar i) "leaves") (tC (.int (j:Int))) σ H Q:=by
 obtain ⟨dx,a1,a2,a3,vls,vps,vbs,d,h1,h2,h3,h4,sz,h5,h6,h7⟩:=T.ex
 have h5':Paired (fun v l=>LeafAt H l v) vls ls:=by
  clear h6 h7 sz h2 h3 h4 hj q T
  induction h5 with
  | nil=>exact .nil
  | cons r t ih=>exact .cons r ih
 obtain ⟨v,e,n⟩:=Paired.get h5' hj
 exact ⟨_,hi,x,D.CN,dx,_,_,rfl,h1,C.cl,C.no _ (.tail _ (.head _)),rfl,a1,vls,j,v,rfl,rfl,SqL.of h2,atI_nat e,q v n⟩
theorem t_leafB(C:ClsAt K mg "Tree" D.CN ["kind", "leaves", "parts", "blocks", "depth", "place", "end"]){H:Hp}{x:Addr}{k:Str}{ls:List Leaf}{ps:List Node}{bs:List (List Node)}{σ:St}{i j:Nat}{u:Bytes}(T:TreeO D H x k ls ps bs)(hi:σ[i]? = some (some (.ref x)))(hj:ls[j]? = some (.bytes u)) :
  MT (tOp (rIxL K) (tFld K (tVar i) "leaves") (tC (.int (j:Int)))) σ H u:=fun H' s Q q=>t_leaf C (T.same s) hi hj fun v hv=>by
 obtain ⟨a,rfl,e⟩:=hv
 exact q a H' (Same.refl H') e
theorem has_kb{x:Str}{ps N:List Str}{st:PySem.Stmt}{sp:Sp}{k:Nat}(Kn:Known K mg x ps st)(S:FnScope N ps (defScope st))(len:∀ vs H Q E,sp vs H Q E→vs.length=ps.length)
  (body:∀ (f:Addr) (cdv:Value) (A:Around) (outer:List Env) (s:Shared) (H:Hp) (vs:List V) (Q:VK) (E:XK),Room k (A.deeper (PyProof.Rows.envOfC x (defScope st) s.heap.objs.size f cdv))→sp vs H Q E→
   ∃ t,PSs (cxOf (CXF P w) P w K mg base N x (defScope st) f cdv A outer s H E) (defBody st) t∧t { nx:=fun _ H'=>Q .non H',rt:=Q } (start N vs) H):Has P w K mg base (k + 1) x ps sp:=by
 obtain ⟨f,fd,F,bi,kp,m⟩:=Kn
 exact ⟨f,fd,F.okF S len (fun cdv A outer s H vs Q E hr hs=>body f cdv A outer s H vs Q E hr hs),bi,kp,m⟩
theorem has_no{x:Str}{ps:List Str}{st:PySem.Stmt}{sp:Sp}{k:Nat}(Kn:Known K mg x ps st)(no:∀ vs H Q E,¬ sp vs H Q E):Has P w K mg base k x ps sp:=by
 obtain ⟨f,fd,F,bi,kp,m⟩:=Kn
 exact ⟨f,fd,⟨fun vs H Q E h=>absurd h (no _ _ _ _),fun A outer s H args us vs Q E hr he hb hv hs=>absurd hs (no _ _ _ _)⟩,bi,kp,m⟩
def AT(t:TA)(σ:St)(H:Hp)(R:List V→Hp→Prop):Prop:=∀ H',Same H H'→∀ Q:List V→Hp→Prop,(∀ vs H2,Same H' H2→R vs H2→Q vs H2)→t σ H' Q
def LT(K:PySem.W.Frag)(te:TE)(σ:St)(H:Hp)(us:List V):Prop:=∀ H',Same H H'→∀ Q:VK,(∀ a H2,Same H' H2→SqL K H2 a us→Q (.ref a) H2)→te σ H' Q
theorem LT.var{σ:St}{H:Hp}{i:Nat}{a:Addr}{us:List V}(e:σ[i]? = some (some (.ref a)))(h:SqL K H a us):LT K (tVar i) σ H us:=fun H' s Q q=>⟨_,e,q a H' (Same.refl H') (s.seq h)⟩
abbrev MW:Nat:=450000
theorem LT.parts{σ:St}{H:Hp}{i:Nat}{x:Addr}{z:Str}{ls:List Leaf}{ps:List Node}{bs:List (List Node)}(C:ClsAt K mg "Tree" D.CN ["kind", "leaves", "parts", "blocks", "depth", "place", "end"])(T:TreeO D H x z ls ps bs)(hi:σ[i]? = some (some (.ref x))):∃ vps,vps.length≤1000∧NodesAt D.CN H ps vps∧LT K (tFld K (tVar i) "parts") σ H vps:=by
 obtain ⟨dx,a1,a2,a3,vls,vps,vbs,d,h1,h2,h3,h4,sz,h5,h6,h7⟩:=T.ex
 exact ⟨vps,sz.2.1,h6,fun H' s Q q=>⟨_,hi,x,D.CN,dx,_,_,rfl,s _ _ h1,C.cl,C.no _ (.tail _ (.tail _ (.head _))),rfl,q a2 H' (Same.refl _) (SqL.of (s _ _ h3))⟩⟩
theorem LT.blocks{σ:St}{H:Hp}{i:Nat}{x:Addr}{z:Str}{ls:List Leaf}{ps:List Node}{bs:List (List Node)}(C:ClsAt K mg "Tree" D.CN ["kind", "leaves", "parts", "blocks", "depth", "place", "end"])(T:TreeO D H x z ls ps bs)(hi:σ[i]? = some (some (.ref x))):∃ vbs,vbs.length≤1000∧BlocksAt D.CN H bs vbs∧LT K (tFld K (tVar i) "blocks") σ H vbs:=by
 obtain ⟨dx,a1,a2,a3,vls,vps,vbs,d,h1,h2,h3,h4,sz,h5,h6,h7⟩:=T.ex
 exact ⟨vbs,sz.2.2,h7,fun H' s Q q=>⟨_,hi,x,D.CN,dx,_,_,rfl,s _ _ h1,C.cl,C.no _ (.tail _ (.tail _ (.tail _ (.head _)))),rfl,q a3 H' (Same.refl _) (SqL.of (s _ _ h4))⟩⟩
theorem LT.leaves{σ:St}{H:Hp}{i:Nat}{x:Addr}{z:Str}{ls:List Leaf}{ps:List Node}{bs:List (List Node)}(C:ClsAt K mg "Tree" D.CN ["kind", "leaves", "parts", "blocks", "depth", "place", "end"])(T:TreeO D H x z ls ps bs)(hi:σ[i]? = some (some (.ref x))):∃ vls,vls.length≤1000∧Paired (LeafAt H) ls vls∧LT K (tFld K (tVar i) "leaves") σ H vls:=by
 obtain ⟨dx,a1,a2,a3,vls,vps,vbs,d,h1,h2,h3,h4,sz,h5,h6,h7⟩:=T.ex
 exact ⟨vls,sz.1,h5,fun H' s Q q=>⟨_,hi,x,D.CN,dx,_,_,rfl,s _ _ h1,C.cl,C.no _ (.tail _ (.head _)),rfl,q a1 H' (Same.refl _) (SqL.of (s _ _ h2))⟩⟩
theorem cut_from{xs:List V}{n:Nat}(h:n≤xs.length):cutV xs (some (n:Int)) none=xs.drop n:=by
 unfold cutV
 rw [HT.sIx_nat,HT.sIx_none,Nat.min_eq_left h,List.take_of_length_le (by rw [List.length_drop];exact Nat.le_refl _)]
theorem LT.from{σ:St}{H:Hp}{te:TE}{us:List V}{n:Nat}(h:LT K te σ H us)(hn:n≤us.length):LT K (tSl (rSlL K) te (tPart (tC (.int (n:Int)))) tNoPart) σ H (us.drop n):=fun H' s Q q =>
 h H' s _ fun a H2 s2 hS=>⟨_,rfl,a,us,rfl,hS,fun p np=>q p _ (s2.trans (same_new np _)) (by rw [cut_from hn];exact SqL.of upd_same)⟩
def piecesAt(H:Hp)(as:List Addr)(xs:List Bytes):Prop:=Paired (fun a x=>H a=some (.lst (vb x))) as xs
theorem leaf_get{H:Hp}{ls:List Leaf}{vls:List V}(h:Paired (LeafAt H) ls vls){j:Nat}{y:Leaf}(hj:ls[j]? = some y):∃ v,vls[j]? = some v∧LeafAt H y v:=by
 have h5':Paired (fun v l=>LeafAt H l v) vls ls:=by
  clear hj
  induction h with
  | nil=>exact .nil
  | cons r t ih=>exact .cons r ih
 exact Paired.get (F:=fun v l=>LeafAt H l v) h5' hj
theorem leaves_pieces{H:Hp}:∀ {ps:List Bytes} {vr:List V},Paired (LeafAt H) (ps.map Leaf.bytes) vr→∃ as:List Addr,vr=as.map V.ref∧piecesAt H as ps
 | [],[],_=>⟨[],rfl,.nil⟩
 | p::ps,v::vr,.cons r t=>by
  obtain ⟨as,rfl,hp⟩:=leaves_pieces t
  obtain ⟨a,rfl,e⟩:=r
  exact ⟨a::as,rfl,.cons e hp⟩
theorem AT.of{te:TE}{σ:St}{H:Hp}{us:List V}{R:List V→Hp→Prop}(h:LT K te σ H us)(r:∀ a H2,Same H H2→SqL K H2 a us→R [.ref a] H2):AT (tCons te tNil) σ H R:=fun H' s Q q =>
 h H' s _ fun a H2 s2 hS=>q _ H2 s2 (r a H2 (s.trans s2) hS)
theorem AT.tree{σ:St}{H:Hp}{i:Nat}{v:V}{R:List V→Hp→Prop}(hi:σ[i]? = some (some v))(r:∀ H2,Same H H2→R [v] H2):AT (tCons (tVar i) tNil) σ H R:=fun H' s Q q=>⟨_,hi,q _ H' (Same.refl _) (r H' s)⟩
theorem AT.block{σ:St}{H:Hp}{i j:Nat}{x:Addr}{z:Str}{ls:List Leaf}{ps:List Node}{bs:List (List Node)}{R:List V→Hp→Prop}{nl:List Node}(C:ClsAt K mg "Tree" D.CN ["kind", "leaves", "parts", "blocks", "depth", "place", "end"])(T:TreeO D H x z ls ps bs)(hi:σ[i]? = some (some (.ref x)))(hj:bs[j]? = some nl)
  (r:∀ a us H2,Same H H2→SqL K H2 a us→us.length≤1000→NodesAt D.CN H2 nl us→R [.ref a] H2):AT (tCons (tOp (rIxL K) (tFld K (tVar i) "blocks") (tC (.int (j:Int)))) tNil) σ H R:=by
 intro H' s Q q
 obtain ⟨dx,a1,a2,a3,vls,vps,vbs,d,h1,h2,h3,h4,sz,h5,h6,h7⟩:=(T.same s).ex
 obtain ⟨a,ws,ev,ha,lw,nv⟩:=BlocksAt.get bs vbs h7 j _ hj
 exact ⟨_,hi,x,D.CN,dx,_,_,rfl,h1,C.cl,C.no _ (.tail _ (.tail _ (.tail _ (.head _)))),rfl,a3,vbs,j,_,rfl,rfl,SqL.of h4,atI_nat ev,q _ H' (Same.refl _) (r a ws H' s (SqL.of ha) lw nv)⟩
end
theorem seq_if{c:TT}{t rest:TS}{Dn:Ends}{σ:St}{H:Hp}(h:c σ H fun k H1=>if k=true then t { Dn with nx:=rest Dn } σ H1 else rest Dn σ H1):tSeq (tIfS c t tNext) rest Dn σ H:=h
theorem seq_eq{t rest:TS}{Dn:Ends}{σ:St}{H:Hp}{te:TE}{z y:Str}(hv:∀ Q:VK,Q (.str z) H→te σ H Q)(yes:z=y→t { Dn with nx:=rest Dn } σ H)(no:¬ z=y→rest Dn σ H):tSeq (tIfS (tTest (tOp rEq te (tC (.str y)))) t tNext) rest Dn σ H :=
 hv _ ⟨rfl,_,rfl,ite2 (fun k=>yes (seqT k)) (fun k=>no (seqF k))⟩
theorem seq_in{K:PySem.W.Frag}{t rest:TS}{Dn:Ends}{σ:St}{H:Hp}{te:TE}{ta:TA}{z:Str}{ys:List Str}(hv:∀ Q:VK,Q (.str z) H→te σ H Q)(ha:∀ Q:List V→Hp→Prop,Q (ys.map V.str) H→ta σ H Q)(hl:ys.length≤1000)
  (yes:∀ H1,Same H H1→z∈ys→t { Dn with nx:=rest Dn } σ H1) (no:∀ H1,Same H H1→¬ z∈ys→rest Dn σ H1):tSeq (tIfS (tTest (tOp (rIn K false) te (tTup ta))) t tNext) rest Dn σ H:=by
 refine hv _ (ha _ ⟨by rw [List.length_map];exact Nat.le_trans hl (by decide),fun p np=>⟨p,_,rfl,.inr (SqT.of upd_same),rfl,?_,_,rfl,?_⟩⟩)
 ·rw [List.all_map]
  exact List.all_eq_true.mpr fun _ _=>rfl
 ·rw [if_neg Bool.false_ne_true,inV_strs]
  exact ite2 (fun k=>yes _ (same_new np _) (of_decide_eq_true k)) (fun k=>no _ (same_new np _) (fun m=>k (decide_eq_true m)))
theorem seq_ne{t rest:TS}{Dn:Ends}{σ:St}{H:Hp}{i:Nat}{z y:Str}(hv:σ[i]? = some (some (.str z)))(h:¬ z=y)(k:rest Dn σ H):tSeq (tIfS (tTest (tOp rEq (tVar i) (tC (.str y)))) t tNext) rest Dn σ H :=
 seq_eq (fun Q q=>⟨_,hv,q⟩) (fun e=>absurd e h) fun _=>k
theorem seq_is{t rest:TS}{Dn:Ends}{σ:St}{H:Hp}{i:Nat}{z y:Str}(hv:σ[i]? = some (some (.str z)))(h:z=y)(k:t { Dn with nx:=rest Dn } σ H):tSeq (tIfS (tTest (tOp rEq (tVar i) (tC (.str y)))) t tNext) rest Dn σ H :=
 seq_eq (fun Q q=>⟨_,hv,q⟩) (fun _=>k) fun n=>absurd h n
theorem seq_nin{K:PySem.W.Frag}{t rest:TS}{Dn:Ends}{σ:St}{H:Hp}{i:Nat}{ta:TA}{z:Str}(hv:σ[i]? = some (some (.str z)))(ys:List Str)(h:¬ z∈ys)(k:∀ H1,Same H H1→rest Dn σ H1)(hl:ys.length≤1000:=by decide)(ha:∀ Q:List V→Hp→Prop,Q (ys.map V.str) H→ta σ H Q:=by exact fun _ q=>q) :
  tSeq (tIfS (tTest (tOp (rIn K false) (tVar i) (tTup ta))) t tNext) rest Dn σ H:=seq_in (fun Q q=>⟨_,hv,q⟩) ha hl (fun _ _ m=>absurd m h) fun H1 s _=>k H1 s
theorem seq_yin{K:PySem.W.Frag}{t rest:TS}{Dn:Ends}{σ:St}{H:Hp}{i:Nat}{ta:TA}{z:Str}(hv:σ[i]? = some (some (.str z)))(ys:List Str)(h:z∈ys)(k:∀ H1,Same H H1→t { Dn with nx:=rest Dn } σ H1)(hl:ys.length≤1000:=by decide)(ha:∀ Q:List V→Hp→Prop,Q (ys.map V.str) H→ta σ H Q:=by exact fun _ q=>q) :
  tSeq (tIfS (tTest (tOp (rIn K false) (tVar i) (tTup ta))) t tNext) rest Dn σ H:=seq_in (fun Q q=>⟨_,hv,q⟩) ha hl (fun H1 s _=>k H1 s) fun _ _ m=>absurd h m
theorem tv_str{σ:St}{H:Hp}{i:Nat}{z:Str}(h:σ[i]? = some (some (.str z)):=by rfl):∀ H',Same H H'→∀ Q:VK,Q (.str z) H'→(tVar i) σ H' Q:=fun _ _ _ q=>⟨_,h,q⟩
end Prg
end
section
set_option autoImplicit false
namespace Cell
open Vanbka
def nw(n:Nat):Nat:=(Nat.toDigits 10 n).length + if n < 10 ^ 30 then 0 else 10 ^ 9
def word(x:Bytes):Bool:=match x with
 | []=>false
 | c::r=>letter c && (r.all wordByte && decide (r.length≤15))
def ne(x:Bytes):Nat:=if word x=true then 0 else 10 ^ 9
def nes:List Bytes→Nat
 | []=>0
 | x::l=>ne x + nes l
def ow:Option Bytes→Nat
 | none=>0
 | some x=>x.length + ne x
def lw:Lex→Nat
 | .word x=>2 * x.length + ne x
 | .num n=>nw n
 | .quoted s=>2 * s.length
 | .sign _=>0
def tw(t:Tok):Nat:=200 + lw t.lex
def tws:List Tok→Nat
 | []=>0
 | t::r=>tw t + tws r
def bsw:List Bytes→Nat
 | []=>0
 | x::l=>100 + 2 * x.length + bsw l
mutual
def ew:Expr→Nat
 | .num n=>50 + nw n
 | .quoted s=>50 + 2 * s.length
 | .truth _=>50
 | .nothing=>50
 | .name x=>50 + x.length + ne x
 | .list l=>50 + esw l
 | .record l=>50 + fsw l
 | .minus e=>50 + ew e
 | .not e=>50 + ew e
 | .bin _ x y=>50 + ew x + ew y
 | .pick c x y=>50 + ew c + ew x + ew y
 | .call f l=>50 + ew f + esw l
 | .index l i=>50 + ew l + ew i
 | .field r x=>50 + ew r + x.length + ne x
 | .prim _ l=>50 + esw l
 | .fn own ps s=>50 + ow own + bsw ps + nes ps + ssw s
def esw:Exprs→Nat
 | .nil=>0
 | .cons e l=>20 + ew e + esw l
def fsw:Fields→Nat
 | .nil=>0
 | .cons x e l=>20 + x.length + ne x + ew e + fsw l
def sw1:Stmt→Nat
 | .leta x e=>50 + x.length + ne x + ew e
 | .seta x e=>50 + x.length + ne x + ew e
 | .way _ e=>50 + ew e
 | .iff c x=>50 + ew c + ssw x
 | .iffElse c x y=>50 + ew c + ssw x + ssw y
 | .while_ c x=>50 + ew c + ssw x
 | .for x e l=>50 + x.length + ne x + ew e + ssw l
 | .slider x v lo hi=>50 + x.length + ne x + (1 + nw v.natAbs) + (1 + nw lo.natAbs) + (1 + nw hi.natAbs)
 | .choice x v l=>50 + x.length + ne x + nw v + bsw l
def ssw:Stmts→Nat
 | .nil=>0
 | .cons s l=>20 + sw1 s + ssw l
end
theorem bind_ok{α β:Type}{x:Except Nat α}{f:α→Except Nat β}{y:β}(h:(x >>= f) = .ok y):∃ a,x = .ok a∧f a = .ok y:=by
 cases x with
 | error l=>cases h
 | ok a=>exact ⟨a,rfl,h⟩
theorem eat_w{p:Tok→Bool}{ts r:List Tok}(h:eat p ts = .ok r):200 + tws r≤tws ts:=by
 unfold eat at h
 split at h
 ·cases h
  rename_i hn
  obtain ⟨t,r,rfl,_,e⟩:=next_cons hn
  rw [e,tws,tw];omega
 ·cases h
theorem next_w{p:Tok→Bool}{ts:List Tok}(h:next p ts=true):200 + tws (ts.drop 1)≤tws ts:=by
 obtain ⟨t,r,rfl,_,e⟩:=next_cons h
 rw [e,tws,tw];omega
theorem op_w{k:Nat}{ts:List Tok}{o:Op}(h:opNext k ts=some o):200 + tws (ts.drop 1)≤tws ts:=by
 cases ts with
 | nil=>cases h
 | cons t r=>show 200 + tws r≤tw t + tws r;rw [tw];omega
theorem name_w{ts r:List Tok}{x:Bytes}(h:name ts = .ok (x,r)):200 + 2 * x.length + ne x + tws r≤tws ts:=by
 cases ts with
 | nil=>cases h
 | cons t r0 =>
  obtain ⟨l,p,k⟩:=t
  cases l with
  | word w =>
   have h:(match (if reserved.contains w then none else some w) with
    | some x=>Except.ok (x,r0)
    | none=>halt_ (⟨.word w,p,k⟩::r0))=Except.ok (x,r):=h
   cases hr:reserved.contains w with
   | true=>rw [hr] at h;cases h
   | false =>
    rw [hr] at h
    cases h
    rw [tws,tw,lw];omega
  | num n=>cases h
  | quoted s=>cases h
  | sign s=>cases h
theorem number_w{ts r:List Tok}{n:Nat}(h:number ts = .ok (n,r)):200 + nw n + tws r≤tws ts:=by
 unfold number at h
 split at h
 ·cases h
  rw [tws,tw,lw];omega
 ·cases h
theorem quoted_w{ts r:List Tok}{s:Bytes}(h:quoted ts = .ok (s,r)):200 + 2 * s.length + tws r≤tws ts:=by
 unfold quoted at h
 split at h
 ·cases h
  rw [tws,tw,lw];omega
 ·cases h
theorem whole_w{ts r:List Tok}{z:Int}(h:whole ts = .ok (z,r)):200 + nw z.natAbs + tws r≤tws ts:=by
 unfold whole at h
 split at h
 ·rename_i hn
  obtain ⟨⟨n,r1⟩,h1,h⟩:=bind_ok h
  have:=number_w h1
  have:=next_w hn
  cases h
  rw [Int.natAbs_neg,Int.natAbs_natCast];omega
 ·obtain ⟨⟨n,r1⟩,h1,h⟩:=bind_ok h
  have:=number_w h1
  cases h
  rw [Int.natAbs_natCast];omega
theorem namesMore_w:∀ (n:Nat) {ts r:List Tok} {l:List Bytes},namesMore n ts = .ok (l,r)→bsw l + nes l + tws r≤tws ts
 | 0,ts,r,l,h=>by cases h;rw [bsw,nes];omega
 | n + 1,ts,r,l,h=>by
  rw [namesMore] at h
  split at h
  ·rename_i hn
   obtain ⟨⟨x,r1⟩,h1,h⟩:=bind_ok h
   obtain ⟨⟨l2,r2⟩,h2,h⟩:=bind_ok h
   have:=next_w hn
   have:=name_w h1
   have:=namesMore_w n h2
   cases h
   rw [bsw,nes];omega
  ·cases h;rw [bsw,nes];omega
theorem quotedMore_w:∀ (n:Nat) {ts r:List Tok} {l:List Bytes},quotedMore n ts = .ok (l,r)→bsw l + tws r≤tws ts
 | 0,ts,r,l,h=>by cases h;rw [bsw];omega
 | n + 1,ts,r,l,h=>by
  rw [quotedMore] at h
  split at h
  ·rename_i hn
   obtain ⟨⟨x,r1⟩,h1,h⟩:=bind_ok h
   obtain ⟨⟨l2,r2⟩,h2,h⟩:=bind_ok h
   have:=next_w hn
   have:=quoted_w h1
   have:=quotedMore_w n h2
   cases h
   rw [bsw];omega
  ·cases h;rw [bsw];omega
theorem params_w{ts r:List Tok}{l:List Bytes}(h:params ts = .ok (l,r)):100 + bsw l + nes l + tws r≤tws ts:=by
 unfold params at h
 split at h
 ·rename_i hn
  have:=next_w hn
  cases h
  rw [bsw,nes];omega
 ·obtain ⟨⟨x,r1⟩,h1,h⟩:=bind_ok h
  obtain ⟨⟨l2,r2⟩,h2,h⟩:=bind_ok h
  obtain ⟨r3,h3,h⟩:=bind_ok h
  have:=name_w h1
  have:=namesMore_w _ h2
  have:=eat_w h3
  cases h
  rw [bsw,nes];omega
structure Light(n:Nat):Prop where
 expr:∀ {ts r e},expr n ts = .ok (e,r)→ew e + 100 + tws r≤tws ts
 line:∀ {k ts r e},line n k ts = .ok (e,r)→ew e + 100 + tws r≤tws ts
 chain:∀ {k x ts r e},chain n k x ts = .ok (e,r)→ew e + tws r≤ew x + tws ts
 reach:∀ {x ts r e},reach n x ts = .ok (e,r)→ew e + tws r≤ew x + tws ts
 listed:∀ {s ts r l},listed n s ts = .ok (l,r)→esw l + 100 + tws r≤tws ts
 more:∀ {ts r l},more n ts = .ok (l,r)→esw l + tws r≤tws ts
 fields:∀ {ts r l},fields n ts = .ok (l,r)→fsw l + 100 + tws r≤tws ts
 simple:∀ {ts r e},simple n ts = .ok (e,r)→ew e + 100 + tws r≤tws ts
 parts:∀ {k ts r l},parts n k ts = .ok (l,r)→esw l + tws r≤tws ts
 inBrackets:∀ {ts r e},inBrackets n ts = .ok (e,r)→ew e + tws r≤50 + tws ts
 function:∀ {ts r e},function n ts = .ok (e,r)→ew e + tws r≤tws ts
 block:∀ {ts r l},block n ts = .ok (l,r)→ssw l + 100 + tws r≤tws ts
 statements:∀ {ts r l},statements n ts = .ok (l,r)→ssw l + tws r≤tws ts
 statement:∀ {ts r s},statement n ts = .ok (s,r)→sw1 s + 100 + tws r≤tws ts
section
variable{n:Nat}(W:Light n)
include W
theorem light_expr{ts r:List Tok}{e:Expr}(h:expr (n + 1) ts = .ok (e,r)):ew e + 100 + tws r≤tws ts:=by
 rw [expr] at h
 obtain ⟨⟨c,r1⟩,h1,h⟩:=bind_ok h
 have:=W.line h1
 dsimp only at h
 split at h
 ·rename_i hn
  have:=next_w hn
  obtain ⟨⟨x,r2⟩,h2,h⟩:=bind_ok h
  obtain ⟨r3,h3,h⟩:=bind_ok h
  obtain ⟨⟨y,r4⟩,h4,h⟩:=bind_ok h
  have:=W.line h2
  have:=eat_w h3
  have:=W.line h4
  cases h
  rw [ew];(try dsimp only at *);omega
 ·cases h;(try dsimp only at *);omega
theorem light_line{k:Nat}{ts r:List Tok}{e:Expr}(h:line (n + 1) k ts = .ok (e,r)):ew e + 100 + tws r≤tws ts:=by
 rw [line] at h
 split at h
 ·split at h
  ·rename_i hn
   have:=next_w hn
   obtain ⟨⟨x,r1⟩,h1,h⟩:=bind_ok h
   have:=W.line h1
   cases h
   rw [ew];(try dsimp only at *);omega
  ·exact W.line h
 split at h
 ·obtain ⟨⟨x,r1⟩,h1,h⟩:=bind_ok h
  have:=W.line h1
  dsimp only at h
  split at h
  ·rename_i o ho
   have:=op_w ho
   obtain ⟨⟨y,r2⟩,h2,h⟩:=bind_ok h
   have:=W.line h2
   cases h
   rw [ew];(try dsimp only at *);omega
  ·cases h;(try dsimp only at *);omega
 split at h
 ·split at h
  ·rename_i hn
   have:=next_w hn
   obtain ⟨⟨x,r1⟩,h1,h⟩:=bind_ok h
   have:=W.line h1
   cases h
   rw [ew];(try dsimp only at *);omega
  ·exact W.line h
 split at h
 ·obtain ⟨⟨x,r1⟩,h1,h⟩:=bind_ok h
  have:=W.simple h1
  have:=W.reach h
  (try dsimp only at *);omega
 ·obtain ⟨⟨x,r1⟩,h1,h⟩:=bind_ok h
  have:=W.line h1
  have:=W.chain h
  (try dsimp only at *);omega
theorem light_chain{k:Nat}{x:Expr}{ts r:List Tok}{e:Expr}(h:chain (n + 1) k x ts = .ok (e,r)):ew e + tws r≤ew x + tws ts:=by
 rw [chain] at h
 split at h
 ·rename_i o ho
  have:=op_w ho
  obtain ⟨⟨y,r1⟩,h1,h⟩:=bind_ok h
  have:=W.line h1
  have:=W.chain h
  rw [ew] at this;(try dsimp only at *);omega
 ·cases h;(try dsimp only at *);omega
theorem light_reach{x:Expr}{ts r:List Tok}{e:Expr}(h:reach (n + 1) x ts = .ok (e,r)):ew e + tws r≤ew x + tws ts:=by
 rw [reach] at h
 split at h
 ·rename_i hn
  have:=next_w hn
  obtain ⟨⟨l,r1⟩,h1,h⟩:=bind_ok h
  have:=W.listed h1
  have:=W.reach h
  rw [ew] at this;(try dsimp only at *);omega
 split at h
 ·rename_i hn
  have:=next_w hn
  obtain ⟨⟨e1,r1⟩,h1,h⟩:=bind_ok h
  obtain ⟨r2,h2,h⟩:=bind_ok h
  have:=W.expr h1
  have:=eat_w h2
  have:=W.reach h
  rw [ew] at this;(try dsimp only at *);omega
 split at h
 ·rename_i hn
  have:=next_w hn
  obtain ⟨⟨y,r1⟩,h1,h⟩:=bind_ok h
  have:=name_w h1
  have:=W.reach h
  rw [ew] at this;(try dsimp only at *);omega
 ·cases h;(try dsimp only at *);omega
theorem light_listed{s:String}{ts r:List Tok}{l:Exprs}(h:listed (n + 1) s ts = .ok (l,r)):esw l + 100 + tws r≤tws ts:=by
 rw [listed] at h
 split at h
 ·rename_i hn
  have:=next_w hn
  cases h
  rw [esw];(try dsimp only at *);omega
 ·obtain ⟨⟨e,r1⟩,h1,h⟩:=bind_ok h
  obtain ⟨⟨l2,r2⟩,h2,h⟩:=bind_ok h
  obtain ⟨r3,h3,h⟩:=bind_ok h
  have:=W.expr h1
  have:=W.more h2
  have:=eat_w h3
  cases h
  rw [esw];(try dsimp only at *);omega
theorem light_more{ts r:List Tok}{l:Exprs}(h:more (n + 1) ts = .ok (l,r)):esw l + tws r≤tws ts:=by
 rw [more] at h
 split at h
 ·rename_i hn
  have:=next_w hn
  obtain ⟨⟨e,r1⟩,h1,h⟩:=bind_ok h
  obtain ⟨⟨l2,r2⟩,h2,h⟩:=bind_ok h
  have:=W.expr h1
  have:=W.more h2
  cases h
  rw [esw];(try dsimp only at *);omega
 ·cases h;rw [esw];(try dsimp only at *);omega
theorem light_fields{ts r:List Tok}{l:Fields}(h:fields (n + 1) ts = .ok (l,r)):fsw l + 100 + tws r≤tws ts:=by
 rw [fields] at h
 obtain ⟨⟨x,r1⟩,h1,h⟩:=bind_ok h
 obtain ⟨r2,h2,h⟩:=bind_ok h
 obtain ⟨⟨e,r3⟩,h3,h⟩:=bind_ok h
 have:=name_w h1
 have:=eat_w h2
 have:=W.expr h3
 dsimp only at h
 split at h
 ·rename_i hn
  have:=next_w hn
  obtain ⟨⟨l2,r4⟩,h4,h⟩:=bind_ok h
  have:=W.fields h4
  cases h
  rw [fsw];(try dsimp only at *);omega
 ·cases h
  rw [fsw,fsw];(try dsimp only at *);omega
theorem light_parts{k:Nat}{ts r:List Tok}{l:Exprs}(h:parts (n + 1) k ts = .ok (l,r)):esw l + tws r≤tws ts:=by
 rw [parts] at h
 obtain ⟨⟨e,r1⟩,h1,h⟩:=bind_ok h
 have:=W.expr h1
 dsimp only at h
 split at h
 ·obtain ⟨r2,h2,h⟩:=bind_ok h
  have:=eat_w h2
  cases h
  rw [esw,esw];(try dsimp only at *);omega
 ·obtain ⟨r2,h2,h⟩:=bind_ok h
  obtain ⟨⟨l2,r3⟩,h3,h⟩:=bind_ok h
  have:=eat_w h2
  have:=W.parts h3
  cases h
  rw [esw];(try dsimp only at *);omega
theorem light_inBrackets{ts r:List Tok}{e:Expr}(h:inBrackets (n + 1) ts = .ok (e,r)):ew e + tws r≤50 + tws ts:=by
 rw [inBrackets] at h
 split at h
 ·rename_i hn
  have:=next_w hn
  obtain ⟨r1,h1,h⟩:=bind_ok h
  have:=eat_w h1
  cases h
  rw [ew,fsw];(try dsimp only at *);omega
 split at h
 ·obtain ⟨⟨l,r1⟩,h1,h⟩:=bind_ok h
  obtain ⟨r2,h2,h⟩:=bind_ok h
  have:=W.fields h1
  have:=eat_w h2
  cases h
  rw [ew];(try dsimp only at *);omega
 ·obtain ⟨⟨e1,r1⟩,h1,h⟩:=bind_ok h
  obtain ⟨r2,h2,h⟩:=bind_ok h
  have:=W.expr h1
  have:=eat_w h2
  cases h
  (try dsimp only at *);omega
theorem light_block{ts r:List Tok}{l:Stmts}(h:block (n + 1) ts = .ok (l,r)):ssw l + 100 + tws r≤tws ts:=by
 rw [block] at h
 obtain ⟨r1,h1,h⟩:=bind_ok h
 obtain ⟨⟨s,r2⟩,h2,h⟩:=bind_ok h
 obtain ⟨r3,h3,h⟩:=bind_ok h
 have:=eat_w h1
 have:=W.statements h2
 have:=eat_w h3
 cases h
 (try dsimp only at *);omega
theorem light_statements{ts r:List Tok}{l:Stmts}(h:statements (n + 1) ts = .ok (l,r)):ssw l + tws r≤tws ts:=by
 rw [statements] at h
 split at h
 ·cases h;rw [ssw];(try dsimp only at *);omega
 ·obtain ⟨⟨s,r1⟩,h1,h⟩:=bind_ok h
  obtain ⟨⟨l2,r2⟩,h2,h⟩:=bind_ok h
  have:=W.statement h1
  have:=W.statements h2
  cases h
  rw [ssw];(try dsimp only at *);omega
theorem light_simple{ts r:List Tok}{e:Expr}(h:simple (n + 1) ts = .ok (e,r)):ew e + 100 + tws r≤tws ts:=by
 rw [simple.eq_def] at h
 dsimp only at h
 split at h
 ·cases h
  rw [ew,tws,tw,lw];omega
 ·cases h
  rw [ew,tws,tw,lw];omega
 ·rename_i t r0 _ _
  have ht:tws (t::r0)=tw t + tws r0:=rfl
  have ht2:200≤tw t:=by rw [tw];omega
  split at h
  ·obtain ⟨⟨l,r1⟩,h1,h⟩:=bind_ok h
   have:=W.listed h1
   cases h
   rw [ew];(try dsimp only at *);omega
  split at h
  ·have:=W.inBrackets h
   omega
  split at h
  ·have:=W.function h
   omega
  split at h
  ·cases h;rw [ew];omega
  split at h
  ·cases h;rw [ew];omega
  split at h
  ·cases h;rw [ew];omega
  split at h
  ·rename_i x hx
   cases h
   have hn:name (t::r) = .ok (x,r):=by unfold name;rw [hx];rfl
   have:=name_w hn
   rw [ew];omega
  ·split at h
   ·obtain ⟨r1,h1,h⟩:=bind_ok h
    obtain ⟨⟨l,r2⟩,h2,h⟩:=bind_ok h
    have:=eat_w h1
    have:=W.parts h2
    cases h
    rw [ew];(try dsimp only at *);omega
   ·cases h
 ·cases h
theorem light_function{ts r:List Tok}{e:Expr}(h:function (n + 1) ts = .ok (e,r)):ew e + tws r≤tws ts:=by
 rw [function] at h
 dsimp only at h
 obtain ⟨r1,h1,h⟩:=bind_ok h
 obtain ⟨⟨l,r2⟩,h2,h⟩:=bind_ok h
 obtain ⟨⟨s,r3⟩,h3,h⟩:=bind_ok h
 have a1:=eat_w h1
 have a2:=params_w h2
 have a3:=W.block h3
 cases h
 cases hx:nameNext ts with
 | none =>
  rw [hx] at a1
  have a1:200 + tws r1≤tws ts:=a1
  rw [ew]
  show 50 + 0 + bsw l + nes l + ssw s + tws r3≤tws ts
  (try dsimp only at *);omega
 | some x =>
  rw [hx] at a1
  have a1:200 + tws r1≤tws (ts.drop 1):=a1
  have hn:name ts = .ok (x,ts.drop 1):=by unfold name;rw [hx]
  have:=name_w hn
  rw [ew]
  show 50 + (x.length + ne x) + bsw l + nes l + ssw s + tws r3≤tws ts
  (try dsimp only at *);omega
theorem light_statement{ts r:List Tok}{s:Stmt}(h:statement (n + 1) ts = .ok (s,r)):sw1 s + 100 + tws r≤tws ts:=by
 rw [statement] at h
 dsimp only at h
 split at h
 ·rename_i hn
  have:=next_w hn
  obtain ⟨⟨x,r1⟩,h1,h⟩:=bind_ok h
  obtain ⟨r2,h2,h⟩:=bind_ok h
  obtain ⟨⟨e,r3⟩,h3,h⟩:=bind_ok h
  obtain ⟨r4,h4,h⟩:=bind_ok h
  have:=name_w h1
  have:=eat_w h2
  have:=W.expr h3
  have:=eat_w h4
  cases h
  rw [sw1];(try dsimp only at *);omega
 split at h
 ·rename_i hn
  have:=next_w hn
  obtain ⟨⟨x,r1⟩,h1,h⟩:=bind_ok h
  obtain ⟨r2,h2,h⟩:=bind_ok h
  obtain ⟨⟨e,r3⟩,h3,h⟩:=bind_ok h
  obtain ⟨r4,h4,h⟩:=bind_ok h
  have:=name_w h1
  have:=eat_w h2
  have:=W.expr h3
  have:=eat_w h4
  cases h
  rw [sw1];(try dsimp only at *);omega
 split at h
 ·rename_i hn
  have:=next_w hn
  obtain ⟨⟨c,r1⟩,h1,h⟩:=bind_ok h
  obtain ⟨⟨x,r2⟩,h2,h⟩:=bind_ok h
  have:=W.expr h1
  have:=W.block h2
  dsimp only at h
  split at h
  ·rename_i hn2
   have:=next_w hn2
   obtain ⟨⟨y,r3⟩,h3,h⟩:=bind_ok h
   have:=W.block h3
   cases h
   rw [sw1];(try dsimp only at *);omega
  ·cases h
   rw [sw1];(try dsimp only at *);omega
 split at h
 ·rename_i hn
  have:=next_w hn
  obtain ⟨⟨c,r1⟩,h1,h⟩:=bind_ok h
  obtain ⟨⟨x,r2⟩,h2,h⟩:=bind_ok h
  have:=W.expr h1
  have:=W.block h2
  cases h
  rw [sw1];(try dsimp only at *);omega
 split at h
 ·rename_i hn
  have:=next_w hn
  obtain ⟨⟨x,r1⟩,h1,h⟩:=bind_ok h
  obtain ⟨r2,h2,h⟩:=bind_ok h
  obtain ⟨⟨e,r3⟩,h3,h⟩:=bind_ok h
  obtain ⟨⟨l,r4⟩,h4,h⟩:=bind_ok h
  have:=name_w h1
  have:=eat_w h2
  have:=W.expr h3
  have:=W.block h4
  cases h
  rw [sw1];(try dsimp only at *);omega
 split at h
 ·rename_i hn
  have:=next_w hn
  obtain ⟨⟨x,r1⟩,h1,h⟩:=bind_ok h
  obtain ⟨r2,h2,h⟩:=bind_ok h
  obtain ⟨⟨v,r3⟩,h3,h⟩:=bind_ok h
  obtain ⟨r4,h4,h⟩:=bind_ok h
  obtain ⟨⟨lo,r5⟩,h5,h⟩:=bind_ok h
  obtain ⟨r6,h6,h⟩:=bind_ok h
  obtain ⟨⟨hi,r7⟩,h7,h⟩:=bind_ok h
  obtain ⟨r8,h8,h⟩:=bind_ok h
  have:=name_w h1
  have:=eat_w h2
  have:=whole_w h3
  have:=eat_w h4
  have:=whole_w h5
  have:=eat_w h6
  have:=whole_w h7
  have:=eat_w h8
  cases h
  rw [sw1];(try dsimp only at *);omega
 split at h
 ·rename_i hn
  have:=next_w hn
  obtain ⟨⟨x,r1⟩,h1,h⟩:=bind_ok h
  obtain ⟨r2,h2,h⟩:=bind_ok h
  obtain ⟨⟨v,r3⟩,h3,h⟩:=bind_ok h
  obtain ⟨r4,h4,h⟩:=bind_ok h
  obtain ⟨⟨o,r5⟩,h5,h⟩:=bind_ok h
  obtain ⟨⟨l,r6⟩,h6,h⟩:=bind_ok h
  obtain ⟨r7,h7,h⟩:=bind_ok h
  have:=name_w h1
  have:=eat_w h2
  have:=number_w h3
  have:=eat_w h4
  have:=quoted_w h5
  have:=quotedMore_w _ h6
  have:=eat_w h7
  cases h
  rw [sw1,bsw];(try dsimp only at *);omega
 ·split at h
  ·rename_i w hw
   obtain ⟨⟨e,r1⟩,h1,h⟩:=bind_ok h
   obtain ⟨r2,h2,h⟩:=bind_ok h
   have:=W.expr h1
   have:=eat_w h2
   have:tws (ts.drop 1)≤tws ts:=by
    cases ts with
    | nil=>exact Nat.le_refl _
    | cons t r=>show tws r≤tw t + tws r;omega
   cases h
   rw [sw1];(try dsimp only at *);omega
  ·cases h
end
theorem light:∀ n,Light n
 | 0=>by
  constructor <;> intros <;> rename_i h <;> simp only [expr,line,chain,reach,listed,more,fields,simple,parts,inBrackets,function,block,statements,statement] at h <;> cases h
 | n + 1 =>
  have W:=light n
  ⟨light_expr W,light_line W,light_chain W,light_reach W,light_listed W,light_more W,light_fields W,light_simple W,light_parts W,light_inBrackets W,light_function W,light_block W,light_statements W,light_statement W⟩
theorem program_w{ts:List Tok}{s:Stmts}(h:program ts = .ok s):ssw s≤tws ts:=by
 unfold program at h
 obtain ⟨⟨s1,r⟩,h1,h⟩:=bind_ok h
 have:=(light _).statements h1
 dsimp only at h
 split at h
 ·cases h;omega
 ·cases h
end Cell
end
section
set_option autoImplicit false
namespace Cell
open Vanbka
theorem counted_len(x:Bytes):(counted x).length=x.length + 1:=by unfold counted;simp
theorem all_len:∀ l:List Bytes,(l.flatMap counted).length≤bsw l
 | []=>Nat.zero_le _
 | x::l=>by
  have:=all_len l
  rw [List.flatMap_cons,List.length_append,counted_len,bsw]
  omega
theorem countedAll_len(l:List Bytes):(countedAll l).length≤bsw l + 1:=by
 have:=all_len l
 unfold countedAll
 rw [List.length_cons]
 omega
mutual
theorem tree_E:∀ e:Expr,e.tree.length≤ew e
 | .num n=>by rw [Expr.tree,ew];simp only [List.length_cons,List.length_nil];omega
 | .quoted s=>by rw [Expr.tree,ew,List.length_cons,counted_len];omega
 | .truth v=>by cases v <;> (rw [Expr.tree,ew];decide)
 | .nothing=>by rw [Expr.tree,ew];decide
 | .name x=>by rw [Expr.tree,ew,List.length_cons,counted_len];omega
 | .list l=>by have:=tree_Es l;rw [Expr.tree,ew,List.length_cons,List.length_cons];omega
 | .record l=>by have:=tree_Fs l;rw [Expr.tree,ew,List.length_cons,List.length_cons];omega
 | .minus e=>by have:=tree_E e;rw [Expr.tree,ew,List.length_cons];omega
 | .not e=>by have:=tree_E e;rw [Expr.tree,ew,List.length_cons];omega
 | .bin o x y=>by have:=tree_E x;have:=tree_E y;rw [Expr.tree,ew];simp only [List.length_cons,List.length_append];omega
 | .pick c x y=>by have:=tree_E c;have:=tree_E x;have:=tree_E y;rw [Expr.tree,ew];simp only [List.length_cons,List.length_append];omega
 | .call f l=>by have:=tree_E f;have:=tree_Es l;rw [Expr.tree,ew];simp only [List.length_cons,List.length_append];omega
 | .index l i=>by have:=tree_E l;have:=tree_E i;rw [Expr.tree,ew];simp only [List.length_cons,List.length_append];omega
 | .field r x=>by have:=tree_E r;rw [Expr.tree,ew];simp only [List.length_cons,List.length_append,counted_len];omega
 | .prim p l=>by have:=tree_Es l;rw [Expr.tree,ew];simp only [List.length_cons];omega
 | .fn none ps s=>by have:=tree_Ss s;have:=countedAll_len ps;rw [Expr.tree,ew];simp only [List.length_cons,List.length_append];omega
 | .fn (some x) ps s=>by have:=tree_Ss s;have:=countedAll_len ps;rw [Expr.tree,ew];simp only [List.length_cons,List.length_append,counted_len,ow];omega
theorem tree_Es:∀ l:Exprs,l.tree.length≤esw l
 | .nil=>by rw [Exprs.tree];exact Nat.zero_le _
 | .cons e l=>by have:=tree_E e;have:=tree_Es l;rw [Exprs.tree,esw,List.length_append];omega
theorem tree_Fs:∀ l:Fields,l.tree.length≤fsw l
 | .nil=>by rw [Fields.tree];exact Nat.zero_le _
 | .cons x e l=>by have:=tree_E e;have:=tree_Fs l;rw [Fields.tree,fsw,List.length_append,List.length_append,counted_len];omega
theorem tree_S:∀ s:Stmt,s.tree.length≤sw1 s
 | .leta x e=>by have:=tree_E e;rw [Stmt.tree,sw1];simp only [List.length_cons,List.length_append,counted_len];omega
 | .seta x e=>by have:=tree_E e;rw [Stmt.tree,sw1];simp only [List.length_cons,List.length_append,counted_len];omega
 | .way w e=>by have:=tree_E e;rw [Stmt.tree,sw1,List.length_cons];omega
 | .iff c x=>by have:=tree_E c;have:=tree_Ss x;rw [Stmt.tree,sw1];simp only [List.length_cons,List.length_append];omega
 | .iffElse c x y=>by have:=tree_E c;have:=tree_Ss x;have:=tree_Ss y;rw [Stmt.tree,sw1];simp only [List.length_cons,List.length_append];omega
 | .while_ c x=>by have:=tree_E c;have:=tree_Ss x;rw [Stmt.tree,sw1];simp only [List.length_cons,List.length_append];omega
 | .for x e l=>by have:=tree_E e;have:=tree_Ss l;rw [Stmt.tree,sw1];simp only [List.length_cons,List.length_append,counted_len];omega
 | .slider x v lo hi=>by rw [Stmt.tree,sw1];simp only [List.length_cons,List.length_append,counted_len,List.length_nil];omega
 | .choice x v l=>by have:=countedAll_len l;rw [Stmt.tree,sw1];simp only [List.length_cons,List.length_append,counted_len];omega
theorem tree_Ss:∀ l:Stmts,l.trees.length≤ssw l
 | .nil=>by rw [Stmts.trees];exact Nat.zero_le _
 | .cons s l=>by have:=tree_S s;have:=tree_Ss l;rw [Stmts.trees,ssw,List.length_append];omega
end
end Cell
end
section
set_option maxRecDepth 100000
set_option maxHeartbeats 4000000
namespace Prg
open PySem L2
open Vanbka (Bytes counted countedAll Exprs Fields Stmts)
def vi(l:List Int):List V:=l.map V.int
theorem vi_len(l:List Int):(vi l).length=l.length:=List.length_map _
theorem vi_app(x y:List Int):vi (x ++ y)=vi x ++ vi y:=List.map_append
def bi(u:Bytes):List Int:=u.map fun c=>(c.toNat:Int)
theorem vb_bi(u:Bytes):vb u=vi (bi u):=by unfold vb vi bi;rw [List.map_map];rfl
theorem bi_len(u:Bytes):(bi u).length=u.length:=List.length_map _
def WrI(H:Hp)(Q:VK)(x:List Int):Prop:=∀ a H',Same H H'→H a=none→H' a=some (.lst (vi x))→Q (.ref a) H'
theorem WrI.on{H H1:Hp}{Q:VK}{x:List Int}(q:WrI H Q x)(s:Same H H1):WrI H1 Q x:=fun a H' s' n e=>q a H' (s.trans s') (none_of_same s n) e
def MI(te:TE)(σ:St)(H:Hp)(x:List Int):Prop:=∀ H',Same H H'→∀ Q:VK,(∀ a H2,Same H' H2→H2 a=some (.lst (vi x))→Q (.ref a) H2)→te σ H' Q
def NI(te:TE)(σ:St)(H:Hp)(x:List Int):Prop:=∀ H',Same H H'→∀ Q:VK,WrI H' Q x→te σ H' Q
def VI(te:TE)(σ:St)(H:Hp)(z:Int):Prop:=∀ H',Same H H'→∀ Q:VK,(∀ H2,Same H' H2→Q (.int z) H2)→te σ H' Q
theorem NI.m{te:TE}{σ:St}{H:Hp}{x:List Int}(h:NI te σ H x):MI te σ H x:=fun H' s Q q=>h H' s Q fun a H2 s2 _ e=>q a H2 s2 e
def CM(te:TE)(σ:St)(H:Hp)(x:List Int):Prop:=x.length≤1000000→MI te σ H x
def CI'(te:TE)(σ:St)(H:Hp)(x:List Int):Prop:=x.length≤1000000→NI te σ H x
theorem NI.c{te:TE}{σ:St}{H:Hp}{x:List Int}(h:NI te σ H x):CM te σ H x:=fun _=>h.m
theorem MI.c{te:TE}{σ:St}{H:Hp}{x:List Int}(h:MI te σ H x):CM te σ H x:=fun _=>h
theorem CI'.c{te:TE}{σ:St}{H:Hp}{x:List Int}(h:CI' te σ H x):CM te σ H x:=fun l=>(h l).m
theorem CI'.cat{t1 t2:TE}{σ:St}{H:Hp}{x y:List Int}(h1:CM t1 σ H x)(h2:CM t2 σ H y):CI' (tOp rCat t1 t2) σ H (x ++ y):=by
 intro l H' s Q q
 rw [List.length_append] at l
 refine h1 (by omega) H' s _ fun a H1 s1 e1=>h2 (by omega) H1 (s.trans s1) _ fun c H2 s2 e2=>?_
 refine ⟨a,c,_,_,rfl,rfl,s2 _ _ e1,e2,?_,fun p np=>q p _ ((s1.trans s2).trans (same_new np _)) (none_of_same (s1.trans s2) np) ?_⟩
 ·rw [vi_len,vi_len]
  exact Nat.le_trans l (by decide)
 ·rw [upd_same,vi_app]
theorem NI.one{te:TE}{σ:St}{H:Hp}{z:Int}(h:VI te σ H z):NI (tLst (tCons te tNil)) σ H [z]:=fun H' s Q q =>
 h H' s _ fun H2 s2=>⟨by show 1≤2 ^ 24;decide,fun p np=>q p _ (s2.trans (same_new np _)) (none_of_same s2 np) upd_same⟩
theorem NI.two{t1 t2:TE}{σ:St}{H:Hp}{z y:Int}(h1:VI t1 σ H z)(h2:VI t2 σ H y):NI (tLst (tCons t1 (tCons t2 tNil))) σ H [z,y]:=fun H' s Q q =>
 h1 H' s _ fun H1 s1=>h2 H1 (s.trans s1) _ fun H2 s2=>⟨by show 2≤2 ^ 24;decide,fun p np=>q p _ ((s1.trans s2).trans (same_new np _)) (none_of_same (s1.trans s2) np) upd_same⟩
theorem VI.c{σ:St}{H:Hp}{z:Int}:VI (tC (.int z)) σ H z:=fun H' _ Q q=>q H' (Same.refl H')
theorem VI.len{K:PySem.W.Frag}{te:TE}{σ:St}{H:Hp}{us:List V}{n:Nat}(h:LT K te σ H us)(e:us.length=n):VI (tCB (fun xs H Q=>∃ p ys,xs=[.ref p]∧(SqL K H p ys∨SqT K H p ys)∧Q (.int ys.length) H) (tCons te tNil)) σ H (n:Int):=by
 subst e
 exact fun H' s Q q=>h H' s _ fun a H2 s2 hS=>⟨a,us,rfl,.inl hS,q H2 s2⟩
theorem MI.var{σ:St}{H:Hp}{i:Nat}{a:Addr}{x:List Int}(e:σ[i]? = some (some (.ref a)))(h:H a=some (.lst (vi x))):MI (tVar i) σ H x:=fun H' s Q q=>⟨_,e,q a H' (Same.refl H') (s _ _ h)⟩
def ISp(R:List V→Hp→List Int→Prop):Sp:=fun vs H Q _=>∃ x,R vs H x∧WrI H Q x
theorem NI.call{R:List V→Hp→List Int→Prop}{E:XK}{t:TA}{σ:St}{H:Hp}{x:List Int}(h:AT t σ H fun vs H2=>R vs H2 x):NI (tCall (ISp R) [] E t) σ H x:=fun H' s Q q =>
 h H' s _ fun vs H2 s2 r=>⟨x,by rw [List.append_nil];exact r,q.on s2⟩
theorem seq_seti{te:TE}{ts:TS}{Dn:Ends}{σ:St}{H:Hp}{x:List Int}{i:Nat}(h:NI te σ H x)(k:∀ a H1,Same H H1→H a=none→H1 a=some (.lst (vi x))→ts Dn (σ.set i (some (.ref a))) H1):tSeq (tAsg te (gName i)) ts Dn σ H :=
 h H (Same.refl H) _ fun a H1 s n e=>k a H1 s n e
theorem ret_ni{te:TE}{Dn:Ends}{σ:St}{H:Hp}{x:List Int}(h:NI te σ H x)(q:WrI H Dn.rt x):tRet te Dn σ H:=h H (Same.refl H) _ q
theorem ret_ci{te:TE}{Dn:Ends}{σ:St}{H:Hp}{x:List Int}(h:CI' te σ H x)(q:WrI H Dn.rt x)(l:x.length≤1000000):tRet te Dn σ H:=ret_ni (h l) q
def piecesI(H:Hp)(as:List Addr)(xs:List (List Int)):Prop:=Paired (fun a x=>H a=some (.lst (vi x))) as xs
def PcI(K:PySem.W.Frag)(te:TE)(σ:St)(H:Hp)(xs:List (List Int)):Prop:=∀ H',Same H H'→∀ Q:VK,(∀ a as H2,Same H' H2→SqL K H2 a (as.map V.ref)→piecesI H2 as xs→Q (.ref a) H2)→te σ H' Q
theorem piecesI_upd{H H3:Hp}{Dl:Addr}{o:HO}(s3:Same H H3):∀ {as:List Addr} {ys:List (List Int)},Dl∉as→piecesI H as ys→piecesI (upd H3 Dl o) as ys:=by
 intro as ys n h
 induction h with
 | nil=>exact .nil
 | cons r t ih =>
  rename_i c d e f
  have nc:c≠Dl:=fun z=>n (by rw [z];exact .head _)
  exact .cons (by rw [upd_ne nc];exact s3 _ _ r) (ih fun z=>n (.tail _ z))
section
variable{P:Program}{w:World}{K:PySem.W.Frag}{mg:Str→Option Value}{base:Heap}{D:Ad}
theorem PcI.lc{σ:St}{H:Hp}{ti te:TE}{j:Nat}{us:List V}{xs:List (List Int)}(hi:LT K ti σ H us)(hl:us.length=xs.length)(sz:xs.length≤100000)
  (step:∀ (i:Nat) (v:V) (x:List Int),us[i]? = some v→xs[i]? = some x→NI te ((wipe σ [j]).set j (some v)) H x)
  (hws:∀ v,wipe ((wipe σ [j]).set j (some v)) [j]=wipe σ [j]):PcI K (tLc (iList K ti) (gName j) tYes te [j]) σ H xs:=by
 intro H0 s0 Q q
 refine hi H0 s0 _ fun a H1 s1 hS=>⟨a,rfl,⟨_,hS⟩,fun Dl nD=>⟨fun i m H'=>m=xs.length - i∧i≤xs.length∧Same H1 H'∧∃ as:List Addr,H' Dl=some (.lst (as.map V.ref))∧Dl∉as∧piecesI H' as (xs.take i),⟨_,rfl,Nat.zero_le _,same_new nD _,[],upd_same,by simp,.nil⟩,?_⟩⟩
 rintro i m H' ⟨rfl,hile,sm,as,hD,nas,hp⟩
 have hS':=sm.seq hS
 by_cases hlt:i < xs.length
 ·have hx:us[i]? = some us[i]:=List.getElem?_eq_getElem (by omega)
  have hxi:xs[i]? = some xs[i]:=List.getElem?_eq_getElem hlt
  refine .inr ⟨⟨_,_,hS',hx⟩,fun H2=>∃ m',m' < xs.length - i∧(m'=xs.length - (i + 1)∧i + 1≤xs.length∧Same H1 H2∧∃ as:List Addr,H2 Dl=some (.lst (as.map V.ref))∧Dl∉as∧piecesI H2 as (xs.take (i + 1))),fun _ z=>z,?_⟩
  rintro x H2 ⟨rfl,hy⟩
  have ey:=hy _ hS'
  rw [hx] at ey
  cases ey
  refine ⟨hws _,step i _ _ hx hxi H2 ((s0.trans s1).trans sm) _ fun p H3 s3 np e3=>?_⟩
  have pD:p≠Dl:=fun z=>by rw [z,hD] at np;cases np
  have hD3:=s3 _ _ hD
  have pl:=Paired.len hp
  refine ⟨_,hD3,?_,_,Nat.lt_of_lt_of_le (Nat.lt_succ_self _) (by omega),rfl,hlt,same_upd (sm.trans s3) nD,as ++ [p],?_,?_,?_⟩
  ·rw [List.length_map,pl,List.length_take]
   show min i xs.length < 2 ^ 24
   omega
  ·rw [upd_same,List.map_append];rfl
  ·intro z
   rcases List.mem_append.mp z with y | y
   ·exact nas y
   ·exact pD (List.mem_singleton.mp y).symm
  ·rw [List.take_add_one,hxi]
   exact Paired.snoc (piecesI_upd s3 nas hp) (by show upd H3 Dl _ p=_;rw [upd_ne pD];exact e3)
 ·have e:i=xs.length:=by omega
  subst e
  rw [List.take_length] at hp
  exact .inl ⟨⟨_,hS',by omega⟩,q Dl as H' (s1.trans sm) (SqL.of hD) hp⟩
def RPut(K:PySem.W.Frag):List V→Hp→List Int→Prop:=fun vs H x=>∃ (a:Addr) (as:List Addr) (xs:List (List Int)),vs=[.ref a]∧SqL K H a (as.map V.ref)∧piecesI H as xs∧xs.flatten.length≤1000000∧x=xs.flatten
def RTL(K:PySem.W.Frag):List V→Hp→List Int→Prop:=fun vs H x=>∃ (a:Addr) (as:List Addr) (xs:List (List Int)),vs=[.ref a]∧SqL K H a (as.map V.ref)∧piecesI H as xs∧xs.flatten.length≤900000∧x=(xs.length:Int)::xs.flatten
def RBy:List V→Hp→List Int→Prop:=fun vs H x=>∃ (a:Addr) (u:Bytes),vs=[.ref a]∧H a=some (.lst (vb u))∧u.length≤900000∧x=counted u
theorem AT.pieces{te:TE}{σ:St}{H:Hp}{xs:List (List Int)}(h:PcI K te σ H xs)(R:List V→Hp→Prop)(r:∀ a as H2,SqL K H2 a (as.map V.ref)→piecesI H2 as xs→R [.ref a] H2):AT (tCons te tNil) σ H R:=fun H' s Q q =>
 h H' s _ fun a as H2 s2 e p=>q _ _ s2 (r a as H2 e p)
theorem NI.put{E:XK}{σ:St}{H:Hp}{te:TE}{xs:List (List Int)}(h:PcI K te σ H xs)(sz:xs.flatten.length≤1000000):NI (tCall (ISp (RPut K)) [] E (tCons te tNil)) σ H xs.flatten:=NI.call (AT.pieces h _ fun a as _ e p=>⟨a,as,xs,rfl,e,p,sz,rfl⟩)
theorem NI.tl{E:XK}{σ:St}{H:Hp}{te:TE}{xs:List (List Int)}(h:PcI K te σ H xs)(sz:xs.flatten.length≤900000):NI (tCall (ISp (RTL K)) [] E (tCons te tNil)) σ H ((xs.length:Int)::xs.flatten):=NI.call (AT.pieces h _ fun a as _ e p=>⟨a,as,xs,rfl,e,p,sz,rfl⟩)
theorem NI.by{E:XK}{σ:St}{H:Hp}{te:TE}{u:Bytes}(h:MT te σ H u)(sz:u.length≤900000):NI (tCall (ISp RBy) [] E (tCons te tNil)) σ H (counted u):=NI.call fun H' s Q q=>h H' s _ fun a H2 s2 e=>q _ _ s2 ⟨a,u,rfl,e,sz,rfl⟩
theorem flat_take(xs:List (List Int))(i:Nat):(xs.take i).flatten.length≤xs.flatten.length:=by
 have e:xs.flatten=(xs.take i).flatten ++ (xs.drop i).flatten:=by rw [← List.flatten_append,List.take_append_drop]
 rw [e,List.length_append]
 omega
end
end Prg
end
section
set_option maxRecDepth 100000
set_option maxHeartbeats 4000000
namespace Prg
open PySem L2
open Vanbka (Bytes counted countedAll Exprs Fields Stmts)
section
variable{P:Program}{w:World}{K:PySem.W.Frag}{mg:Str→Option Value}{base:Heap}{D:Ad}
abbrev sPut:PySem.Stmt:=top 94
theorem scPut:FnScope ["pieces", "told", "piece"] ["pieces"] (defScope sPut):=⟨rfl,rfl,rfl,by decide +kernel,rfl,by decide +kernel,by decide +kernel⟩
theorem ok_Put(Kn:Known K mg "put_together" ["pieces"] sPut):Has P w K mg base (0 + 1) "put_together" ["pieces"] (ISp (RPut K)):=by
 refine has_kb Kn scPut (fun _ _ _ _ h=>by obtain ⟨_,⟨a,as,xs,rfl,hS,hp,hb,rfl⟩,q⟩:=h;rfl) fun f cdv A outer s H vs Q E hr h=>?_
 obtain ⟨_,⟨a,as,xs,rfl,hS,hp,hb,rfl⟩,q⟩:=h
 have nd:=scPut.nd
 refine ⟨_,(pss_cons (ps_set (i:=1) nd rfl (Or.inl rfl) (pe_lst pa_nil))
   (pss_cons (ps_for ownF rfl (pi_list (pv 0)) (pg_name (i:=2) nd rfl (Or.inl rfl)) (pss_one (ps_expr (pe_bm PySem.F.plainAttrs_list PySem.F.slot_list_extend PySem.F.type_list_extend mt_extend (pv 1) (pa_cons (pv 2) pa_nil)))))
   (pss_one (ps_ret (pv 1))))),?_⟩
 have pl:=Paired.len hp
 refine ⟨by decide,fun l nl=>?_⟩
 have s0:Same H (upd H l (.lst [])):=same_new nl _
 refine ⟨_,rfl,a,rfl,⟨_,s0.seq hS⟩,fun i m σ H'=>m=xs.length - i∧i≤xs.length∧Same H H'∧H' l=some (.lst (vi (xs.take i).flatten))∧∃ v2,σ=[some (.ref a),some (.ref l),v2],⟨_,rfl,Nat.zero_le _,s0,upd_same,none,rfl⟩,?_⟩
 rintro i m σ H' ⟨rfl,hi,sm,hl,v2,rfl⟩
 have hS':=sm.seq hS
 by_cases hlt:i < xs.length
 ·have hxi:xs[i]? = some xs[i]:=List.getElem?_eq_getElem hlt
  obtain ⟨ai,eai,hai⟩:=Paired.get hp hxi
  have hai2:(as.map V.ref)[i]? = some (.ref ai):=by rw [List.getElem?_map,eai];rfl
  refine .inr ⟨⟨_,_,hS',hai2⟩,fun σ' H2=>∃ m',m' < xs.length - i∧(m'=xs.length - (i + 1)∧i + 1≤xs.length∧Same H H2∧H2 l=some (.lst (vi (xs.take (i + 1)).flatten))∧∃ v2,σ'=[some (.ref a),some (.ref l),v2]),fun _ _ z=>z,?_⟩
  rintro y H2 ⟨rfl,hy⟩
  have ey:=hy _ hS'
  rw [hai2] at ey
  cases ey
  have ft:=flat_take xs (i + 1)
  have et:(xs.take (i + 1)).flatten=(xs.take i).flatten ++ xs[i]:=by rw [List.take_add_one,hxi,List.flatten_append,Option.toList_some,List.flatten_singleton]
  rw [et,List.length_append] at ft
  refine ⟨_,rfl,.inl ⟨rfl,_,SqL.of hl⟩,_,rfl,l,ai,_,_,rfl,rfl,hl,sm _ _ hai,?_,_,Nat.lt_of_lt_of_le (Nat.lt_succ_self _) (by omega),rfl,hlt,same_upd sm nl,?_,_,rfl⟩
  ·rw [vi_len,vi_len]
   exact Nat.le_trans (Nat.le_trans ft hb) (by decide)
  ·rw [upd_same,et,vi_app]
 ·have e:i=xs.length:=by omega
  subst e
  rw [List.take_length] at hl
  exact .inl ⟨⟨_,hS',by rw [List.length_map,pl];exact Nat.le_refl _⟩,_,rfl,q l H' sm nl hl⟩
structure TB0(P:Program)(w:World)(K:PySem.W.Frag)(mg:Str→Option Value)(base:Heap):Prop where
 m_len:mg "len"=none
 put:Has P w K mg base 1 "put_together" ["pieces"] (ISp (RPut K))
abbrev sTList:PySem.Stmt:=top 95
theorem scTList:FnScope ["pieces"] ["pieces"] (defScope sTList):=⟨rfl,rfl,rfl,by decide +kernel,rfl,by decide +kernel,by decide +kernel⟩
theorem ok_TList(Kn:Known K mg "tell_list" ["pieces"] sTList)(B:TB0 P w K mg base):Has P w K mg base (1 + 1) "tell_list" ["pieces"] (ISp (RTL K)):=by
 refine has_kb Kn scTList (fun _ _ _ _ h=>by obtain ⟨_,⟨a,as,xs,rfl,hS,hp,hb,rfl⟩,q⟩:=h;rfl) fun f cdv A outer s H vs Q E hr h=>?_
 obtain ⟨_,⟨a,as,xs,rfl,hS,hp,hb,rfl⟩,q⟩:=h
 have nd:=scTList.nd
 have m_len:=B.m_len
 refine ⟨_,(pss_one (ps_ret (pe_op op_cat (pe_lst (pa_cons (pe_callB call_len_seq (by rfl) m_len PySem.boot_len (pa_cons (pv 0) pa_nil)) pa_nil)) (pe_has B.put hr rfl (pa_cons (pv 0) pa_nil) (by omega))))),?_⟩
 have pl:=Paired.len hp
 refine ret_ci (CI'.cat (NI.one (VI.len (LT.var rfl hS) (by rw [List.length_map,pl]))).c (NI.call (AT.tree rfl fun H2 s2=>⟨a,as,xs,rfl,s2.seq hS,Paired.mapP hp fun _ _ z=>s2 _ _ z,by omega,rfl⟩)).c) q ?_
 rw [List.length_append,List.length_singleton]
 omega
abbrev sTBytes:PySem.Stmt:=top 96
theorem scTBytes:FnScope ["said"] ["said"] (defScope sTBytes):=⟨rfl,rfl,rfl,by decide +kernel,rfl,by decide +kernel,by decide +kernel⟩
theorem ok_TBytes(Kn:Known K mg "tell_bytes" ["said"] sTBytes)(B:TB0 P w K mg base):Has P w K mg base (0 + 1) "tell_bytes" ["said"] (ISp RBy):=by
 refine has_kb Kn scTBytes (fun _ _ _ _ h=>by obtain ⟨_,⟨a,u,rfl,ha,hu,rfl⟩,q⟩:=h;rfl) fun f cdv A outer s H vs Q E hr h=>?_
 obtain ⟨_,⟨a,u,rfl,ha,hu,rfl⟩,q⟩:=h
 have nd:=scTBytes.nd
 have m_len:=B.m_len
 refine ⟨_,(pss_one (ps_ret (pe_op op_cat (pe_lst (pa_cons (pe_callB call_len_seq (by rfl) m_len PySem.boot_len (pa_cons (pv 0) pa_nil)) pa_nil)) (pv 0)))),?_⟩
 refine ret_ci (CI'.cat (NI.one (VI.len (LT.var rfl (SqL.of ha)) (vb_len u))).c (MI.var (x:=bi u) rfl (by rw [← vb_bi];exact ha)).c) q ?_
 rw [List.length_append,List.length_singleton,bi_len]
 omega
def RByl(K:PySem.W.Frag):List V→Hp→List Int→Prop:=fun vs H x=>∃ (a:Addr) (as:List Addr) (us:List Bytes),vs=[.ref a]∧SqL K H a (as.map V.ref)∧piecesAt H as us∧Cell.bsw us≤500000∧x=countedAll us
theorem bsw_mem:∀ {us:List Bytes} {u:Bytes},u∈us→u.length≤Cell.bsw us
 | [],u,h=>by cases h
 | x::l,u,h=>by
  rw [Cell.bsw]
  rcases List.mem_cons.mp h with z | z
  ·subst z;omega
  ·have:=bsw_mem z;omega
theorem bsw_len:∀ us:List Bytes,100 * us.length≤Cell.bsw us
 | []=>Nat.zero_le _
 | x::l=>by have:=bsw_len l;rw [Cell.bsw,List.length_cons];omega
structure TB1(P:Program)(w:World)(K:PySem.W.Frag)(mg:Str→Option Value)(base:Heap):Prop extends TB0 P w K mg base where
 tl:Has P w K mg base 2 "tell_list" ["pieces"] (ISp (RTL K))
 byt:Has P w K mg base 1 "tell_bytes" ["said"] (ISp RBy)
abbrev sTByl:PySem.Stmt:=top 97
theorem scTByl:FnScope ["texts", "said"] ["texts"] (defScope sTByl):=⟨rfl,rfl,rfl,by decide +kernel,rfl,by decide +kernel,by decide +kernel⟩
theorem blkTByl:BlkOk ["texts", "said"] (defScope sTByl) { kind:=.function,names:=[(".0",.local),("said",.local),("tell_bytes",.globalImplicit)],isGenerator:=false,isCoroutine:=false } [("said",1)]:=⟨rfl,by decide +kernel,by decide +kernel,by decide +kernel,by decide +kernel⟩
theorem ok_TByl(Kn:Known K mg "tell_bytes_list" ["texts"] sTByl)(B:TB1 P w K mg base):Has P w K mg base (2 + 1) "tell_bytes_list" ["texts"] (ISp (RByl K)):=by
 refine has_kb Kn scTByl (fun _ _ _ _ h=>by obtain ⟨_,⟨a,as,us,rfl,hS,hp,hb,rfl⟩,q⟩:=h;rfl) fun f cdv A outer s H vs Q E hr h=>?_
 obtain ⟨_,⟨a,as,us,rfl,hS,hp,hb,rfl⟩,q⟩:=h
 have nd:=scTByl.nd
 obtain ⟨gf,gfd,gF,gb,gk,gm⟩:=B.byt
 refine ⟨_,(pss_one (ps_ret (pe_has B.tl hr rfl (pa_cons (pe_lc (own:=[("said",1)]) (te:=(tCall (ISp RBy) [] (fun _ _ _=>False) (tCons (tVar 1) tNil))) rfl nd (pi_list (pv 0)) blkTByl (fun _ _ _ _ _=>pg_name (i:=1) nd rfl (Or.inl rfl)) (fun _ _ _ _ _=>pts_nil) (fun _ _ _ _ _=>(pe_call gF (hr.mono (by omega)) rfl gm gk gb .nil pass_not (pa_cons (pv 1) pa_nil)))) pa_nil) (by omega)))),?_⟩
 have pl:=Paired.len hp
 have l1:=Cell.all_len us
 have l2:=bsw_len us
 have e:countedAll us=((us.map counted).length:Int)::(us.map counted).flatten:=by rw [List.length_map];rfl
 rw [e] at q
 refine ret_ni (NI.tl (PcI.lc (LT.var rfl hS) (by rw [List.length_map,List.length_map,pl]) (by rw [List.length_map];omega) (fun i v x hv hx=>?_) (fun _=>rfl)) ?_) q
 ·rw [List.getElem?_map] at hx hv
  cases eu:us[i]? with
  | none=>rw [eu] at hx;cases hx
  | some u =>
   rw [eu] at hx
   cases hx
   obtain ⟨ai,eai,hai⟩:=Paired.get hp eu
   rw [eai] at hv
   cases hv
   have:=bsw_mem (List.mem_of_getElem? eu)
   exact NI.call (AT.tree rfl fun H2 s2=>⟨ai,u,rfl,s2 _ _ hai,by omega,rfl⟩)
 ·have e2:(us.map counted).flatten=us.flatMap counted:=rfl
  rw [e2]
  omega
end
end Prg
end
section
set_option maxRecDepth 100000
set_option maxHeartbeats 4000000
namespace Prg
open PySem L2
open Vanbka (Bytes counted countedAll Exprs Fields Stmts)
section
variable{P:Program}{w:World}{K:PySem.W.Frag}{mg:Str→Option Value}{base:Heap}{D:Ad}
def snL:List (Str×Nat):=[("or",0),("and",1),("==",2),("!=",3),("<",4),("<=",5),(">",6),(">=",7),("++",8),("+",9),("-",10),("*",11),("/",12),("percent",13)]
def wnL:List (Str×Nat):=[("len",0),("keys",1),("text",2),("num",3),("roll",4),("cut",5),("with",6)]
def oeL:List (Str×Nat):=[("NUMBER",1),("QUOTED",2),("yes",3),("no",4),("none",5),("NAME",6),("list",7),("record",8),("minus",9),("not",10),("?",12),("call",13),("element",14),("field",15)]
def osL:List (Str×Nat):=[("let",20),("set",21),("show",22),("table",23),("plot",24),("check",25),("do",26),("give",27),("if",28),("while",30),("for",31),("slider",32),("choice",33)]
def NumD(w:World)(K:PySem.W.Frag)(mg:Str→Option Value)(x:Str)(l:List (Str×Nat)):Prop:=∃ a kvs,mg x=some (.ref a)∧KDic w K a kvs∧∀ z:Str,valV kvs (.inr z)=(l.lookup z).map fun (m:Nat)=>V.int (m:Int)
theorem VI.dic{te:TE}{σ:St}{H:Hp}{a:Addr}{kvs:List (Key×V)}{l:List (Str×Nat)}{z:Str}{n:Nat}(hd:KDic w K a kvs)(hv:∀ z:Str,valV kvs (.inr z)=(l.lookup z).map fun (m:Nat)=>V.int (m:Int))(ht:∀ H',Same H H'→∀ Q:VK,Q (.str z) H'→te σ H' Q)(e:l.lookup z=some n) :
  VI (tDGetK w K (tC (.ref a)) te) σ H (n:Int):=fun H' s Q q=>ht H' s _ ⟨a,kvs,.inr z,.int (n:Int),rfl,hd,rfl,by rw [hv,e];rfl,q H' (Same.refl H')⟩
theorem seq_ink{rest u:TS}{Dn:Ends}{σ:St}{H:Hp}{i:Nat}{a:Addr}{kvs:List (Key×V)}{l:List (Str×Nat)}{z:Str}(hd:KDic w K a kvs)(hv:∀ z:Str,valV kvs (.inr z)=(l.lookup z).map fun (m:Nat)=>V.int (m:Int))(hi:σ[i]? = some (some (.str z)))
  (yes:∀ n,l.lookup z=some n→u { Dn with nx:=rest Dn } σ H) (no:l.lookup z=none→rest Dn σ H):tSeq (tIfS (tTest (tOp (rInK w K false) (tVar i) (tC (.ref a)))) u tNext) rest Dn σ H:=by
 refine ⟨_,hi,a,kvs,.inr z,rfl,hd,rfl,_,rfl,?_⟩
 rw [hv]
 cases e:l.lookup z with
 | none=>exact no e
 | some n=>exact yes n e
def esT(es:List Vanbka.Expr):List Int:=es.flatMap Vanbka.Expr.tree
def RTE(D:Ad)(d:Nat):List V→Hp→List Int→Prop:=fun vs H x=>∃ (e:Vanbka.Expr) (v:V),vs=[v]∧NodeAt D.CN H (nodeE e) v∧e.depth≤d∧Cell.ew e≤MW∧x=e.tree
def RTS(D:Ad)(d:Nat):List V→Hp→List Int→Prop:=fun vs H x=>∃ (e:Vanbka.Stmt) (v:V),vs=[v]∧NodeAt D.CN H (nodeS e) v∧e.depth≤d∧Cell.sw1 e≤MW∧x=e.tree
def RTSs(K:PySem.W.Frag)(D:Ad)(d:Nat):List V→Hp→List Int→Prop:=fun vs H x=>∃ (l:Stmts) (a:Addr) (us:List V),vs=[.ref a]∧SqL K H a us∧us.length≤1000∧NodesAt D.CN H (nodesS l) us∧l.depth≤d∧Cell.ssw l≤MW∧x=l.tree
def RTP(K:PySem.W.Frag)(D:Ad)(d:Nat):List V→Hp→List Int→Prop:=fun vs H x=>∃ (es:List Vanbka.Expr) (a:Addr) (us:List V),vs=[.ref a]∧SqL K H a us∧us.length≤1000∧NodesAt D.CN H (es.map nodeE) us∧(∀ e∈es,e.depth≤d∧Cell.ew e≤MW)∧(esT es).length≤800000∧x=esT es
def RTLi(K:PySem.W.Frag)(D:Ad)(d:Nat):List V→Hp→List Int→Prop:=fun vs H x=>∃ (es:List Vanbka.Expr) (a:Addr) (us:List V),vs=[.ref a]∧SqL K H a us∧us.length≤1000∧NodesAt D.CN H (es.map nodeE) us∧(∀ e∈es,e.depth≤d∧Cell.ew e≤MW)∧(esT es).length≤800000∧x=(es.length:Int)::esT es
structure Tells(P:Program)(w:World)(K:PySem.W.Frag)(mg:Str→Option Value)(base:Heap)(D:Ad)(d:Nat):Prop where
 expr:Has P w K mg base (5 * d + 5) "tell_expression" ["tree"] (ISp (RTE D d))
 stmt:Has P w K mg base (5 * d + 5) "tell_statement" ["tree"] (ISp (RTS D d))
theorem nodesE_list:∀ l:Exprs,nodesE l=l.list.map nodeE
 | .nil=>by rw [nodesE,Exprs.list];rfl
 | .cons e l=>by rw [nodesE,Exprs.list,List.map_cons,nodesE_list l]
theorem treeE_list:∀ l:Exprs,l.tree=esT l.list
 | .nil=>by rw [Exprs.tree,Exprs.list];rfl
 | .cons e l=>by rw [Exprs.tree,Exprs.list,treeE_list l];rfl
theorem inE:∀ {l:Exprs} {e:Vanbka.Expr},e∈l.list→e.depth≤l.depth∧Cell.ew e≤Cell.esw l
 | .nil,e,h=>by rw [Exprs.list] at h;cases h
 | .cons x l,e,h=>by
  rw [Exprs.list] at h
  rw [Exprs.depth,Cell.esw]
  rcases List.mem_cons.mp h with z | z
  ·subst z;omega
  ·have:=inE z;omega
theorem nodesS_list:∀ l:Stmts,nodesS l=l.list.map nodeS
 | .nil=>by rw [nodesS,Stmts.list];rfl
 | .cons e l=>by rw [nodesS,Stmts.list,List.map_cons,nodesS_list l]
theorem treesS_list:∀ l:Stmts,l.trees=l.list.flatMap Vanbka.Stmt.tree
 | .nil=>by rw [Stmts.trees,Stmts.list];rfl
 | .cons e l=>by rw [Stmts.trees,Stmts.list,treesS_list l];rfl
theorem inS:∀ {l:Stmts} {e:Vanbka.Stmt},e∈l.list→e.depth≤l.depth∧Cell.sw1 e≤Cell.ssw l
 | .nil,e,h=>by rw [Stmts.list] at h;cases h
 | .cons x l,e,h=>by
  rw [Stmts.list] at h
  rw [Stmts.depth,Cell.ssw]
  rcases List.mem_cons.mp h with z | z
  ·subst z;omega
  ·have:=inS z;omega
theorem node_at{α:Type}{g:α→Node}{es:List α}{us:List V}{H:Hp}(hN:NodesAt D.CN H (es.map g) us){i:Nat}{v:V}{e:α}(hv:us[i]? = some v)(he:es[i]? = some e):NodeAt D.CN H (g e) v:=by
 obtain ⟨v',ev,nv⟩:=NodesAt.get _ _ hN i (g e) (by rw [List.getElem?_map,he];rfl)
 rw [hv] at ev
 cases ev
 exact nv
theorem get_map{α:Type}{g:α→List Int}{es:List α}{i:Nat}{x:List Int}(h:(es.map g)[i]? = some x):∃ e,es[i]? = some e∧x=g e:=by
 rw [List.getElem?_map] at h
 cases e:es[i]? with
 | none=>rw [e] at h;cases h
 | some y=>rw [e] at h;cases h;exact ⟨y,rfl,rfl⟩
abbrev sTParts:PySem.Stmt:=top 102
theorem scTParts:FnScope ["parts", "part"] ["parts"] (defScope sTParts):=⟨rfl,rfl,rfl,by decide +kernel,rfl,by decide +kernel,by decide +kernel⟩
theorem blkTParts:BlkOk ["parts", "part"] (defScope sTParts) { kind:=.function,names:=[(".0",.local),("part",.local),("tell_expression",.globalImplicit)],isGenerator:=false,isCoroutine:=false } [("part",1)]:=⟨rfl,by decide +kernel,by decide +kernel,by decide +kernel,by decide +kernel⟩
theorem ok_TParts(Kn:Known K mg "tell_parts" ["parts"] sTParts)(B:TB1 P w K mg base){d:Nat}(I:Tells P w K mg base D d):Has P w K mg base (5 * d + 5 + 1) "tell_parts" ["parts"] (ISp (RTP K D d)):=by
 refine has_kb Kn scTParts (fun _ _ _ _ h=>by obtain ⟨_,⟨es,a,us,rfl,hS,hn,hN,hd,hw,rfl⟩,q⟩:=h;rfl) fun f cdv A outer s H vs Q E hr h=>?_
 obtain ⟨_,⟨es,a,us,rfl,hS,hn,hN,hd,hw,rfl⟩,q⟩:=h
 have nd:=scTParts.nd
 obtain ⟨gf,gfd,gF,gb,gk,gm⟩:=I.expr
 refine ⟨_,(pss_one (ps_ret (pe_has B.put hr rfl (pa_cons (pe_lc (own:=[("part",1)]) (te:=(tCall (ISp (RTE D d)) [] (fun _ _ _=>False) (tCons (tVar 1) tNil))) rfl nd (pi_list (pv 0)) blkTParts (fun _ _ _ _ _=>pg_name (i:=1) nd rfl (Or.inl rfl)) (fun _ _ _ _ _=>pts_nil) (fun _ _ _ _ _=>(pe_call gF (hr.mono (by omega)) rfl gm gk gb .nil pass_not (pa_cons (pv 1) pa_nil)))) pa_nil) (by omega)))),?_⟩
 have ln:=NodesAt.len _ _ hN
 rw [List.length_map] at ln
 refine ret_ni (NI.put (xs:=es.map Vanbka.Expr.tree) (PcI.lc (LT.var rfl hS) (by rw [List.length_map];exact ln) (by rw [List.length_map];omega) (fun i v x hv hx=>?_) (fun _=>rfl)) (Nat.le_trans hw (by decide))) q
 obtain ⟨e,he,rfl⟩:=get_map hx
 have:=hd e (List.mem_of_getElem? he)
 exact NI.call (AT.tree rfl fun H2 s2=>⟨e,v,rfl,NodeAt.same s2 _ _ (node_at hN hv he),this.1,this.2,rfl⟩)
abbrev sTListed:PySem.Stmt:=top 103
theorem scTListed:FnScope ["parts"] ["parts"] (defScope sTListed):=⟨rfl,rfl,rfl,by decide +kernel,rfl,by decide +kernel,by decide +kernel⟩
theorem ok_TListed(Kn:Known K mg "tell_listed" ["parts"] sTListed)(B:TB1 P w K mg base){d:Nat}(GP:Has P w K mg base (5 * d + 6) "tell_parts" ["parts"] (ISp (RTP K D d))):Has P w K mg base (5 * d + 6 + 1) "tell_listed" ["parts"] (ISp (RTLi K D d)):=by
 refine has_kb Kn scTListed (fun _ _ _ _ h=>by obtain ⟨_,⟨es,a,us,rfl,hS,hn,hN,hd,hw,rfl⟩,q⟩:=h;rfl) fun f cdv A outer s H vs Q E hr h=>?_
 obtain ⟨_,⟨es,a,us,rfl,hS,hn,hN,hd,hw,rfl⟩,q⟩:=h
 have nd:=scTListed.nd
 have m_len:=B.m_len
 refine ⟨_,(pss_one (ps_ret (pe_op op_cat (pe_lst (pa_cons (pe_callB call_len_seq (by rfl) m_len PySem.boot_len (pa_cons (pv 0) pa_nil)) pa_nil)) (pe_has GP hr rfl (pa_cons (pv 0) pa_nil) (by omega))))),?_⟩
 have ln:=NodesAt.len _ _ hN
 rw [List.length_map] at ln
 refine ret_ci (CI'.cat (NI.one (VI.len (LT.var rfl hS) ln)).c (NI.call (AT.tree rfl fun H2 s2=>⟨es,a,us,rfl,s2.seq hS,hn,NodesAt.same s2 _ _ hN,hd,hw,rfl⟩)).c) q ?_
 show (esT es).length + 1≤1000000
 omega
abbrev sTStmts:PySem.Stmt:=top 98
theorem scTStmts:FnScope ["statements", "statement"] ["statements"] (defScope sTStmts):=⟨rfl,rfl,rfl,by decide +kernel,rfl,by decide +kernel,by decide +kernel⟩
theorem blkTStmts:BlkOk ["statements", "statement"] (defScope sTStmts) { kind:=.function,names:=[(".0",.local),("statement",.local),("tell_statement",.globalImplicit)],isGenerator:=false,isCoroutine:=false } [("statement",1)]:=⟨rfl,by decide +kernel,by decide +kernel,by decide +kernel,by decide +kernel⟩
theorem ok_TStmts(Kn:Known K mg "tell_statements" ["statements"] sTStmts)(B:TB1 P w K mg base){d:Nat}(I:Tells P w K mg base D d):Has P w K mg base (5 * d + 5 + 1) "tell_statements" ["statements"] (ISp (RTSs K D d)):=by
 refine has_kb Kn scTStmts (fun _ _ _ _ h=>by obtain ⟨_,⟨l,a,us,rfl,hS,hn,hN,hd,hw,rfl⟩,q⟩:=h;rfl) fun f cdv A outer s H vs Q E hr h=>?_
 obtain ⟨_,⟨l,a,us,rfl,hS,hn,hN,hd,hw,rfl⟩,q⟩:=h
 have nd:=scTStmts.nd
 obtain ⟨gf,gfd,gF,gb,gk,gm⟩:=I.stmt
 refine ⟨_,(pss_one (ps_ret (pe_has B.tl hr rfl (pa_cons (pe_lc (own:=[("statement",1)]) (te:=(tCall (ISp (RTS D d)) [] (fun _ _ _=>False) (tCons (tVar 1) tNil))) rfl nd (pi_list (pv 0)) blkTStmts (fun _ _ _ _ _=>pg_name (i:=1) nd rfl (Or.inl rfl)) (fun _ _ _ _ _=>pts_nil) (fun _ _ _ _ _=>(pe_call gF (hr.mono (by omega)) rfl gm gk gb .nil pass_not (pa_cons (pv 1) pa_nil)))) pa_nil) (by omega)))),?_⟩
 rw [nodesS_list] at hN
 have ln:=NodesAt.len _ _ hN
 rw [List.length_map] at ln
 have tl:=Cell.tree_Ss l
 have e:l.tree=((l.list.map Vanbka.Stmt.tree).length:Int)::(l.list.map Vanbka.Stmt.tree).flatten:=by
  unfold Stmts.tree
  rw [treesS_list,List.length_map]
  rfl
 rw [e] at q
 refine ret_ni (NI.tl (PcI.lc (LT.var rfl hS) (by rw [List.length_map];exact ln) (by rw [List.length_map];omega) (fun i v x hv hx=>?_) (fun _=>rfl)) ?_) q
 ·obtain ⟨e,he,rfl⟩:=get_map hx
  have:=inS (List.mem_of_getElem? he)
  exact NI.call (AT.tree rfl fun H2 s2=>⟨e,v,rfl,NodeAt.same s2 _ _ (node_at hN hv he),by omega,by omega,rfl⟩)
 ·have e2:(l.list.map Vanbka.Stmt.tree).flatten=l.trees:=by rw [treesS_list];rfl
  rw [e2]
  unfold MW at hw
  omega
end
end Prg
end
section
set_option maxRecDepth 100000
set_option maxHeartbeats 4000000
namespace Prg
open PySem L2
open Vanbka (Bytes counted countedAll Exprs Fields Stmts)
section
variable{P:Program}{w:World}{K:PySem.W.Frag}{mg:Str→Option Value}{base:Heap}{D:Ad}
def fdT:Fields→List (List Int)
 | .nil=>[]
 | .cons x e l=>(counted x ++ e.tree)::fdT l
theorem fdT_flat:∀ l:Fields,(fdT l).flatten=l.tree
 | .nil=>by rw [fdT,Fields.tree];rfl
 | .cons x e l=>by rw [fdT,Fields.tree,List.flatten_cons,fdT_flat l]
theorem fdT_len:∀ l:Fields,(fdT l).length=l.list.length
 | .nil=>by rw [fdT,Fields.list];rfl
 | .cons x e l=>by rw [fdT,Fields.list,List.length_cons,List.length_cons,fdT_len l]
theorem fdT_names:∀ l:Fields,(namesF l).length=(fdT l).length
 | .nil=>by rw [fdT,namesF];rfl
 | .cons x e l=>by rw [fdT,namesF,List.length_cons,List.length_cons,fdT_names l]
theorem fdT_nodes:∀ l:Fields,(nodesF l).length=(fdT l).length
 | .nil=>by rw [fdT,nodesF];rfl
 | .cons x e l=>by rw [fdT,nodesF,List.length_cons,List.length_cons,fdT_nodes l]
theorem fdT_get:∀ {l:Fields} {i:Nat} {x:List Int},(fdT l)[i]? = some x→∃ n e,(namesF l)[i]? = some (.bytes n)∧(nodesF l)[i]? = some (nodeE e)∧x=counted n ++ e.tree∧e.depth≤l.depth∧Cell.ew e≤Cell.fsw l∧n.length≤Cell.fsw l
 | .nil,i,x,h=>by rw [fdT] at h;simp at h
 | .cons n e l,0,x,h=>by
  rw [fdT] at h
  cases h
  refine ⟨n,e,by rw [namesF];rfl,by rw [nodesF];rfl,rfl,?_,?_,?_⟩
  ·rw [Fields.depth];omega
  ·rw [Cell.fsw];omega
  ·rw [Cell.fsw];omega
 | .cons n e l,i + 1,x,h=>by
  rw [fdT,List.getElem?_cons_succ] at h
  obtain ⟨n',e',h0,h1,h2,h3,h4,h5⟩:=fdT_get h
  refine ⟨n',e',by rw [namesF,List.getElem?_cons_succ];exact h0,by rw [nodesF,List.getElem?_cons_succ];exact h1,h2,?_,?_,?_⟩
  ·rw [Fields.depth];omega
  ·rw [Cell.fsw];omega
  ·rw [Cell.fsw];omega
def RFd(D:Ad)(d:Nat):List V→Hp→List Int→Prop:=fun vs H x=>∃ (l:Fields) (v:V),vs=[v]∧NodeAt D.CN H (nodeE (.record l)) v∧l.depth≤d∧Cell.fsw l≤MW∧x=(l.list.length:Int)::l.tree
abbrev CTree(K:PySem.W.Frag)(mg:Str→Option Value)(D:Ad):Prop:=ClsAt K mg "Tree" D.CN ["kind", "leaves", "parts", "blocks", "depth", "place", "end"]
structure TB(P:Program)(w:World)(K:PySem.W.Frag)(mg:Str→Option Value)(base:Heap)(D:Ad):Prop extends TB1 P w K mg base where
 C:CTree K mg D
 m_zip:mg "zip"=none
 byl:Has P w K mg base 3 "tell_bytes_list" ["texts"] (ISp (RByl K))
 between:CI mg "BETWEEN_TWO" 11
 word:CI mg "BUILT_IN_WORD" 16
 nameless:CI mg "NAMELESS_FUNCTION" 17
 named:CI mg "NAMED_FUNCTION" 18
 sn:NumD w K mg "SIGN_NUMBERS" snL
 wn:NumD w K mg "WORD_NUMBERS" wnL
 oe:NumD w K mg "OTHER_EXPRESSIONS" oeL
abbrev sTFields:PySem.Stmt:=top 105
theorem scTFields:FnScope ["tree", "fields", "name", "part"] ["tree"] (defScope sTFields):=⟨rfl,rfl,rfl,by decide +kernel,rfl,by decide +kernel,by decide +kernel⟩
theorem ok_TFields(Kn:Known K mg "tell_fields" ["tree"] sTFields)(B:TB P w K mg base D){d:Nat}(I:Tells P w K mg base D d):Has P w K mg base (5 * d + 5 + 1) "tell_fields" ["tree"] (ISp (RFd D d)):=by
 refine has_kb Kn scTFields (fun _ _ _ _ h=>by obtain ⟨_,⟨l,v,rfl,nv,hd,hw,rfl⟩,q⟩:=h;rfl) fun f cdv A outer s H vs Q E hr h=>?_
 obtain ⟨_,⟨l,v,rfl,nv,hd,hw,rfl⟩,q⟩:=h
 have nd:=scTFields.nd
 have m_zip:=B.m_zip
 have C:=B.C
 refine ⟨_,(pss_cons (ps_set (i:=1) nd rfl (Or.inl rfl) (pe_lst pa_nil))
   (pss_cons (ps_for ownF rfl (pi_zip rfl m_zip (pa_cons (pe_fld (pv 0) rfl) (pa_cons (pe_fld (pv 0) rfl) pa_nil))) (pg_tup rfl (pgs_cons (pg_name (i:=2) nd rfl (Or.inl rfl)) (pgs_cons (pg_name (i:=3) nd rfl (Or.inl rfl)) pgs_nil))) (pss_one (ps_expr (pe_bm PySem.F.plainAttrs_list PySem.F.slot_list_append PySem.F.type_list_append mt_append (pv 1) (pa_cons (pe_op op_cat (pe_has B.byt hr rfl (pa_cons (pv 2) pa_nil) (by omega)) (pe_has I.expr hr rfl (pa_cons (pv 3) pa_nil) (by omega))) pa_nil)))))
   (pss_one (ps_ret (pe_has B.tl hr rfl (pa_cons (pv 1) pa_nil) (by omega)))))),?_⟩
 have hw':Cell.fsw l≤450000:=hw
 have tl:=Cell.tree_Fs l
 rw [nodeE] at nv
 obtain ⟨x,rfl,T⟩:=TreeO.of nv
 obtain ⟨dx,a1,a2,a3,vls,vps,vbs,dd,h1,h2,h3,h4,sz,h5,h6,h7⟩:=T.ex
 have ln:=NodesAt.len _ _ h6
 have l5:=Paired.len h5
 rw [fdT_nodes] at ln
 rw [fdT_names] at l5
 refine ⟨by decide,fun fl nfl=>?_⟩
 have s0:Same H (upd H fl (.lst [])):=same_new nfl _
 refine ⟨_,rfl,x,D.CN,dx,_,_,rfl,s0 _ _ h1,C.cl,C.no _ (.tail _ (.head _)),rfl,_,rfl,x,D.CN,dx,_,_,rfl,s0 _ _ h1,C.cl,C.no _ (.tail _ (.tail _ (.head _))),rfl,a1,a2,vls,vps,rfl,SqL.of (s0 _ _ h2),SqL.of (s0 _ _ h3),fun i m σ H'=>m=(fdT l).length - i∧i≤(fdT l).length∧Same H H'∧(∃ as:List Addr,H' fl=some (.lst (as.map V.ref))∧fl∉as∧piecesI H' as ((fdT l).take i))∧∃ v2 v3,σ=[some (.ref x),some (.ref fl),v2,v3],⟨_,rfl,Nat.zero_le _,s0,⟨[],upd_same,by simp,.nil⟩,none,none,rfl⟩,?_⟩
 rintro i m σ H' ⟨rfl,hi,sm,⟨as,hfl,nas,hp⟩,v2,v3,rfl⟩
 have pl:=Paired.len hp
 by_cases hlt:i < (fdT l).length
 ·have hxi:(fdT l)[i]? = some (fdT l)[i]:=List.getElem?_eq_getElem hlt
  obtain ⟨nm,e,g1,g2,g3,g4,g5,g6⟩:=fdT_get hxi
  obtain ⟨vn,en,an,rfl,hn⟩:=leaf_get h5 g1
  obtain ⟨vp,ep,np⟩:=NodesAt.get _ _ h6 i _ g2
  refine .inr ⟨⟨vls,vps,_,vp,SqL.of (sm _ _ h2),SqL.of (sm _ _ h3),en,ep⟩,fun σ' H2=>∃ m',m' < (fdT l).length - i∧(m'=(fdT l).length - (i + 1)∧i + 1≤(fdT l).length∧Same H H2∧(∃ as:List Addr,H2 fl=some (.lst (as.map V.ref))∧fl∉as∧piecesI H2 as ((fdT l).take (i + 1)))∧∃ v2 v3,σ'=[some (.ref x),some (.ref fl),v2,v3]),fun _ _ z=>z,?_⟩
  rintro y H2 ⟨Tp,y1,y2,rfl,hT,rfl,q1,q2⟩
  have e1:=q1 _ (SqL.of (sm _ _ h2))
  have e2:=q2 _ (SqL.of (sm _ _ h3))
  rw [en] at e1
  rw [ep] at e2
  cases e1
  cases e2
  have s1:Same H' (upd H' Tp (.tup [.ref an,vp])):=same_new hT _
  have fe:=Cell.tree_E e
  refine ⟨Tp,_,rfl,SqT.of upd_same,rfl,_,_,rfl,_,_,rfl,rfl,?_⟩
  refine ⟨_,rfl,.inl ⟨rfl,_,SqL.of (s1 _ _ hfl)⟩,?_⟩
  have nt:CI' (tOp rCat (tCall (ISp RBy) [] E (tCons (tVar 2) tNil)) (tCall (ISp (RTE D d)) [] E (tCons (tVar 3) tNil))) [some (.ref x),some (.ref fl),some (.ref an),some vp] (upd H' Tp (.tup [.ref an,vp])) (counted nm ++ e.tree) :=
   CI'.cat (NI.by (MT.var rfl (s1 _ _ (sm _ _ hn))) (by omega)).c (NI.call (AT.tree rfl fun H3 s3=>⟨e,vp,rfl,NodeAt.same ((sm.trans s1).trans s3) _ _ np,by omega,by unfold MW;omega,rfl⟩)).c
  refine nt (by rw [List.length_append,Cell.counted_len];omega) _ (Same.refl _) _ fun p H3 s3 n3 e3=>?_
  have hfl3:=s3 _ _ (s1 _ _ hfl)
  have pD:p≠fl:=fun z=>by rw [z,s1 _ _ hfl] at n3;cases n3
  refine ⟨fl,_,_,rfl,rfl,hfl3,?_,_,by omega,rfl,hlt,same_upd (sm.trans (s1.trans s3)) nfl,⟨as ++ [p],?_,?_,?_⟩,_,_,rfl⟩
  ·rw [List.length_map,pl,List.length_take]
   show min i (fdT l).length < 2 ^ 24
   omega
  ·rw [upd_same,List.map_append];rfl
  ·intro z
   rcases List.mem_append.mp z with y | y
   ·exact nas y
   ·exact pD (List.mem_singleton.mp y).symm
  ·rw [List.take_add_one,hxi]
   exact Paired.snoc (piecesI_upd (s1.trans s3) nas hp) (by show upd H3 fl _ p=_;rw [upd_ne pD,g3];exact e3)
 ·have e:i=(fdT l).length:=by omega
  subst e
  rw [List.take_length] at hp
  refine .inl ⟨⟨vls,vps,SqL.of (sm _ _ h2),SqL.of (sm _ _ h3),.inr (by omega)⟩,?_⟩
  exact ret_ni (NI.call (AT.tree rfl fun H2 s2=>⟨fl,as,fdT l,rfl,SqL.of (s2 _ _ hfl),Paired.mapP hp fun _ _ z=>s2 _ _ z,by rw [fdT_flat];omega,by rw [fdT_flat,fdT_len]⟩)) (q.on sm)
theorem NI.parts{d i:Nat}{E:XK}{σ:St}{H:Hp}{x:Addr}{z:Str}{ls:List Leaf}{bs:List (List Node)}{es:List Vanbka.Expr}(C:CTree K mg D)(T:TreeO D H x z ls (es.map nodeE) bs)(hi:σ[i]? = some (some (.ref x)))(hd:∀ e∈es,e.depth≤d∧Cell.ew e≤MW)(hw:(esT es).length≤800000) :
  NI (tCall (ISp (RTP K D d)) [] E (tCons (tFld K (tVar i) "parts") tNil)) σ H (esT es):=by
 obtain ⟨vps,lv,hN,LP⟩:=LT.parts (K:=K) C T hi
 exact NI.call (AT.of LP fun a H2 s2 hS=>⟨es,a,vps,rfl,hS,lv,NodesAt.same s2 _ _ hN,hd,hw,rfl⟩)
theorem NI.listed{d i:Nat}{E:XK}{σ:St}{H:Hp}{x:Addr}{z:Str}{ls:List Leaf}{bs:List (List Node)}{es:List Vanbka.Expr}(C:CTree K mg D)(T:TreeO D H x z ls (es.map nodeE) bs)(hi:σ[i]? = some (some (.ref x)))(hd:∀ e∈es,e.depth≤d∧Cell.ew e≤MW)(hw:(esT es).length≤800000) :
  NI (tCall (ISp (RTLi K D d)) [] E (tCons (tFld K (tVar i) "parts") tNil)) σ H ((es.length:Int)::esT es):=by
 obtain ⟨vps,lv,hN,LP⟩:=LT.parts (K:=K) C T hi
 exact NI.call (AT.of LP fun a H2 s2 hS=>⟨es,a,vps,rfl,hS,lv,NodesAt.same s2 _ _ hN,hd,hw,rfl⟩)
theorem NI.listed1{d i:Nat}{E:XK}{σ:St}{H:Hp}{x:Addr}{z:Str}{ls:List Leaf}{bs:List (List Node)}{e0:Vanbka.Expr}{es:List Vanbka.Expr}(C:CTree K mg D)(T:TreeO D H x z ls ((e0::es).map nodeE) bs)(hi:σ[i]? = some (some (.ref x)))(hd:∀ e∈es,e.depth≤d∧Cell.ew e≤MW)(hw:(esT es).length≤800000) :
  NI (tCall (ISp (RTLi K D d)) [] E (tCons (tSl (rSlL K) (tFld K (tVar i) "parts") (tPart (tC (.int 1))) tNoPart) tNil)) σ H ((es.length:Int)::esT es):=by
 obtain ⟨vps,lv,hN,LP⟩:=LT.parts (K:=K) C T hi
 obtain ⟨v,r,rfl,_,hN⟩:=hN
 rw [List.length_cons] at lv
 exact NI.call (AT.of (LT.from (n:=1) LP (by rw [List.length_cons];omega)) fun a H2 s2 hS=>⟨es,a,r,rfl,hS,by omega,NodesAt.same s2 _ _ hN,hd,hw,rfl⟩)
theorem NI.part{d i j:Nat}{E:XK}{σ:St}{H:Hp}{x:Addr}{z:Str}{ls:List Leaf}{ps:List Node}{bs:List (List Node)}{e:Vanbka.Expr}(C:CTree K mg D)(T:TreeO D H x z ls ps bs)(hi:σ[i]? = some (some (.ref x)))(hj:ps[j]? = some (nodeE e))(hd:e.depth≤d)(hw:Cell.ew e≤MW) :
  NI (tCall (ISp (RTE D d)) [] E (tCons (tOp (rIxL K) (tFld K (tVar i) "parts") (tC (.int (j:Int)))) tNil)) σ H e.tree:=NI.call fun H' s Q q=>t_part C (T.same s) hi hj fun v nv=>q _ H' (Same.refl H') ⟨e,v,rfl,nv,hd,hw,rfl⟩
theorem NI.leaf{i j:Nat}{E:XK}{σ:St}{H:Hp}{x:Addr}{z:Str}{ls:List Leaf}{ps:List Node}{bs:List (List Node)}{u:Bytes}(C:CTree K mg D)(T:TreeO D H x z ls ps bs)(hi:σ[i]? = some (some (.ref x)))(hj:ls[j]? = some (.bytes u))(hu:u.length≤900000) :
  NI (tCall (ISp RBy) [] E (tCons (tOp (rIxL K) (tFld K (tVar i) "leaves") (tC (.int (j:Int)))) tNil)) σ H (counted u):=NI.by (t_leafB C T hi hj) hu
theorem MI.from{σ:St}{H:Hp}{te:TE}{us:List V}{n:Nat}{x:List Int}(h:LT K te σ H us)(hn:n≤us.length)(e:us.drop n=vi x):MI (tSl (rSlL K) te (tPart (tC (.int (n:Int)))) tNoPart) σ H x:=fun H' s Q q =>
 h H' s _ fun a H2 s2 hS=>⟨_,rfl,a,us,rfl,hS,fun p np=>q p _ (s2.trans (same_new np _)) (by rw [upd_same,cut_from hn,e])⟩
theorem VI.leaf{i j:Nat}{σ:St}{H:Hp}{x:Addr}{z:Str}{ls:List Leaf}{ps:List Node}{bs:List (List Node)}{n:Int}(C:CTree K mg D)(T:TreeO D H x z ls ps bs)(hi:σ[i]? = some (some (.ref x)))(hj:ls[j]? = some (.int n)) :
  VI (tOp (rIxL K) (tFld K (tVar i) "leaves") (tC (.int (j:Int)))) σ H n:=fun H' s Q q=>t_leaf C (T.same s) hi hj fun v hv=>by
 cases hv
 exact q H' (Same.refl H')
def RFn(D:Ad)(d:Nat):List V→Hp→List Int→Prop:=fun vs H x=>∃ (own:Option Bytes) (ps:List Bytes) (st:Stmts) (v:V),vs=[v]∧NodeAt D.CN H (nodeE (.fn own ps st)) v∧st.depth≤d∧Cell.ew (.fn own ps st)≤MW∧x=(Vanbka.Expr.fn own ps st).tree
abbrev sTFn:PySem.Stmt:=top 106
theorem scTFn:FnScope ["tree", "name", "inside"] ["tree"] (defScope sTFn):=⟨rfl,rfl,rfl,by decide +kernel,rfl,by decide +kernel,by decide +kernel⟩
theorem ok_TFn(Kn:Known K mg "tell_function" ["tree"] sTFn)(B:TB P w K mg base D){d:Nat}(GSs:Has P w K mg base (5 * d + 6) "tell_statements" ["statements"] (ISp (RTSs K D d))):Has P w K mg base (5 * d + 6 + 1) "tell_function" ["tree"] (ISp (RFn D d)):=by
 refine has_kb Kn scTFn (fun _ _ _ _ h=>by obtain ⟨_,⟨own,ps,st,v,rfl,nv,hd,hw,rfl⟩,q⟩:=h;rfl) fun f cdv A outer s H vs Q E hr h=>?_
 obtain ⟨_,⟨own,ps,st,v,rfl,nv,hd,hw,rfl⟩,q⟩:=h
 have nd:=scTFn.nd
 have m_len:=B.m_len
 have C:=B.C
 refine ⟨_,(pss_cons (ps_set (i:=1) nd rfl (Or.inl rfl) (pe_ix ix_list (pe_fld (pv 0) rfl) pe_int (fun _ _=>rfl)))
   (pss_cons (ps_set (i:=2) nd rfl (Or.inl rfl) (pe_op op_cat (pe_has B.byl hr rfl (pa_cons (pe_slice sl_list (pe_fld (pv 0) rfl) (po_some pe_int) po_none) pa_nil) (by omega)) (pe_has GSs hr rfl (pa_cons (pe_ix ix_list (pe_fld (pv 0) rfl) pe_int (fun _ _=>rfl)) pa_nil) (by omega))))
   (pss_cons (ps_if (pt_cmpR op_eq (pe_callB call_len_seq (by rfl) m_len PySem.boot_len (pa_cons (pv 1) pa_nil)) pe_int (nomark _)) (pss_one (ps_ret (pe_op op_cat (pe_lst (pa_cons (pe_ci B.nameless rfl) pa_nil)) (pv 2)))) pss_nil)
   (pss_one (ps_ret (pe_op op_cat (pe_op op_cat (pe_lst (pa_cons (pe_ci B.named rfl) pa_nil)) (pe_has B.byt hr rfl (pa_cons (pv 1) pa_nil) (by omega))) (pv 2))))))),?_⟩
 have hw':Cell.ew (.fn own ps st)≤450000:=hw
 have bd:=Nat.le_trans (Cell.tree_E (.fn own ps st)) (Nat.le_trans hw (show MW≤1000000 by decide))
 rw [Cell.ew] at hw'
 have bp:=Cell.countedAll_len ps
 have bt:=Cell.tree_Ss st
 rw [nodeE] at nv
 obtain ⟨x,rfl,T⟩:=TreeO.of nv
 refine t_leaf (j:=0) C T rfl rfl fun v0 hv0=>?_
 obtain ⟨a0,rfl,e0⟩:=hv0
 obtain ⟨vls,ll,hL,LL⟩:=LT.leaves (K:=K) (i:=0) (σ:=[some (.ref x),some (.ref a0),none]) C T rfl
 cases hL with
 | cons hl0 hL =>
  rename_i v0 vr
  obtain ⟨as,rfl,hp⟩:=leaves_pieces hL
  have i1:CI' (tOp rCat (tCall (ISp (RByl K)) [] E (tCons (tSl (rSlL K) (tFld K (tVar 0) "leaves") (tPart (tC (.int 1))) tNoPart) tNil)) (tCall (ISp (RTSs K D d)) [] E (tCons (tOp (rIxL K) (tFld K (tVar 0) "blocks") (tC (.int 0))) tNil))) [some (.ref x),some (.ref a0),none] H (countedAll ps ++ st.tree) :=
   CI'.cat (NI.call (AT.of (LT.from (n:=1) LL (by rw [List.length_cons];omega)) fun a2 H2 s2 hS=>⟨a2,as,ps,rfl,hS,Paired.mapP hp fun _ _ z=>s2 _ _ z,by omega,rfl⟩)).c (NI.call (AT.block (j:=0) C T rfl rfl fun a us H2 s2 hS hl hN=>⟨st,a,us,rfl,hS,hl,hN,hd,by unfold MW;omega,rfl⟩)).c
  refine seq_seti (i1 (by rw [List.length_append];unfold Stmts.tree;rw [List.length_cons];omega)) fun p H1 s1 n1 e1=>?_
  have e01:=s1 _ _ e0
  refine seq_if ⟨_,rfl,a0,_,rfl,.inl (SqL.of e01),rfl,_,rfl,ite2 (fun c=>?_) (fun c=>?_)⟩
  ·have c:((vb (own.getD [])).length:Int)=0:=by have:=of_decide_eq_true c;injection this
   rw [vb_len] at c
   cases own with
   | none =>
    have e:(Vanbka.Expr.fn none ps st).tree=[17] ++ (countedAll ps ++ st.tree):=by rw [Vanbka.Expr.tree];rfl
    rw [e] at q bd
    exact ret_ci (CI'.cat (NI.one VI.c).c (MI.var rfl e1).c) (q.on s1) bd
   | some nm =>
    have c:(nm.length:Int)=0:=c
    have:nm=[]:=List.eq_nil_of_length_eq_zero (by omega)
    subst this
    rw [Cell.ow,Cell.ne,if_neg (by decide)] at hw'
    omega
  ·have c:¬ ((vb (own.getD [])).length:Int)=0:=fun z=>c (decide_eq_true (by rw [z]))
   cases own with
   | none=>exact absurd rfl c
   | some nm =>
    have e:(Vanbka.Expr.fn (some nm) ps st).tree=([18] ++ counted nm) ++ (countedAll ps ++ st.tree):=by rw [Vanbka.Expr.tree,← List.append_assoc];rfl
    rw [e] at q bd
    rw [Cell.ow] at hw'
    exact ret_ci (CI'.cat (CI'.cat (NI.one VI.c).c (NI.by (MT.var (x:=nm) rfl e01) (by omega)).c).c (MI.var rfl e1).c) (q.on s1) bd
end
end Prg
end
section
set_option maxRecDepth 100000
set_option maxHeartbeats 4000000
namespace Prg
open PySem L2
open Vanbka (Bytes counted countedAll Exprs Fields Stmts)
section
variable{P:Program}{w:World}{K:PySem.W.Frag}{mg:Str→Option Value}{base:Heap}{D:Ad}
def IsIn:Vanbka.Expr→Prop
 | .bin _ _ _=>False
 | .prim _ _=>False
 | .fn _ _ _=>False
 | _=>True
def inT:Vanbka.Expr→List Int
 | .num n=>[(n:Int)]
 | .quoted s=>counted s
 | .name x=>counted x
 | .list l=>(l.list.length:Int)::esT l.list
 | .record l=>(l.list.length:Int)::l.tree
 | .minus e=>esT [e]
 | .not e=>esT [e]
 | .pick c x y=>esT [c,x,y]
 | .call f l=>f.tree ++ (l.list.length:Int)::esT l.list
 | .index l i=>esT [l,i]
 | .field r x=>r.tree ++ counted x
 | _=>esT []
def RIn(D:Ad)(d:Nat):List V→Hp→List Int→Prop:=fun vs H x=>∃ (e:Vanbka.Expr) (v:V),vs=[v]∧IsIn e∧NodeAt D.CN H (nodeE e) v∧e.depth≤d∧Cell.ew e≤MW∧x=inT e
theorem mem1{d:Nat}{a:Vanbka.Expr}(h:a.depth≤d∧Cell.ew a≤MW):∀ e∈[a],e.depth≤d∧Cell.ew e≤MW:=fun e m=>by rw [List.mem_singleton.mp m];exact h
theorem mem2{d:Nat}{a c:Vanbka.Expr}(h:a.depth≤d∧Cell.ew a≤MW)(k:c.depth≤d∧Cell.ew c≤MW):∀ e∈[a,c],e.depth≤d∧Cell.ew e≤MW:=fun e m=>by
 rcases List.mem_cons.mp m with rfl | m
 ·exact h
 ·exact mem1 k e m
theorem mem3{d:Nat}{a c g:Vanbka.Expr}(h:a.depth≤d∧Cell.ew a≤MW)(k:c.depth≤d∧Cell.ew c≤MW)(i:g.depth≤d∧Cell.ew g≤MW):∀ e∈[a,c,g],e.depth≤d∧Cell.ew e≤MW:=fun e m=>by
 rcases List.mem_cons.mp m with rfl | m
 ·exact h
 ·exact mem2 k i e m
theorem esT1(a:Vanbka.Expr):esT [a]=a.tree:=by unfold esT;simp
theorem esT2(a c:Vanbka.Expr):esT [a,c]=a.tree ++ c.tree:=by unfold esT;simp
theorem esT3(a c g:Vanbka.Expr):esT [a,c,g]=a.tree ++ c.tree ++ g.tree:=by unfold esT;simp
theorem in_len:∀ e:Vanbka.Expr,IsIn e→∃ k ls ps bs n,nodeE e = .mk k ls ps bs∧snL.lookup k=none∧wnL.lookup k=none∧k≠"fn"∧oeL.lookup k=some n∧e.tree=[((n:Nat):Int)] ++ inT e:=by
 intro e h
 cases e with
 | bin o x y=>exact h.elim
 | prim p l=>exact h.elim
 | fn o p s=>exact h.elim
 | truth v =>
  cases v
  ·exact ⟨"no",[],[],[],4,by rw [nodeE];rfl,by decide +kernel,by decide +kernel,by decide,by decide +kernel,by rw [Vanbka.Expr.tree];rfl⟩
  ·exact ⟨"yes",[],[],[],3,by rw [nodeE];rfl,by decide +kernel,by decide +kernel,by decide,by decide +kernel,by rw [Vanbka.Expr.tree];rfl⟩
 | num n=>exact ⟨_,_,_,_,1,by rw [nodeE],by decide +kernel,by decide +kernel,by decide,by decide +kernel,by rw [Vanbka.Expr.tree];rfl⟩
 | quoted s=>exact ⟨_,_,_,_,2,by rw [nodeE],by decide +kernel,by decide +kernel,by decide,by decide +kernel,by rw [Vanbka.Expr.tree];rfl⟩
 | nothing=>exact ⟨_,_,_,_,5,by rw [nodeE],by decide +kernel,by decide +kernel,by decide,by decide +kernel,by rw [Vanbka.Expr.tree];rfl⟩
 | name x=>exact ⟨_,_,_,_,6,by rw [nodeE],by decide +kernel,by decide +kernel,by decide,by decide +kernel,by rw [Vanbka.Expr.tree];rfl⟩
 | list l=>exact ⟨_,_,_,_,7,by rw [nodeE],by decide +kernel,by decide +kernel,by decide,by decide +kernel,by rw [Vanbka.Expr.tree,treeE_list];rfl⟩
 | record l=>exact ⟨_,_,_,_,8,by rw [nodeE],by decide +kernel,by decide +kernel,by decide,by decide +kernel,by rw [Vanbka.Expr.tree];rfl⟩
 | minus e=>exact ⟨_,_,_,_,9,by rw [nodeE],by decide +kernel,by decide +kernel,by decide,by decide +kernel,by rw [Vanbka.Expr.tree,inT,esT1];rfl⟩
 | not e=>exact ⟨_,_,_,_,10,by rw [nodeE],by decide +kernel,by decide +kernel,by decide,by decide +kernel,by rw [Vanbka.Expr.tree,inT,esT1];rfl⟩
 | pick c x y=>exact ⟨_,_,_,_,12,by rw [nodeE],by decide +kernel,by decide +kernel,by decide,by decide +kernel,by rw [Vanbka.Expr.tree,inT,esT3];rfl⟩
 | call f l=>exact ⟨_,_,_,_,13,by rw [nodeE],by decide +kernel,by decide +kernel,by decide,by decide +kernel,by rw [Vanbka.Expr.tree,treeE_list];rfl⟩
 | index l i=>exact ⟨_,_,_,_,14,by rw [nodeE],by decide +kernel,by decide +kernel,by decide,by decide +kernel,by rw [Vanbka.Expr.tree,inT,esT2];rfl⟩
 | field r x=>exact ⟨_,_,_,_,15,by rw [nodeE],by decide +kernel,by decide +kernel,by decide,by decide +kernel,by rw [Vanbka.Expr.tree];rfl⟩
theorem listP{l:Exprs}{d:Nat}(h:l.depth≤d)(hw:Cell.esw l≤450000):(∀ e∈l.list,e.depth≤d∧Cell.ew e≤MW)∧(esT l.list).length≤800000:=by
 refine ⟨fun e m=>?_,?_⟩
 ·have:=inE m
  unfold MW
  omega
 ·have:=Cell.tree_Es l
  rw [← treeE_list]
  omega
abbrev sTIn:PySem.Stmt:=top 104
theorem scTIn:FnScope ["tree", "kind"] ["tree"] (defScope sTIn):=⟨rfl,rfl,rfl,by decide +kernel,rfl,by decide +kernel,by decide +kernel⟩
theorem ok_TIn(Kn:Known K mg "tell_inside" ["tree"] sTIn)(B:TB P w K mg base D){d:Nat}(I:Tells P w K mg base D d)(GP:Has P w K mg base (5 * d + 6) "tell_parts" ["parts"] (ISp (RTP K D d)))(GL:Has P w K mg base (5 * d + 7) "tell_listed" ["parts"] (ISp (RTLi K D d)))(GF:Has P w K mg base (5 * d + 6) "tell_fields" ["tree"] (ISp (RFd D d))):Has P w K mg base (5 * d + 7 + 1) "tell_inside" ["tree"] (ISp (RIn D (d + 1))):=by
 refine has_kb Kn scTIn (fun _ _ _ _ h=>by obtain ⟨_,⟨e,v,rfl,hs,nv,hd,hw,rfl⟩,q⟩:=h;rfl) fun f cdv A outer s H vs Q E hr h=>?_
 obtain ⟨_,⟨e,v,rfl,hs,nv,hd,hw,rfl⟩,q⟩:=h
 have nd:=scTIn.nd
 have C:=B.C
 refine ⟨_,(pss_cons (ps_set (i:=1) nd rfl (Or.inl rfl) (pe_fld (pv 0) rfl))
   (pss_cons (ps_if (pt_cmpR op_eq (pv 1) pe_str (nomark _)) (pss_one (ps_ret (pe_lst (pa_cons (pe_ix ix_list (pe_fld (pv 0) rfl) pe_int (fun _ _=>rfl)) pa_nil)))) pss_nil)
   (pss_cons (ps_if (pt_cmpR op_in_seq (pv 1) (pe_tup (pa_cons pe_str (pa_cons pe_str pa_nil))) rfl) (pss_one (ps_ret (pe_has B.byt hr rfl (pa_cons (pe_ix ix_list (pe_fld (pv 0) rfl) pe_int (fun _ _=>rfl)) pa_nil) (by omega)))) pss_nil)
   (pss_cons (ps_if (pt_cmpR op_eq (pv 1) pe_str (nomark _)) (pss_one (ps_ret (pe_has GL hr rfl (pa_cons (pe_fld (pv 0) rfl) pa_nil) (by omega)))) pss_nil)
   (pss_cons (ps_if (pt_cmpR op_eq (pv 1) pe_str (nomark _)) (pss_one (ps_ret (pe_has GF hr rfl (pa_cons (pv 0) pa_nil) (by omega)))) pss_nil)
   (pss_cons (ps_if (pt_cmpR op_eq (pv 1) pe_str (nomark _)) (pss_one (ps_ret (pe_op op_cat (pe_has I.expr hr rfl (pa_cons (pe_ix ix_list (pe_fld (pv 0) rfl) pe_int (fun _ _=>rfl)) pa_nil) (by omega)) (pe_has GL hr rfl (pa_cons (pe_slice sl_list (pe_fld (pv 0) rfl) (po_some pe_int) po_none) pa_nil) (by omega))))) pss_nil)
   (pss_cons (ps_if (pt_cmpR op_eq (pv 1) pe_str (nomark _)) (pss_one (ps_ret (pe_op op_cat (pe_has I.expr hr rfl (pa_cons (pe_ix ix_list (pe_fld (pv 0) rfl) pe_int (fun _ _=>rfl)) pa_nil) (by omega)) (pe_has B.byt hr rfl (pa_cons (pe_ix ix_list (pe_fld (pv 0) rfl) pe_int (fun _ _=>rfl)) pa_nil) (by omega))))) pss_nil)
   (pss_one (ps_ret (pe_has GP hr rfl (pa_cons (pe_fld (pv 0) rfl) pa_nil) (by omega))))))))))),?_⟩
 have hw':Cell.ew e≤450000:=hw
 have ib:(inT e).length≤1000000:=by
  obtain ⟨_,_,_,_,_,_,_,_,_,_,et⟩:=in_len e hs
  have:=Cell.tree_E e
  rw [et,List.length_append] at this
  omega
 have ib0:(inT e).length≤450000:=by
  obtain ⟨_,_,_,_,_,_,_,_,_,_,et⟩:=in_len e hs
  have:=Cell.tree_E e
  rw [et,List.length_append] at this
  omega
 cases e with
 | bin o x y=>exact hs.elim
 | prim p l=>exact hs.elim
 | fn o p s=>exact hs.elim
 | num n =>
  rw [nodeE] at nv
  rw [Vanbka.Expr.depth] at hd
  rw [Cell.ew] at hw'
  obtain ⟨x,rfl,T⟩:=TreeO.of nv
  refine t_kind C T rfl (seq_is rfl rfl ?_)
  exact ret_ni (NI.one (VI.leaf (j:=0) C T rfl rfl)) q
 | quoted x0 =>
  rw [nodeE] at nv
  rw [Vanbka.Expr.depth] at hd
  rw [Cell.ew] at hw'
  obtain ⟨x,rfl,T⟩:=TreeO.of nv
  refine t_kind C T rfl (seq_ne rfl (by decide) (seq_yin rfl ["QUOTED", "NAME"] (by decide) fun H1 s1=>?_))
  exact ret_ni (NI.leaf (j:=0) C (T.same s1) rfl rfl (by omega)) (q.on s1)
 | name x0 =>
  rw [nodeE] at nv
  rw [Vanbka.Expr.depth] at hd
  rw [Cell.ew] at hw'
  obtain ⟨x,rfl,T⟩:=TreeO.of nv
  refine t_kind C T rfl (seq_ne rfl (by decide) (seq_yin rfl ["QUOTED", "NAME"] (by decide) fun H1 s1=>?_))
  exact ret_ni (NI.leaf (j:=0) C (T.same s1) rfl rfl (by omega)) (q.on s1)
 | list l =>
  rw [nodeE] at nv
  rw [Vanbka.Expr.depth] at hd
  rw [Cell.ew] at hw'
  obtain ⟨x,rfl,T⟩:=TreeO.of nv
  refine t_kind C T rfl (seq_ne rfl (by decide) (seq_nin rfl ["QUOTED", "NAME"] (by decide) fun H1 s1=>seq_is rfl rfl ?_))
  rw [nodesE_list] at T
  obtain ⟨p1,p2⟩:=listP (d:=d) (l:=l) (by omega) (by omega)
  exact ret_ni (NI.listed C (T.same s1) rfl p1 p2) (q.on s1)
 | record l =>
  rw [nodeE] at nv
  rw [Vanbka.Expr.depth] at hd
  rw [Cell.ew] at hw'
  obtain ⟨x,rfl,T⟩:=TreeO.of nv
  refine t_kind C T rfl (seq_ne rfl (by decide) (seq_nin rfl ["QUOTED", "NAME"] (by decide) fun H1 s1=>seq_ne rfl (by decide) (seq_is rfl rfl ?_)))
  exact ret_ni (NI.call (AT.tree rfl fun H2 s2=>⟨l,_,rfl,by rw [nodeE];exact NodeAt.same (s1.trans s2) _ _ nv,by omega,by unfold MW;omega,rfl⟩)) (q.on s1)
 | call g l =>
  rw [nodeE] at nv
  rw [Vanbka.Expr.depth] at hd
  rw [Cell.ew] at hw'
  obtain ⟨x,rfl,T⟩:=TreeO.of nv
  refine t_kind C T rfl (seq_ne rfl (by decide) (seq_nin rfl ["QUOTED", "NAME"] (by decide) fun H1 s1=>seq_ne rfl (by decide) (seq_ne rfl (by decide) (seq_is rfl rfl ?_))))
  obtain ⟨p1,p2⟩:=listP (d:=d) (l:=l) (by omega) (by omega)
  have T2:TreeO D H x "call" [] ((g::l.list).map nodeE) []:=by rw [List.map_cons,← nodesE_list];exact T
  exact ret_ci (CI'.cat (NI.part (j:=0) C (T.same s1) rfl rfl (by omega) (by unfold MW;omega)).c (NI.listed1 C (T2.same s1) rfl p1 p2).c) (q.on s1) ib
 | field r y =>
  rw [nodeE] at nv
  rw [Vanbka.Expr.depth] at hd
  rw [Cell.ew] at hw'
  obtain ⟨x,rfl,T⟩:=TreeO.of nv
  refine t_kind C T rfl (seq_ne rfl (by decide) (seq_nin rfl ["QUOTED", "NAME"] (by decide) fun H1 s1=>seq_ne rfl (by decide) (seq_ne rfl (by decide) (seq_ne rfl (by decide) (seq_is rfl rfl ?_)))))
  exact ret_ci (CI'.cat (NI.part (j:=0) C (T.same s1) rfl rfl (by omega) (by unfold MW;omega)).c (NI.leaf (j:=0) C (T.same s1) rfl rfl (by omega)).c) (q.on s1) ib
 | minus y =>
  rw [nodeE] at nv
  rw [Vanbka.Expr.depth] at hd
  rw [Cell.ew] at hw'
  obtain ⟨x,rfl,T⟩:=TreeO.of nv
  refine t_kind C T rfl (seq_ne rfl (by decide) (seq_nin rfl ["QUOTED", "NAME"] (by decide) fun H1 s1=>seq_ne rfl (by decide) (seq_ne rfl (by decide) (seq_ne rfl (by decide) (seq_ne rfl (by decide) ?_)))))
  exact ret_ni (NI.parts (es:=[y]) C (T.same s1) rfl (mem1 ⟨by omega,by unfold MW;omega⟩) (Nat.le_trans ib0 (by decide))) (q.on s1)
 | not y =>
  rw [nodeE] at nv
  rw [Vanbka.Expr.depth] at hd
  rw [Cell.ew] at hw'
  obtain ⟨x,rfl,T⟩:=TreeO.of nv
  refine t_kind C T rfl (seq_ne rfl (by decide) (seq_nin rfl ["QUOTED", "NAME"] (by decide) fun H1 s1=>seq_ne rfl (by decide) (seq_ne rfl (by decide) (seq_ne rfl (by decide) (seq_ne rfl (by decide) ?_)))))
  exact ret_ni (NI.parts (es:=[y]) C (T.same s1) rfl (mem1 ⟨by omega,by unfold MW;omega⟩) (Nat.le_trans ib0 (by decide))) (q.on s1)
 | pick a c y =>
  rw [nodeE] at nv
  rw [Vanbka.Expr.depth] at hd
  rw [Cell.ew] at hw'
  obtain ⟨x,rfl,T⟩:=TreeO.of nv
  refine t_kind C T rfl (seq_ne rfl (by decide) (seq_nin rfl ["QUOTED", "NAME"] (by decide) fun H1 s1=>seq_ne rfl (by decide) (seq_ne rfl (by decide) (seq_ne rfl (by decide) (seq_ne rfl (by decide) ?_)))))
  exact ret_ni (NI.parts (es:=[a,c,y]) C (T.same s1) rfl (mem3 ⟨by omega,by unfold MW;omega⟩ ⟨by omega,by unfold MW;omega⟩ ⟨by omega,by unfold MW;omega⟩) (Nat.le_trans ib0 (by decide))) (q.on s1)
 | index a c =>
  rw [nodeE] at nv
  rw [Vanbka.Expr.depth] at hd
  rw [Cell.ew] at hw'
  obtain ⟨x,rfl,T⟩:=TreeO.of nv
  refine t_kind C T rfl (seq_ne rfl (by decide) (seq_nin rfl ["QUOTED", "NAME"] (by decide) fun H1 s1=>seq_ne rfl (by decide) (seq_ne rfl (by decide) (seq_ne rfl (by decide) (seq_ne rfl (by decide) ?_)))))
  exact ret_ni (NI.parts (es:=[a,c]) C (T.same s1) rfl (mem2 ⟨by omega,by unfold MW;omega⟩ ⟨by omega,by unfold MW;omega⟩) (Nat.le_trans ib0 (by decide))) (q.on s1)
 | nothing =>
  rw [nodeE] at nv
  rw [Vanbka.Expr.depth] at hd
  rw [Cell.ew] at hw'
  obtain ⟨x,rfl,T⟩:=TreeO.of nv
  refine t_kind C T rfl (seq_ne rfl (by decide) (seq_nin rfl ["QUOTED", "NAME"] (by decide) fun H1 s1=>seq_ne rfl (by decide) (seq_ne rfl (by decide) (seq_ne rfl (by decide) (seq_ne rfl (by decide) ?_)))))
  exact ret_ni (NI.parts (es:=[]) C (T.same s1) rfl (fun _ h=>nomatch h) (Nat.le_trans ib0 (by decide))) (q.on s1)
 | truth v =>
  rw [nodeE] at nv
  obtain ⟨x,rfl,T⟩:=TreeO.of nv
  cases v
  ·refine t_kind C T rfl (seq_ne rfl (by decide) (seq_nin rfl ["QUOTED", "NAME"] (by decide) fun H1 s1=>seq_ne rfl (by decide) (seq_ne rfl (by decide) (seq_ne rfl (by decide) (seq_ne rfl (by decide) ?_)))))
   exact ret_ni (NI.parts (es:=[]) C (T.same s1) rfl (fun _ h=>nomatch h) (Nat.le_trans ib0 (by decide))) (q.on s1)
  ·refine t_kind C T rfl (seq_ne rfl (by decide) (seq_nin rfl ["QUOTED", "NAME"] (by decide) fun H1 s1=>seq_ne rfl (by decide) (seq_ne rfl (by decide) (seq_ne rfl (by decide) (seq_ne rfl (by decide) ?_)))))
   exact ret_ni (NI.parts (es:=[]) C (T.same s1) rfl (fun _ h=>nomatch h) (Nat.le_trans ib0 (by decide))) (q.on s1)
theorem sn_op(o:Vanbka.Op):∃ n:Nat,snL.lookup (opK o)=some n∧(n:Int)=o.number:=by cases o <;> exact ⟨_,by decide +kernel,rfl⟩
theorem wn_prim(p:Vanbka.Prim):snL.lookup (primK p)=none∧∃ n:Nat,wnL.lookup (primK p)=some n∧(n:Int)=p.number:=by cases p <;> exact ⟨by decide +kernel,_,by decide +kernel,rfl⟩
abbrev sTExpr:PySem.Stmt:=top 101
theorem scTExpr:FnScope ["tree", "kind"] ["tree"] (defScope sTExpr):=⟨rfl,rfl,rfl,by decide +kernel,rfl,by decide +kernel,by decide +kernel⟩
theorem ok_TExpr(Kn:Known K mg "tell_expression" ["tree"] sTExpr)(B:TB P w K mg base D){d:Nat}(GP:Has P w K mg base (5 * d + 6) "tell_parts" ["parts"] (ISp (RTP K D d)))(GL:Has P w K mg base (5 * d + 7) "tell_listed" ["parts"] (ISp (RTLi K D d)))(GFn:Has P w K mg base (5 * d + 7) "tell_function" ["tree"] (ISp (RFn D d)))(GI:Has P w K mg base (5 * d + 8) "tell_inside" ["tree"] (ISp (RIn D (d + 1)))):Has P w K mg base (5 * (d + 1) + 4 + 1) "tell_expression" ["tree"] (ISp (RTE D (d + 1))):=by
 refine has_kb Kn scTExpr (fun _ _ _ _ h=>by obtain ⟨_,⟨e,v,rfl,nv,hd,hw,rfl⟩,q⟩:=h;rfl) fun f cdv A outer s H vs Q E hr h=>?_
 obtain ⟨_,⟨e,v,rfl,nv,hd,hw,rfl⟩,q⟩:=h
 have nd:=scTExpr.nd
 have C:=B.C
 obtain ⟨a1,kv1,mSn,d1,v1⟩:=B.sn
 obtain ⟨a2,kv2,mWn,d2,v2⟩:=B.wn
 obtain ⟨a3,kv3,mOe,d3,v3⟩:=B.oe
 refine ⟨_,(pss_cons (ps_set (i:=1) nd rfl (Or.inl rfl) (pe_fld (pv 0) rfl))
   (pss_cons (ps_if (pt_cmpR op_inK (pv 1) (pe_cr mSn rfl) rfl) (pss_one (ps_ret (pe_op op_cat (pe_lst (pa_cons (pe_ci B.between rfl) (pa_cons (pe_dgetK (pe_cr mSn rfl) (pv 1) (fun _ _=>rfl)) pa_nil))) (pe_has GP hr rfl (pa_cons (pe_fld (pv 0) rfl) pa_nil) (by omega))))) pss_nil)
   (pss_cons (ps_if (pt_cmpR op_inK (pv 1) (pe_cr mWn rfl) rfl) (pss_one (ps_ret (pe_op op_cat (pe_lst (pa_cons (pe_ci B.word rfl) (pa_cons (pe_dgetK (pe_cr mWn rfl) (pv 1) (fun _ _=>rfl)) pa_nil))) (pe_has GL hr rfl (pa_cons (pe_fld (pv 0) rfl) pa_nil) (by omega))))) pss_nil)
   (pss_cons (ps_if (pt_cmpR op_eq (pv 1) pe_str (nomark _)) (pss_one (ps_ret (pe_has GFn hr rfl (pa_cons (pv 0) pa_nil) (by omega)))) pss_nil)
   (pss_one (ps_ret (pe_op op_cat (pe_lst (pa_cons (pe_dgetK (pe_cr mOe rfl) (pv 1) (fun _ _=>rfl)) pa_nil)) (pe_has GI hr rfl (pa_cons (pv 0) pa_nil) (by omega))))))))),?_⟩
 have hw':Cell.ew e≤450000:=hw
 have bd:=Nat.le_trans (Cell.tree_E e) (Nat.le_trans hw (show MW≤1000000 by decide))
 have un:∀ {l:List (Str×Nat)} {z:Str} {m:Nat},l.lookup z=none→l.lookup z=some m→False:=fun h k=>by rw [h] at k;cases k
 by_cases hs:IsIn e
 ·obtain ⟨k,ls,ps,bs,n,en,l1,l2,l3,l4,et⟩:=in_len e hs
  have nv':=nv
  rw [en] at nv'
  obtain ⟨x,rfl,T⟩:=TreeO.of nv'
  rw [et] at q bd
  refine t_kind C T rfl (seq_ink d1 v1 rfl (fun _ h=>(un l1 h).elim) fun _=>seq_ink d2 v2 rfl (fun _ h=>(un l2 h).elim) fun _=>seq_ne rfl l3 ?_)
  exact ret_ci (CI'.cat (NI.one (VI.dic d3 v3 (tv_str (i:=1)) l4)).c (NI.call (AT.tree rfl fun H2 s2=>⟨e,_,rfl,hs,NodeAt.same s2 _ _ nv,hd,hw,rfl⟩)).c) q bd
 cases e with
 | bin o a c =>
  rw [nodeE] at nv
  rw [Vanbka.Expr.depth] at hd
  rw [Cell.ew] at hw'
  obtain ⟨x,rfl,T⟩:=TreeO.of nv
  obtain ⟨n,hn,en⟩:=sn_op o
  have et:(Vanbka.Expr.bin o a c).tree=[11,(n:Int)] ++ esT [a,c]:=by rw [Vanbka.Expr.tree,esT2,en];rfl
  rw [et] at q bd
  refine t_kind C T rfl (seq_ink d1 v1 rfl (fun m hm=>?_) fun h=>(un h hn).elim)
  exact ret_ci (CI'.cat (NI.two VI.c (VI.dic d1 v1 (tv_str (i:=1)) hn)).c (NI.parts (es:=[a,c]) C T rfl (mem2 ⟨by omega,by unfold MW;omega⟩ ⟨by omega,by unfold MW;omega⟩) (by have:=Cell.tree_E a;have:=Cell.tree_E c;rw [esT2,List.length_append];omega)).c) q bd
 | prim pr l =>
  rw [nodeE,nodesE_list] at nv
  rw [Vanbka.Expr.depth] at hd
  rw [Cell.ew] at hw'
  obtain ⟨x,rfl,T⟩:=TreeO.of nv
  obtain ⟨h0,n,hn,en⟩:=wn_prim pr
  obtain ⟨p1,p2⟩:=listP (d:=d) (l:=l) (by omega) (by omega)
  have et:(Vanbka.Expr.prim pr l).tree=[16,(n:Int)] ++ (l.list.length:Int)::esT l.list:=by rw [Vanbka.Expr.tree,treeE_list,en];rfl
  rw [et] at q bd
  refine t_kind C T rfl (seq_ink d1 v1 rfl (fun _ h=>(un h0 h).elim) fun _=>seq_ink d2 v2 rfl (fun m hm=>?_) fun h=>(un h hn).elim)
  exact ret_ci (CI'.cat (NI.two VI.c (VI.dic d2 v2 (tv_str (i:=1)) hn)).c (NI.listed C T rfl p1 p2).c) q bd
 | fn own ps st =>
  have nv':=nv
  rw [nodeE] at nv'
  rw [Vanbka.Expr.depth] at hd
  obtain ⟨x,rfl,T⟩:=TreeO.of nv'
  refine t_kind C T rfl (seq_ink d1 v1 rfl (fun _ h=>(un (show snL.lookup ("fn":Str)=none by decide +kernel) h).elim) fun _=>seq_ink d2 v2 rfl (fun _ h=>(un (show wnL.lookup ("fn":Str)=none by decide +kernel) h).elim) fun _=>seq_is rfl rfl ?_)
  exact ret_ni (NI.call (AT.tree rfl fun H2 s2=>⟨own,ps,st,_,rfl,NodeAt.same s2 _ _ nv,by omega,hw,rfl⟩)) q
 | _=>exact absurd trivial hs
end
end Prg
end
section
set_option maxRecDepth 100000
set_option maxHeartbeats 4000000
namespace Prg
open PySem L2
open Vanbka (Bytes counted countedAll Exprs Fields Stmts)
section
variable{P:Program}{w:World}{K:PySem.W.Frag}{mg:Str→Option Value}{base:Heap}{D:Ad}
def wayN:Vanbka.Way→Nat
 | .show=>22 | .table=>23 | .plot=>24 | .check=>25 | .do=>26 | .give=>27
theorem wayN_is(x:Vanbka.Way):osL.lookup (wayK x)=some (wayN x)∧(wayN x:Int)=x.number∧wayK x≠"if"∧wayK x≠"slider"∧wayK x≠"choice"∧wayK x∉(["let", "set", "for"]:List Str):=by cases x <;> decide +kernel
def numS:Vanbka.Stmt→Nat
 | .leta _ _=>20
 | .seta _ _=>21
 | .way w _=>wayN w
 | .iff _ _=>28
 | .iffElse _ _ _=>29
 | .while_ _ _=>30
 | .for _ _ _=>31
 | .slider _ _ _ _=>32
 | .choice _ _ _=>33
def spSN(D:Ad):Sp:=fun vs H Q _=>∃ (e:Vanbka.Stmt) (v:V),vs=[v]∧NodeAt D.CN H (nodeS e) v∧∀ H',Same H H'→Q (.int (numS e:Nat)) H'
theorem seq_and{a c:TT}{u rest:TS}{Dn:Ends}{σ:St}{H:Hp}(h:a σ H fun k H1=>if k=true then c σ H1 (fun k H2=>if k=true then u { Dn with nx:=rest Dn } σ H2 else rest Dn σ H2) else rest Dn σ H1):tSeq (tIfS (tAnd a c) u tNext) rest Dn σ H:=h
theorem test_kind{te:TE}{σ:St}{H:Hp}{z y:Str}{Q:Bool→Hp→Prop}(hv:∀ Q:VK,Q (.str z) H→te σ H Q)(yes:z=y→Q true H)(no:¬ z=y→Q false H):tTest (tOp rEq te (tC (.str y))) σ H Q:=hv _ ⟨rfl,_,rfl,by
 by_cases e:z=y
 ·rw [decide_eq_true (by rw [e])];exact yes e
 ·rw [decide_eq_false (fun h=>e (by injection h))];exact no e⟩
structure TB2(P:Program)(w:World)(K:PySem.W.Frag)(mg:Str→Option Value)(base:Heap)(D:Ad):Prop extends TB P w K mg base D where
 ifelse:CI mg "IF_WITH_ELSE" 29
 os:NumD w K mg "OTHER_STATEMENTS" osL
theorem os_kind(e:Vanbka.Stmt):∃ k ls ps bs,nodeS e = .mk k ls ps bs∧((k = "if"∧bs.length=2∧numS e=29)∨(¬ (k = "if"∧bs.length=2)∧osL.lookup k=some (numS e))):=by
 cases e with
 | way x e=>exact ⟨_,_,_,_,by rw [nodeS],.inr ⟨fun z=>absurd z.1 (wayN_is x).2.2.1,(wayN_is x).1⟩⟩
 | iff c x=>exact ⟨_,_,_,_,by rw [nodeS],.inr ⟨fun z=>by have:(1:Nat)=2:=z.2;omega,show osL.lookup ("if":Str)=some 28 by decide +kernel⟩⟩
 | iffElse c x y=>exact ⟨_,_,_,_,by rw [nodeS],.inl ⟨rfl,rfl,rfl⟩⟩
 | leta x e=>exact ⟨_,_,_,_,by rw [nodeS],.inr ⟨fun z=>absurd (show ("let":Str) = "if" from z.1) (by decide),show osL.lookup ("let":Str)=some 20 by decide +kernel⟩⟩
 | seta x e=>exact ⟨_,_,_,_,by rw [nodeS],.inr ⟨fun z=>absurd (show ("set":Str) = "if" from z.1) (by decide),show osL.lookup ("set":Str)=some 21 by decide +kernel⟩⟩
 | while_ c x=>exact ⟨_,_,_,_,by rw [nodeS],.inr ⟨fun z=>absurd (show ("while":Str) = "if" from z.1) (by decide),show osL.lookup ("while":Str)=some 30 by decide +kernel⟩⟩
 | «for» x e l=>exact ⟨_,_,_,_,by rw [nodeS],.inr ⟨fun z=>absurd (show ("for":Str) = "if" from z.1) (by decide),show osL.lookup ("for":Str)=some 31 by decide +kernel⟩⟩
 | slider x v lo hi=>exact ⟨_,_,_,_,by rw [nodeS],.inr ⟨fun z=>absurd (show ("slider":Str) = "if" from z.1) (by decide),show osL.lookup ("slider":Str)=some 32 by decide +kernel⟩⟩
 | choice x v l=>exact ⟨_,_,_,_,by rw [nodeS],.inr ⟨fun z=>absurd (show ("choice":Str) = "if" from z.1) (by decide),show osL.lookup ("choice":Str)=some 33 by decide +kernel⟩⟩
abbrev sSNum:PySem.Stmt:=top 100
theorem scSNum:FnScope ["tree"] ["tree"] (defScope sSNum):=⟨rfl,rfl,rfl,by decide +kernel,rfl,by decide +kernel,by decide +kernel⟩
theorem ok_SNum(Kn:Known K mg "statement_number" ["tree"] sSNum)(B:TB2 P w K mg base D):Has P w K mg base (0 + 1) "statement_number" ["tree"] (spSN D):=by
 refine has_kb Kn scSNum (fun _ _ _ _ h=>by obtain ⟨e,v,rfl,nv,q⟩:=h;rfl) fun f cdv A outer s H vs Q E hr h=>?_
 obtain ⟨e,v,rfl,nv,q⟩:=h
 have nd:=scSNum.nd
 have m_len:=B.m_len
 have C:=B.C
 obtain ⟨a1,kv1,mOs,d1,v1⟩:=B.os
 refine ⟨_,(pss_cons (ps_if (PW.pt (pw_and (pt_cmpR op_eq (pe_fld (pv 0) rfl) pe_str (nomark _)) (pw_and1 (pt_cmpR op_eq (pe_callB call_len_seq (by rfl) m_len PySem.boot_len (pa_cons (pe_fld (pv 0) rfl) pa_nil)) pe_int (nomark _))))) (pss_one (ps_ret (pe_ci B.ifelse rfl))) pss_nil)
   (pss_one (ps_ret (pe_dgetK (pe_cr mOs rfl) (pe_fld (pv 0) rfl) (fun _ _=>rfl))))),?_⟩
 obtain ⟨k,ls,ps,bs,en,hk⟩:=os_kind e
 rw [en] at nv
 obtain ⟨x,rfl,T⟩:=TreeO.of nv
 obtain ⟨dx,b1,b2,b3,vls,vps,vbs,dd,h1,h2,h3,h4,sz,h5,h6,h7⟩:=T.ex
 have lb:=BlocksAt.len _ _ h7
 have fin:¬ (k = "if"∧bs.length=2)→tRet (tDGetK w K (tC (.ref a1)) (tFld K (tVar 0) "kind")) { nx:=fun _ H'=>Q .non H',rt:=Q } [some (.ref x)] H:=fun nk=>by
  rcases hk with ⟨z1,z2,_⟩ | ⟨_,ho⟩
  ·exact absurd ⟨z1,z2⟩ nk
  ·exact VI.dic d1 v1 (fun H' s Q' q'=>t_kind C (T.same s) rfl q') ho H (Same.refl H) _ fun H2 s2=>q H2 s2
 refine seq_and (test_kind (fun Q' q'=>t_kind C T rfl q') (fun c1=>?_) (fun c1=>?_))
 ·rw [if_pos rfl]
  refine ⟨_,rfl,x,D.CN,dx,_,_,rfl,h1,C.cl,C.no _ (.tail _ (.tail _ (.tail _ (.head _)))),rfl,b3,vbs,rfl,.inl (SqL.of h4),rfl,_,rfl,ite2 (fun c2=>?_) (fun c2=>?_)⟩
  ·have c2:(vbs.length:Int)=2:=by have:=of_decide_eq_true c2;injection this
   rcases hk with ⟨_,_,z3⟩ | ⟨nk,_⟩
   ·rw [z3] at q
    exact q H (Same.refl H)
   ·exact absurd ⟨c1,by omega⟩ nk
  ·exact fin fun z=>c2 (decide_eq_true (by rw [show vbs.length=2 by omega];rfl))
 ·rw [if_neg Bool.false_ne_true]
  exact fin fun z=>absurd z.1 c1
theorem drop_ext{te:TE}{Dn:Ends}{σ:St}{H0 H:Hp}{i:Nat}{l:Addr}{x y:List Int}(hi:σ[i]? = some (some (.ref l)))(n0:H0 l=none)(s0:Same H0 H)(hl:H l=some (.lst (vi x)))(h:NI te σ H y)(sz:x.length + y.length≤1000000)
  (k:∀ H1,Same H0 H1→H1 l=some (.lst (vi (x ++ y)))→Dn.nx σ H1):tDrop (tBM K "list" rExtend (tVar i) (tCons te tNil)) Dn σ H:=by
 refine ⟨_,hi,.inl ⟨rfl,_,SqL.of hl⟩,h H (Same.refl H) _ fun a H1 s1 n1 e1=>⟨l,a,_,_,rfl,rfl,s1 _ _ hl,e1,?_,k _ (same_upd (s0.trans s1) n0) ?_⟩⟩
 ·rw [vi_len,vi_len]
  exact Nat.le_trans sz (by decide)
 ·rw [upd_same,vi_app]
theorem shape(e:Vanbka.Stmt):(∃ x v lo hi,e = .slider x v lo hi)∨(∃ x v l,e = .choice x v l)∨∃ (k:Str) (lf:List Bytes) (c:Vanbka.Expr) (bl:List Stmts),nodeS e = .mk k (lf.map .bytes) [nodeE c] (bl.map nodesS)∧k≠"slider"∧k≠"choice"∧(k∈(["let", "set", "for"]:List Str)↔lf≠[])∧lf.length≤1∧
  e.tree=(([(numS e:Int)] ++ (lf.map counted).flatten) ++ c.tree) ++ (bl.map Stmts.tree).flatten∧c.depth < e.depth∧Cell.ew c≤Cell.sw1 e∧(∀ b∈bl,b.depth < e.depth∧Cell.ssw b≤Cell.sw1 e)∧∀ u∈lf,u.length≤Cell.sw1 e:=by
 cases e with
 | slider x v lo hi=>exact .inl ⟨x,v,lo,hi,rfl⟩
 | choice x v l=>exact .inr (.inl ⟨x,v,l,rfl⟩)
 | way x c =>
  obtain ⟨w1,w2,w3,w4,w5,w6⟩:=wayN_is x
  refine .inr (.inr ⟨wayK x,[],c,[],by rw [nodeS];rfl,w4,w5,⟨fun z=>absurd z w6,fun z=>absurd rfl z⟩,by decide,?_,by rw [Vanbka.Stmt.depth];omega,by rw [Cell.sw1];omega,(fun _ h=>nomatch h),(fun _ h=>nomatch h)⟩)
  have:(numS (.way x c):Int)=x.number:=w2
  rw [Vanbka.Stmt.tree,this]
  simp
 | leta x c=>exact .inr (.inr ⟨"let",[x],c,[],by rw [nodeS];rfl,by decide,by decide,⟨fun _=>List.cons_ne_nil _ _,fun _=>by decide⟩,Nat.le_refl 1,by rw [Vanbka.Stmt.tree];simp [numS],by rw [Vanbka.Stmt.depth];omega,by rw [Cell.sw1];omega,(fun _ h=>nomatch h),fun u h=>by rw [List.mem_singleton.mp h,Cell.sw1];omega⟩)
 | seta x c=>exact .inr (.inr ⟨"set",[x],c,[],by rw [nodeS];rfl,by decide,by decide,⟨fun _=>List.cons_ne_nil _ _,fun _=>by decide⟩,Nat.le_refl 1,by rw [Vanbka.Stmt.tree];simp [numS],by rw [Vanbka.Stmt.depth];omega,by rw [Cell.sw1];omega,(fun _ h=>nomatch h),fun u h=>by rw [List.mem_singleton.mp h,Cell.sw1];omega⟩)
 | iff c a=>exact .inr (.inr ⟨"if",[],c,[a],by rw [nodeS];rfl,by decide,by decide,⟨fun z=>absurd z (by decide),fun z=>absurd rfl z⟩,by decide,by rw [Vanbka.Stmt.tree];simp [numS,Stmts.tree],by rw [Vanbka.Stmt.depth];omega,by rw [Cell.sw1];omega,fun u h=>by rw [List.mem_singleton.mp h,Vanbka.Stmt.depth,Cell.sw1];omega,(fun _ h=>nomatch h)⟩)
 | iffElse c a d=>exact .inr (.inr ⟨"if",[],c,[a,d],by rw [nodeS];rfl,by decide,by decide,⟨fun z=>absurd z (by decide),fun z=>absurd rfl z⟩,by decide,by rw [Vanbka.Stmt.tree];simp [numS,Stmts.tree],by rw [Vanbka.Stmt.depth];omega,by rw [Cell.sw1];omega,fun u h=>by
   rw [Vanbka.Stmt.depth,Cell.sw1]
   rcases List.mem_cons.mp h with z | z
   ·rw [z];omega
   ·rw [List.mem_singleton.mp z];omega,(fun _ h=>nomatch h)⟩)
 | while_ c a=>exact .inr (.inr ⟨"while",[],c,[a],by rw [nodeS];rfl,by decide,by decide,⟨fun z=>absurd z (by decide),fun z=>absurd rfl z⟩,by decide,by rw [Vanbka.Stmt.tree];simp [numS,Stmts.tree],by rw [Vanbka.Stmt.depth];omega,by rw [Cell.sw1];omega,fun u h=>by rw [List.mem_singleton.mp h,Vanbka.Stmt.depth,Cell.sw1];omega,(fun _ h=>nomatch h)⟩)
 | «for» x c a=>exact .inr (.inr ⟨"for",[x],c,[a],by rw [nodeS];rfl,by decide,by decide,⟨fun _=>List.cons_ne_nil _ _,fun _=>by decide⟩,Nat.le_refl 1,by rw [Vanbka.Stmt.tree];simp [numS,Stmts.tree],by rw [Vanbka.Stmt.depth];omega,by rw [Cell.sw1];omega,fun u h=>by rw [List.mem_singleton.mp h,Vanbka.Stmt.depth,Cell.sw1];omega,fun u h=>by rw [List.mem_singleton.mp h,Cell.sw1];omega⟩)
structure TB3(P:Program)(w:World)(K:PySem.W.Frag)(mg:Str→Option Value)(base:Heap)(D:Ad):Prop extends TB2 P w K mg base D where
 snum:Has P w K mg base 1 "statement_number" ["tree"] (spSN D)
abbrev sTStmt:PySem.Stmt:=top 99
theorem scTStmt:FnScope ["tree", "kind", "told", "block"] ["tree"] (defScope sTStmt):=⟨rfl,rfl,rfl,by decide +kernel,rfl,by decide +kernel,by decide +kernel⟩
theorem blkTStmt:BlkOk ["tree", "kind", "told", "block"] (defScope sTStmt) { kind:=.function,names:=[(".0",.local),("block",.local),("tell_statements",.globalImplicit)],isGenerator:=false,isCoroutine:=false } [("block",3)]:=⟨rfl,by decide +kernel,by decide +kernel,by decide +kernel,by decide +kernel⟩
theorem ok_TStmt(Kn:Known K mg "tell_statement" ["tree"] sTStmt)(B:TB3 P w K mg base D){d:Nat}(I:Tells P w K mg base D d)(GSs:Has P w K mg base (5 * d + 6) "tell_statements" ["statements"] (ISp (RTSs K D d))):Has P w K mg base (5 * (d + 1) + 4 + 1) "tell_statement" ["tree"] (ISp (RTS D (d + 1))):=by
 refine has_kb Kn scTStmt (fun _ _ _ _ h=>by obtain ⟨_,⟨e,v,rfl,nv,hd,hw,rfl⟩,q⟩:=h;rfl) fun f cdv A outer s H vs Q E hr h=>?_
 obtain ⟨_,⟨e,v,rfl,nv,hd,hw,rfl⟩,q⟩:=h
 have nd:=scTStmt.nd
 have C:=B.C
 obtain ⟨gf,gfd,gF,gb,gk,gm⟩:=GSs
 refine ⟨_,(pss_cons (ps_set (i:=1) nd rfl (Or.inl rfl) (pe_fld (pv 0) rfl))
   (pss_cons (ps_set (i:=2) nd rfl (Or.inl rfl) (pe_lst (pa_cons (pe_has B.snum hr rfl (pa_cons (pv 0) pa_nil) (by omega)) pa_nil)))
   (pss_cons (ps_if (pt_cmpR op_eq (pv 1) pe_str (nomark _)) (pss_one (ps_ret (pe_op op_cat (pe_op op_cat (pv 2) (pe_has B.byt hr rfl (pa_cons (pe_ix ix_list (pe_fld (pv 0) rfl) pe_int (fun _ _=>rfl)) pa_nil) (by omega))) (pe_slice sl_list (pe_fld (pv 0) rfl) (po_some pe_int) po_none)))) pss_nil)
   (pss_cons (ps_if (pt_cmpR op_eq (pv 1) pe_str (nomark _)) (pss_one (ps_ret (pe_op op_cat (pe_op op_cat (pe_op op_cat (pv 2) (pe_has B.byt hr rfl (pa_cons (pe_ix ix_list (pe_fld (pv 0) rfl) pe_int (fun _ _=>rfl)) pa_nil) (by omega))) (pe_lst (pa_cons (pe_ix ix_list (pe_fld (pv 0) rfl) pe_int (fun _ _=>rfl)) pa_nil))) (pe_has B.byl hr rfl (pa_cons (pe_slice sl_list (pe_fld (pv 0) rfl) (po_some pe_int) po_none) pa_nil) (by omega))))) pss_nil)
   (pss_cons (ps_if (pt_cmpR op_in_seq (pv 1) (pe_tup (pa_cons pe_str (pa_cons pe_str (pa_cons pe_str pa_nil)))) rfl) (pss_one (ps_expr (pe_bm PySem.F.plainAttrs_list PySem.F.slot_list_extend PySem.F.type_list_extend mt_extend (pv 2) (pa_cons (pe_has B.byt hr rfl (pa_cons (pe_ix ix_list (pe_fld (pv 0) rfl) pe_int (fun _ _=>rfl)) pa_nil) (by omega)) pa_nil)))) pss_nil)
   (pss_cons (ps_expr (pe_bm PySem.F.plainAttrs_list PySem.F.slot_list_extend PySem.F.type_list_extend mt_extend (pv 2) (pa_cons (pe_has I.expr hr rfl (pa_cons (pe_ix ix_list (pe_fld (pv 0) rfl) pe_int (fun _ _=>rfl)) pa_nil) (by omega)) pa_nil)))
   (pss_one (ps_ret (pe_op op_cat (pv 2) (pe_has B.put hr rfl (pa_cons (pe_lc (own:=[("block",3)]) (te:=(tCall (ISp (RTSs K D d)) [] (fun _ _ _=>False) (tCons (tVar 3) tNil))) rfl nd (pi_list (pe_fld (pv 0) rfl)) blkTStmt (fun _ _ _ _ _=>pg_name (i:=3) nd rfl (Or.inl rfl)) (fun _ _ _ _ _=>pts_nil) (fun _ _ _ _ _=>(pe_call gF (hr.mono (by omega)) rfl gm gk gb .nil pass_not (pa_cons (pv 3) pa_nil)))) pa_nil) (by omega))))))))))),?_⟩
 have hw':Cell.sw1 e≤450000:=hw
 have tb:=Cell.tree_S e
 have bd:=Nat.le_trans tb (Nat.le_trans hw (show MW≤1000000 by decide))
 have sn:∀ {σ:St} {H1:Hp},Same H H1→σ[0]? = some (some v)→NI (tLst (tCons (tCall (spSN D) [] E (tCons (tVar 0) tNil)) tNil)) σ H1 [(numS e:Int)]:=fun s1 hv=>NI.one fun H' s Q' q'=>⟨_,hv,e,v,rfl,NodeAt.same (s1.trans s) _ _ nv,q'⟩
 rcases shape e with ⟨x,z,lo,hi,rfl⟩ | ⟨x,z,l,rfl⟩ | ⟨k,lf,c,bl,en,k1,k2,k3,k4,et,dc,wc,db,wl⟩
 ·rw [nodeS] at nv
  rw [Cell.sw1] at hw'
  obtain ⟨y,rfl,T⟩:=TreeO.of nv
  refine t_kind C T rfl (seq_seti (sn (Same.refl H) rfl) fun p H1 s1 n1 e1=>seq_is rfl rfl ?_)
  obtain ⟨vls,ll,hL,LL⟩:=LT.leaves (K:=K) (i:=0) (σ:=[some (.ref y),some (.str "slider"),some (.ref p),none]) C (T.same s1) rfl
  cases hL with
  | cons hl0 hL =>
   rename_i v0 vr
   have ev:vr=vi [z,lo,hi]:=by
    cases hL with
    | cons h1 hL =>
     cases hL with
     | cons h2 hL =>
      cases hL with
      | cons h3 hL =>
       cases hL
       cases h1
       cases h2
       cases h3
       rfl
   subst ev
   have et:(Vanbka.Stmt.slider x z lo hi).tree=([32] ++ counted x) ++ [z,lo,hi]:=by rw [Vanbka.Stmt.tree];rfl
   rw [et] at q bd
   exact ret_ci (CI'.cat (CI'.cat (MI.var rfl e1).c (NI.leaf (j:=0) C (T.same s1) rfl rfl (by omega)).c).c (MI.from (n:=1) LL (by rw [List.length_cons];omega) rfl).c) (q.on s1) bd
 ·rw [nodeS] at nv
  rw [Cell.sw1] at hw'
  obtain ⟨y,rfl,T⟩:=TreeO.of nv
  refine t_kind C T rfl (seq_seti (sn (Same.refl H) rfl) fun p H1 s1 n1 e1=>seq_ne rfl (by decide) (seq_is rfl rfl ?_))
  obtain ⟨vls,ll,hL,LL⟩:=LT.leaves (K:=K) (i:=0) (σ:=[some (.ref y),some (.str "choice"),some (.ref p),none]) C (T.same s1) rfl
  cases hL with
  | cons hl0 hL =>
   cases hL with
   | cons hl1 hL =>
    rename_i v0 v1 vr
    obtain ⟨as,rfl,hp⟩:=leaves_pieces hL
    have et:(Vanbka.Stmt.choice x z l).tree=(([33] ++ counted x) ++ [(z:Int)]) ++ countedAll l:=by rw [Vanbka.Stmt.tree];simp
    rw [et] at q bd
    exact ret_ci (CI'.cat (CI'.cat (CI'.cat (MI.var rfl e1).c (NI.leaf (j:=0) C (T.same s1) rfl rfl (by omega)).c).c (NI.one (VI.leaf (j:=1) C (T.same s1) rfl rfl)).c).c (NI.call (AT.of (LT.from (n:=2) LL (by rw [List.length_cons,List.length_cons];omega)) fun a2 H2 s2 hS=>⟨a2,as,l,rfl,hS,Paired.mapP hp fun _ _ z=>s2 _ _ z,by omega,rfl⟩)).c) (q.on s1) bd
 ·have nv':=nv
  rw [en] at nv'
  obtain ⟨y,rfl,T⟩:=TreeO.of nv'
  rw [et] at q bd
  refine t_kind C T rfl (seq_seti (sn (Same.refl H) rfl) fun p H1 s1 n1 e1=>seq_ne rfl k1 (seq_ne rfl k2 ?_))
  have fin:∀ H2,Same H H2→H2 p=some (.lst (vi ([(numS e:Int)] ++ (lf.map counted).flatten)))→tSeq (tDrop (tBM K "list" rExtend (tVar 2) (tCons (tCall (ISp (RTE D d)) [] E (tCons (tOp (rIxL K) (tFld K (tVar 0) "parts") (tC (.int 0))) tNil)) tNil)))
    (tRet (tOp rCat (tVar 2) (tCall (ISp (RPut K)) [] E (tCons (tLc (iList K (tFld K (tVar 0) "blocks")) (gName 3) tYes (tCall (ISp (RTSs K D d)) [] (fun _ _ _=>False) (tCons (tVar 3) tNil)) [3]) tNil)))) { nx:=fun _ H'=>Q .non H',rt:=Q } [some (.ref y),some (.str k),some (.ref p),none] H2:=fun H2 s2 e2=>by
   have b1:=bd
   rw [List.length_append,List.length_append] at b1
   refine drop_ext rfl n1 s2 e2 (NI.part (j:=0) C (T.same s2) rfl rfl (by omega) (by unfold MW;omega)) (by omega) fun H3 s3 e3=>?_
   obtain ⟨vbs,lv,hB,LB⟩:=LT.blocks (K:=K) (i:=0) (σ:=[some (.ref y),some (.str k),some (.ref p),none]) C (T.same s3) rfl
   have lb:=BlocksAt.len _ _ hB
   rw [List.length_map] at lb
   refine ret_ci (CI'.cat (MI.var rfl e3).c (NI.put (xs:=bl.map Stmts.tree) (PcI.lc LB (by rw [List.length_map];exact lb) (by rw [List.length_map];omega) (fun i v x hv hx=>?_) (fun _=>rfl)) (by omega)).c) (q.on s3) bd
   obtain ⟨b0,hb0,rfl⟩:=get_map hx
   obtain ⟨ab,ws,ev,ha,lw,nb⟩:=BlocksAt.get _ _ hB i (nodesS b0) (by rw [List.getElem?_map,hb0];rfl)
   rw [hv] at ev
   cases ev
   have:=db b0 (List.mem_of_getElem? hb0)
   exact NI.call (AT.tree rfl fun H4 s4=>⟨b0,ab,ws,rfl,SqL.of (s4 _ _ ha),lw,NodesAt.same s4 _ _ nb,by omega,by unfold MW;omega,rfl⟩)
  by_cases hk:k∈(["let", "set", "for"]:List Str)
  ·refine seq_yin rfl ["let", "set", "for"] hk fun H2 s2=>?_
   obtain ⟨u,rfl⟩:∃ u,lf=[u]:=by
    cases lf with
    | nil=>exact absurd rfl (k3.mp hk)
    | cons u r =>
     cases r with
     | nil=>exact ⟨u,rfl⟩
     | cons _ _=>rw [List.length_cons,List.length_cons] at k4;omega
   have e:(([u]:List Bytes).map counted).flatten=counted u:=by simp
   rw [e] at fin bd
   have b1:=bd
   rw [List.length_append,List.length_append,List.length_append] at b1
   exact drop_ext rfl n1 (s1.trans s2) (s2 _ _ e1) (NI.leaf (j:=0) C (T.same (s1.trans s2)) rfl rfl (by have:=wl u (.head _);omega)) (by omega) fun H3 s3 e3=>fin H3 s3 e3
  ·refine seq_nin rfl ["let", "set", "for"] hk fun H2 s2=>?_
   have e:lf=[]:=Classical.byContradiction fun z=>hk (k3.mpr z)
   refine fin H2 (s1.trans s2) ?_
   rw [e]
   exact s2 _ _ e1
structure TKnown(K:PySem.W.Frag)(mg:Str→Option Value):Prop where
 parts:Known K mg "tell_parts" ["parts"] sTParts
 listed:Known K mg "tell_listed" ["parts"] sTListed
 stmts:Known K mg "tell_statements" ["statements"] sTStmts
 fields:Known K mg "tell_fields" ["tree"] sTFields
 func:Known K mg "tell_function" ["tree"] sTFn
 inside:Known K mg "tell_inside" ["tree"] sTIn
 expr:Known K mg "tell_expression" ["tree"] sTExpr
 stmt:Known K mg "tell_statement" ["tree"] sTStmt
theorem posE(e:Vanbka.Expr):1≤e.depth:=by cases e <;> (rw [Vanbka.Expr.depth];omega)
theorem posS(e:Vanbka.Stmt):1≤e.depth:=by cases e <;> (rw [Vanbka.Stmt.depth];omega)
theorem tells(Kn:TKnown K mg)(B:TB3 P w K mg base D):∀ d,Tells P w K mg base D d
 | 0=>⟨has_no Kn.expr (fun vs H Q E h=>by
   obtain ⟨_,⟨e,v,rfl,nv,hd,hw,rfl⟩,_⟩:=h
   have:=posE e
   omega),has_no Kn.stmt (fun vs H Q E h=>by
   obtain ⟨_,⟨e,v,rfl,nv,hd,hw,rfl⟩,_⟩:=h
   have:=posS e
   omega)⟩
 | d + 1=>by
  have I:=tells Kn B d
  have GP:=ok_TParts Kn.parts B.toTB1 I
  have GL:=ok_TListed Kn.listed B.toTB1 GP
  have GS:=ok_TStmts Kn.stmts B.toTB1 I
  exact ⟨ok_TExpr Kn.expr B.toTB GP GL (ok_TFn Kn.func B.toTB GS) (ok_TIn Kn.inside B.toTB I GP GL (ok_TFields Kn.fields B.toTB I)),ok_TStmt Kn.stmt B I GS⟩
end
end Prg
end
section
set_option autoImplicit false
namespace Cell
open Vanbka
theorem digits_len:∀ (k n:Nat),0 < k→n < 10 ^ k→(Nat.toDigits 10 n).length≤k
 | 0,_,h,_=>absurd h (Nat.lt_irrefl 0)
 | 1,n,_,h=>by rw [Nat.toDigits_of_lt_base (by simpa using h)];exact Nat.le_refl _
 | k + 2,n,_,h=>by
  rw [Nat.toDigits_eq_if (by decide)]
  split
  ·show 1≤_;omega
  ·rw [List.length_append]
   have:=digits_len (k + 1) (n / 10) (Nat.succ_pos _) (by rw [Nat.div_lt_iff_lt_mul (by decide)];rw [Nat.pow_succ] at h;exact h)
   show _ + 1≤_;omega
theorem natOf_aux:∀ (d:Bytes) (a:Nat),(∀ c∈d,digit c=true)→d.foldl (fun n c=>10 * n + (c.toNat - 48)) a < (a + 1) * 10 ^ d.length
 | [],a,_=>by simp
 | c::d,a,h=>by
  have:=natOf_aux d (10 * a + (c.toNat - 48)) (fun x hx=>h x (.tail _ hx))
  have hc:=h c (.head _)
  unfold digit at hc
  simp only [Bool.and_eq_true,decide_eq_true_eq,UInt8.le_iff_toNat_le] at hc
  have hc2:c.toNat≤57:=hc.2
  rw [List.foldl_cons,List.length_cons,Nat.pow_succ]
  refine Nat.lt_of_lt_of_le this ?_
  have:10 * a + (c.toNat - 48) + 1≤(a + 1) * 10:=by omega
  calc (10 * a + (c.toNat - 48) + 1) * 10 ^ d.length≤((a + 1) * 10) * 10 ^ d.length:=Nat.mul_le_mul_right _ this
   _=(a + 1) * (10 ^ d.length * 10):=by rw [Nat.mul_assoc,Nat.mul_comm 10]
theorem natOf_lt(d:Bytes)(h:∀ c∈d,digit c=true):natOf d < 10 ^ d.length:=by
 have:=natOf_aux d 0 h
 unfold natOf
 omega
theorem quoted_w2:∀ (u:Bytes) (x:Bytes×Nat),quotedFrom u=some x→x.1.length≤x.2:=by
 intro u
 induction u using quotedFrom.induct <;> intro x hx <;> simp only [quotedFrom,Option.map_eq_some_iff,Option.some.injEq,reduceCtorEq] at hx
 all_goals first
  | (subst hx;simp)
  | (obtain ⟨y,hy,rfl⟩:=hx;rename_i ih _ ;have:=ih _ hy;simp only [List.length_cons];omega)
  | (obtain ⟨y,hy,rfl⟩:=hx;rename_i ih;have:=ih _ hy;simp only [List.length_cons];omega)
  | skip
theorem mem_tw{p:UInt8→Bool}:∀ (l:Bytes),∀ c∈l.takeWhile p,p c=true
 | [],c,h=>by simp at h
 | x::l,c,h=>by
  rw [List.takeWhile_cons] at h
  split at h
  ·rcases List.mem_cons.mp h with rfl | h
   ·assumption
   ·exact mem_tw l c h
  ·cases h
theorem lex_w{t:Bytes}{l:Lex}{k:Nat}(h:lexAt t=some (l,k)):lw l≤2 * k:=by
 unfold lexAt at h
 split at h
 ·cases h
 ·rename_i c r
  split at h
  ·rename_i hl
   dsimp only at h
   split at h
   ·cases h
    have wb:wordByte c=true:=by unfold wordByte;rw [hl];rfl
    have wd:word ((c::r).takeWhile wordByte)=true:=by
     rw [List.takeWhile_cons,if_pos wb]
     rename_i hk
     rw [List.takeWhile_cons,if_pos wb,List.length_cons] at hk
     show (letter c && ((r.takeWhile wordByte).all wordByte && decide ((r.takeWhile wordByte).length≤15)))=true
     rw [hl,Bool.true_and,Bool.and_eq_true]
     exact ⟨List.all_eq_true.mpr fun d hd=>mem_tw _ d hd,decide_eq_true (by omega)⟩
    rw [lw,ne,if_pos wd];omega
   ·cases h
  split at h
  ·dsimp only at h
   split at h
   ·rename_i hd hk
    cases h
    simp only [Bool.and_eq_true,decide_eq_true_eq] at hk
    have n1:=natOf_lt ((c::r).takeWhile digit) (mem_tw _)
    have pos:0 < ((c::r).takeWhile digit).length:=by rw [List.takeWhile_cons,if_pos hd,List.length_cons];omega
    have dl:=digits_len _ _ pos n1
    rw [lw,nw,if_pos (Nat.lt_of_lt_of_le n1 (Nat.pow_le_pow_right (by decide) (by omega)))]
    omega
   ·cases h
  split at h
  ·rw [Option.map_eq_some_iff] at h
   obtain ⟨x,hx,e⟩:=h
   cases e
   have:=quoted_w2 r x hx
   rw [lw];omega
  split at h
  ·cases h;rw [lw];omega
  split at h
  ·cases h;rw [lw];omega
  ·cases h
theorem tokens_w:∀ (n p:Nat) (t:Bytes) (ts:List Tok),tokensFrom n p t = .ok ts→tws ts≤202 * t.length:=by
 intro n
 induction n with
 | zero=>intro p t ts h;cases h;rw [tws];omega
 | succ n ih =>
  intro p t ts h
  cases t with
  | nil=>cases h;rw [tws];omega
  | cons c r =>
   rw [tokensFrom] at h
   split at h
   ·have:=ih _ _ _ h
    rw [List.length_cons];omega
   split at h
   ·have:=ih _ _ _ h
    rw [List.length_drop] at this
    omega
   ·split at h
    ·cases h
    ·rename_i l k hl
     split at h
     ·cases h
     ·rename_i ts' hts
      cases h
      have:=ih _ _ _ hts
      have kl:=lexAt_len hl
      have wl:=lex_w hl
      rw [List.length_drop] at this
      rw [tws,tw]
      dsimp only
      omega
theorem read_w{t:Bytes}{s:Stmts}(h:Vanbka.read t = .ok s)(ht:t.length≤600):ssw s≤200000∧s.depth≤40:=by
 unfold Vanbka.read at h
 split at h
 ·cases h
 split at h
 ·cases h
 rename_i ts hts
 split at h
 ·cases h
 split at h
 ·cases h
 rename_i s' hp
 split at h
 ·cases h
 ·cases h
  have a:=program_w hp
  have c:=tokens_w _ _ _ _ hts
  exact ⟨by omega,by omega⟩
end Cell
end
section
set_option maxRecDepth 100000
set_option maxHeartbeats 4000000
namespace Prg
open PySem L2
open Vanbka (Bytes Exprs Fields Stmts)
abbrev sSame:PySem.Stmt:=top 114
theorem dpAll_vi{K:PySem.W.Frag}{H:Hp}:∀ x:List Int,DpAll K H (vi x) (x.map PyData.int)
 | []=>.nil
 | i::x=>.cons (.int i) (dpAll_vi x)
theorem lay_ints:∀ x:List Int,PyData.canLayAll0 (x.map PyData.int)=true∧PyData.depthAll (x.map PyData.int)=0
 | []=>by rw [List.map_nil,PyData.canLayAll0,PyData.depthAll];exact ⟨rfl,rfl⟩
 | i::x=>by
  have:=lay_ints x
  rw [List.map_cons,PyData.canLayAll0,PyData.depthAll,PyData.canLay0,PyData.depth,this.1,this.2]
  exact ⟨rfl,rfl⟩
theorem shaped_ints(x:List Int):SeqAt.shaped (.list (x.map PyData.int))=true:=by
 have:=lay_ints x
 unfold SeqAt.shaped
 rw [PyData.canLay0,PyData.depth,this.1,this.2]
 rfl
theorem eqv_all:∀ x y:List Int,PyData.eqvAll (x.map PyData.int) (y.map PyData.int)=(x == y)
 | [],[]=>by rw [List.map_nil,PyData.eqvAll];rfl
 | [],j::y=>by rw [List.map_nil,List.map_cons,PyData.eqvAll];rfl
 | i::x,[]=>by rw [List.map_nil,List.map_cons,PyData.eqvAll];rfl
 | i::x,j::y=>by rw [List.map_cons,List.map_cons,PyData.eqvAll,PyData.eqv,eqv_all x y];rfl
theorem eqv_ints(x y:List Int):PyData.eqv (.list (x.map PyData.int)) (.list (y.map PyData.int))=(x == y):=by rw [PyData.eqv,eqv_all]
def spT2(K:PySem.W.Frag)(g:Bytes→Bytes→Vanbka.Answer):Sp:=fun vs H Q _=>∃ (a:Addr) (t:Bytes) (b:Addr) (u:Bytes),vs=[.ref a,.ref b]∧SqL K H a (vb t)∧SqL K H b (vb u)∧∀ l H',H' l=some (.lst ((told (g t u)).map V.int))→Q (.ref l) H'
def sameTold(t u:Bytes):Vanbka.Answer:=Vanbka.answer (.same t u)
section
variable{P:Program}{w:World}{K:PySem.W.Frag}{mg:Str→Option Value}{base:Heap}{D:Ad}
theorem scSame:FnScope ["text_a", "text_b", "program_a", "program_b"] ["text_a", "text_b"] (defScope sSame):=⟨rfl,rfl,rfl,by decide +kernel,rfl,by decide +kernel,by decide +kernel⟩
theorem ok_same{f fI:Addr}{fd fdI:FuncData}(F:Fun K "same" "same" sSame f fd)(T:FaultAt K mg D.CF fI fdI)(GL:Has P w K mg base 1 "is_too_long" ["text"] (spLong K))(G:Has P w K mg base 506 "read_good" ["text"] (spGood K D))(GP:Has P w K mg base 206 "tell_statements" ["statements"] (ISp (RTSs K D 40)))(c2:CI mg "TOO_LONG" (-1))(c3:CI mg "NOT_GOOD" (-2))(c4:CI mg "THE_SAME" 1)(c5:CI mg "NOT_THE_SAME" 0) :
  FnOk P w K mg base (CXF P w) 507 f fd ["text_a", "text_b"] (spT2 K sameTold):=by
 refine F.okF (k:=506) scSame (fun vs H Q E h=>?_) (fun cdv A outer s H vs Q E hr h=>?_)
 ·obtain ⟨a,t,b,u,rfl,_⟩:=h
  rfl
 obtain ⟨a,t,b,u,rfl,hS,hU,q⟩:=h
 have nd:=scSame.nd
 have hu:=hr.units
 obtain ⟨gf,gfd,gF,gb,gk,gm⟩:=G
 refine ⟨_,(pss_cons (ps_if (PW.pt (pw_or (pt_val (pe_has GL hr rfl (pa_cons (pv 0) pa_nil))) (pw_or1 (pt_val (pe_has GL hr rfl (pa_cons (pv 1) pa_nil)))))) (pss_one (ps_ret (pe_lst (pa_cons (pe_ci c2 rfl) pa_nil)))) pss_nil)
   (pss_cons (ps_tryN (tb:=fun EB=>tSeq (tAsg (tCall (spGood K D) [] EB (tCons (tVar 0) tNil)) (gName 2)) (tAsg (tCall (spGood K D) [] EB (tCons (tVar 1) tNil)) (gName 3))) (ts:=tRet (tLst (tCons (tC (.int (-2))) tNil))) rfl rfl rfl rfl T.m T.x (fun _ _ _ hp=>(pss_cons (ps_set (i:=2) nd rfl (Or.inl rfl) (pe_call gF hr rfl gm gk gb .nil hp (pa_cons (pv 0) pa_nil))) (pss_one (ps_set (i:=3) nd rfl (Or.inl rfl) (pe_call gF hr rfl gm gk gb .nil hp (pa_cons (pv 1) pa_nil)))))) (fun _ _=>(pss_one (ps_ret (pe_lst (pa_cons (pe_ci c3 rfl) pa_nil))))))
   (pss_cons (ps_if (pt_cmpR (op_eqD hu) (pe_has GP hr rfl (pa_cons (pv 2) pa_nil)) (pe_has GP hr rfl (pa_cons (pv 3) pa_nil)) (nomark _)) (pss_one (ps_ret (pe_lst (pa_cons (pe_ci c4 rfl) pa_nil)))) pss_nil)
   (pss_one (ps_ret (pe_lst (pa_cons (pe_ci c5 rfl) pa_nil))))))),?_⟩
 have qq:∀ l H',H' l=some (.lst ((told (Vanbka.withTwo t u fun s z=>.told [if s.tree == z.tree then 1 else 0])).map V.int))→Q (.ref l) H':=q
 unfold Vanbka.withTwo at qq
 have long:(Vanbka.LONGEST < t.length∨Vanbka.LONGEST < u.length)→∀ l H',H' l=some (.lst [V.int (-1)])→Q (.ref l) H':=fun c=>by
  rw [if_pos (by simpa using c)] at qq
  exact qq
 refine ⟨_,rfl,a,t,rfl,hS,_,rfl,ite2 (fun c=>?_) (fun c=>?_)⟩
 ·exact ⟨(by show 1≤2 ^ 24;decide),fun l nl=>long (.inl (of_decide_eq_true c)) l _ upd_same⟩
 have n1:¬ Vanbka.LONGEST < t.length:=fun z=>c (decide_eq_true z)
 refine ⟨_,rfl,b,u,rfl,hU,_,rfl,ite2 (fun c=>?_) (fun c=>?_)⟩
 ·exact ⟨(by show 1≤2 ^ 24;decide),fun l nl=>long (.inr (of_decide_eq_true c)) l _ upd_same⟩
 have n2:¬ Vanbka.LONGEST < u.length:=fun z=>c (decide_eq_true z)
 rw [if_neg (by simpa using ⟨Nat.not_lt.mp n1,Nat.not_lt.mp n2⟩)] at qq
 have l1:t.length≤600:=by unfold Vanbka.LONGEST at n1;omega
 have l2:u.length≤600:=by unfold Vanbka.LONGEST at n2;omega
 cases r1:Vanbka.read t with
 | error e =>
  rw [r1] at qq
  refine ⟨fun C' dxo H'=>∃ dx,C' = .ref D.CF∧dxo=some dx,⟨_,rfl,a,t,rfl,hS,l1,?_⟩,?_⟩
  ·rw [r1]
   exact fun dx H' hx=>⟨dx,rfl,rfl⟩
  ·rintro C' dxo H' ⟨dx,rfl,rfl⟩
   exact ⟨rfl,dx,rfl,fun σ' H2 hl sm=>⟨(by show 1≤2 ^ 24;decide),fun l nl=>qq l _ upd_same⟩⟩
 | ok sa =>
  rw [r1] at qq
  obtain ⟨w1,d1⟩:=Cell.read_w r1 l1
  cases r2:Vanbka.read u with
  | error e =>
   rw [r2] at qq
   refine ⟨fun C' dxo H'=>∃ dx,C' = .ref D.CF∧dxo=some dx,⟨_,rfl,a,t,rfl,hS,l1,?_⟩,?_⟩
   ·rw [r1]
    intro va H1 s1 ra
    refine ⟨_,rfl,b,u,rfl,s1.seq hU,l2,?_⟩
    rw [r2]
    exact fun dx H' hx=>⟨dx,rfl,rfl⟩
   ·rintro C' dxo H' ⟨dx,rfl,rfl⟩
    exact ⟨rfl,dx,rfl,fun σ' H2 hl sm=>⟨(by show 1≤2 ^ 24;decide),fun l nl=>qq l _ upd_same⟩⟩
  | ok sb =>
   rw [r2] at qq
   obtain ⟨w2,d2⟩:=Cell.read_w r2 l2
   refine ⟨fun _ _ _=>False,⟨_,rfl,a,t,rfl,hS,l1,?_⟩,fun _ _ _ z=>z.elim⟩
   rw [r1]
   intro va H1 s1 ra
   obtain ⟨pa,ua,rfl,hpa,lpa,hNa⟩:=ra
   refine ⟨_,rfl,b,u,rfl,s1.seq hU,l2,?_⟩
   rw [r2]
   intro vbb H2 s2 rb
   obtain ⟨pb,ub,rfl,hpb,lpb,hNb⟩:=rb
   have ga:NI (tCall (ISp (RTSs K D 40)) [] E (tCons (tVar 2) tNil)) [some (.ref a),some (.ref b),some (.ref pa),some (.ref pb)] H2 sa.tree:=NI.call (AT.tree rfl fun H3 s3=>⟨sa,pa,ua,rfl,SqL.of (s3 _ _ (s2 _ _ hpa)),by omega,NodesAt.same (s2.trans s3) _ _ hNa,d1,(by unfold MW;omega),rfl⟩)
   have gb':NI (tCall (ISp (RTSs K D 40)) [] E (tCons (tVar 3) tNil)) [some (.ref a),some (.ref b),some (.ref pa),some (.ref pb)] H2 sb.tree:=NI.call (AT.tree rfl fun H3 s3=>⟨sb,pb,ub,rfl,SqL.of (s3 _ _ hpb),by omega,NodesAt.same s3 _ _ hNb,d2,(by unfold MW;omega),rfl⟩)
   refine ga H2 (Same.refl H2) _ fun p H3 s3 n3 e3=>gb' H3 s3 _ fun r H4 s4 n4 e4=>?_
   refine ⟨_,_,.lst (SqL.of (s4 _ _ e3)) (dpAll_vi _),.lst (SqL.of e4) (dpAll_vi _),shaped_ints _,shaped_ints _,_,rfl,?_⟩
   rw [eqv_ints]
   have qq:∀ l H',H' l=some (.lst (([if sa.tree == sb.tree then 1 else 0]:List Int).map V.int))→Q (.ref l) H':=qq
   refine ite2 (fun c=>?_) (fun c=>?_)
   ·rw [if_pos c] at qq
    exact ⟨(by show 1≤2 ^ 24;decide),fun l nl=>qq l _ upd_same⟩
   ·rw [if_neg c] at qq
    exact ⟨(by show 1≤2 ^ 24;decide),fun l nl=>qq l _ upd_same⟩
end
end Prg
end
section
set_option maxRecDepth 100000
set_option maxHeartbeats 2000000
namespace L2
open PySem PySem.Spec PyProof.Rows
open PySem.W (WData Codec OpenSpec Well WellAll ReadsW ReadsAllW)
mutual
inductive Dw(K:PySem.W.Frag)(H:Hp):V→WData→Prop
 | non:Dw K H .non .none
 | bl (b:Bool):Dw K H (.bl b) (.bool b)
 | int (i:Int):Dw K H (.int i) (.int i)
 | str (x:Str):Dw K H (.str x) (.str x)
 | byt (b:Array UInt8):Dw K H (.byt b) (.bytes b.toList)
 | lst {a:Addr} {xs:List V} {ds:List WData}:SqL K H a xs→DwAll K H xs ds→Dw K H (.ref a) (.list ds)
 | tup {a:Addr} {xs:List V} {ds:List WData}:SqT K H a xs→DwAll K H xs ds→Dw K H (.ref a) (.tuple ds)
inductive DwAll(K:PySem.W.Frag)(H:Hp):List V→List WData→Prop
 | nil:DwAll K H [] []
 | cons {v:V} {vs:List V} {d:WData} {ds:List WData}:Dw K H v d→DwAll K H vs ds→DwAll K H (v::vs) (d::ds)
end
theorem dw_ints{K:PySem.W.Frag}{H:Hp}:∀ ns:List Int,DwAll K H (ns.map V.int) (ns.map WData.int)
 | []=>.nil
 | n::r=>.cons (.int n) (dw_ints r)
theorem ints_dw{K:PySem.W.Frag}{H:Hp}:∀ (ns:List Int) (xs:List V),DwAll K H xs (ns.map WData.int)→xs=ns.map V.int
 | [],xs,h=>by
  cases h
  rfl
 | n::r,xs,h=>by
  cases h with
  | cons h1 h2 =>
   cases h1
   rw [ints_dw r _ h2] <;> rfl
section
variable{P:Program}{w:World}{K:PySem.W.Frag}{H:Hp}{h:Heap}{R:PySem.W.WRecords}{cl:Str→Option Addr}
theorem sqL_at{a:Addr}{xs:List V}(hok:HOk P w H h)(KX:K.In h)(q:SqL K H a xs):∃ (its:List Value) (o:Obj) (n:Nat),Vals xs its∧h.get? a=some o∧o.cls = .type "list"∧o.data = .seq its.toArray n:=by
 rcases q with q | ⟨o,its,n,e,hc,_,hd,_,hv⟩
 ·obtain ⟨_,its,n,hv,e⟩:=(show ObjOk P w H h a (.lst xs) from q.ok hok)
  exact ⟨its,_,n,hv,e,rfl,rfl⟩
 ·exact ⟨its.toList,o,n,hv,KX _ _ e,hc,by simp [hd]⟩
theorem sqT_at{a:Addr}{xs:List V}(hok:HOk P w H h)(KX:K.In h)(q:SqT K H a xs):∃ (its:List Value) (o:Obj) (n:Nat),Vals xs its∧h.get? a=some o∧o.cls = .type "tuple"∧o.data = .seq its.toArray n:=by
 rcases q with q | ⟨o,its,n,e,hc,hd,_,hv⟩
 ·obtain ⟨_,its,hv,o,e,hc,n,hd⟩:=(show ObjOk P w H h a (.tup xs) from q.ok hok)
  exact ⟨its,o,n,hv,e,hc,hd⟩
 ·exact ⟨its.toList,o,n,hv,KX _ _ e,hc,by simp [hd]⟩
mutual
theorem Dw.reads(hok:HOk P w H h)(KX:K.In h):∀ (d:WData) (v:V) (u:Value),Dw K H v d→RelV v u→∃ as,ReadsW R cl h u d as
 | .none,_,_,x,r=>by
  cases x
  cases r
  exact ⟨_,ReadsW.none⟩
 | .bool b,_,_,x,r=>by
  cases x
  cases r
  exact ⟨_,ReadsW.bool b⟩
 | .int i,_,_,x,r=>by
  cases x
  obtain ⟨t,rfl⟩:=r
  exact ⟨_,ReadsW.int i t⟩
 | .str s,_,_,x,r=>by
  cases x
  obtain ⟨t,rfl⟩:=r
  exact ⟨_,ReadsW.str s t⟩
 | .bytes b,_,_,x,r=>by
  cases x
  obtain ⟨t,rfl⟩:=r
  exact ⟨_,ReadsW.bytes _ t⟩
 | .list ds,_,_,x,r=>by
  cases x with
  | lst hs ha =>
   cases r
   obtain ⟨its,o,n,rv,ho,hc,hd⟩:=sqL_at hok KX hs
   obtain ⟨as,hr⟩:=Dw.readsAll hok KX ds _ its ha rv
   exact ⟨_,ReadsW.list ho hc hd hr⟩
 | .tuple ds,_,_,x,r=>by
  cases x with
  | tup hs ha =>
   cases r
   obtain ⟨its,o,n,rv,ho,hc,hd⟩:=sqT_at hok KX hs
   obtain ⟨as,hr⟩:=Dw.readsAll hok KX ds _ its ha rv
   exact ⟨_,ReadsW.tuple ho hc hd hr⟩
 | .float _,_,_,x,_=>by cases x
 | .dict _,_,_,x,_=>by cases x
 | .bytearray _,_,_,x,_=>by cases x
 | .set _,_,_,x,_=>by cases x
 | .frozenset _,_,_,x,_=>by cases x
 | .obj _ _,_,_,x,_=>by cases x
theorem Dw.readsAll(hok:HOk P w H h)(KX:K.In h):∀ (ds:List WData) (vs:List V) (us:List Value),DwAll K H vs ds→Vals vs us→∃ as,ReadsAllW R cl h us ds as
 | [],_,_,x,r=>by
  cases x
  cases r
  exact ⟨_,ReadsAllW.nil⟩
 | d::ds,_,_,x,r=>by
  cases x with
  | cons h1 h2 =>
   cases r with
   | cons r1 r2 =>
    obtain ⟨as,q1⟩:=Dw.reads hok KX d _ _ h1 r1
    obtain ⟨bs,q2⟩:=Dw.readsAll hok KX ds _ _ h2 r2
    exact ⟨_,ReadsAllW.cons q1 q2⟩
end
end
mutual
def plW:WData→Bool
 | .none=>true
 | .bool _=>true
 | .int _=>true
 | .str _=>true
 | .bytes _=>true
 | .list xs=>plWs xs
 | .tuple xs=>plWs xs
 | _=>false
def plWs:List WData→Bool
 | []=>true
 | x::r=>plW x && plWs r
end
theorem plWs_map{α:Type}{f:α→WData}(h:∀ a,plW (f a)=true):∀ l:List α,plWs (l.map f)=true
 | []=>rfl
 | x::r=>by
  show (plW (f x) && plWs (r.map f))=true
  rw [h x,plWs_map h r] <;> rfl
theorem pl_enc:∀ (c:Codec) (a:c.denote),plW (c.enc a)=true
 | .unit,_=>rfl
 | .bool,_=>rfl
 | .int _ _,_=>rfl
 | .nat _ _,_=>rfl
 | .u8,_=>rfl
 | .bytes _ _,_=>rfl
 | .text _ _ _ _,_=>rfl
 | .list _ _ c,a=>plWs_map (fun x=>pl_enc c x) a
 | .pair c d,a=>by
  show (plW (c.enc a.1) && (plW (d.enc a.2) && true))=true
  rw [pl_enc c a.1,pl_enc d a.2] <;> rfl
 | .triple c d e,a=>by
  show (plW (c.enc a.1) && (plW (d.enc a.2.1) && (plW (e.enc a.2.2) && true)))=true
  rw [pl_enc c a.1,pl_enc d a.2.1,pl_enc e a.2.2] <;> rfl
 | .option c,none=>rfl
 | .option c,some x=>pl_enc c x
theorem pl_encAll:∀ (cs:List Codec) (a:Codec.denoteAll cs),plWs (Codec.encAll cs a)=true
 | [],_=>rfl
 | c::cs,a=>by
  show (plW (c.enc a.1) && plWs (Codec.encAll cs a.2))=true
  rw [pl_enc c a.1,pl_encAll cs a.2] <;> rfl
theorem weight_mem:∀ {xs:List WData} {d:WData},d∈xs→d.weight≤WData.weightAll xs
 | [],d,h=>absurd h (by simp)
 | x::r,d,h=>by
  show d.weight≤x.weight + 1 + WData.weightAll r
  rcases List.mem_cons.mp h with e | m
  ·rw [e]
   omega
  ·have z:=weight_mem m
   omega
def toV:Value→V
 | .none=>.non
 | .bool b=>.bl b
 | .int i _=>.int i
 | .str x _=>.str x
 | .bytes b _=>.byt b
 | .ref a=>.ref a
 | _=>.non
def OkU(A:List Addr):Value→Prop
 | .none=>True
 | .bool _=>True
 | .int _ _=>True
 | .str _ _=>True
 | .bytes _ _=>True
 | .ref a=>a∈A
 | _=>False
theorem OkU.mono{A B:List Addr}(h:∀ a∈A,a∈B):∀ {u:Value},OkU A u→OkU B u:=fun {u} x=>by
 cases u with
 | ref a=>exact h a x
 | none=>trivial
 | bool b=>trivial
 | int i t=>trivial
 | str s t=>trivial
 | bytes b t=>trivial
 | _=>exact False.elim x
theorem relV_toV{A:List Addr}{u:Value}(x:OkU A u):RelV (toV u) u:=by
 cases u with
 | ref a=>rfl
 | none=>rfl
 | bool b=>rfl
 | int i t=>exact ⟨t,rfl⟩
 | str s t=>exact ⟨t,rfl⟩
 | bytes b t=>exact ⟨t,rfl⟩
 | _=>exact False.elim x
theorem vals_toV{A:List Addr}:∀ {vs:List Value},(∀ u∈vs,OkU A u)→Vals (vs.map toV) vs
 | [],_=>.nil
 | u::r,h=>.cons (relV_toV (h u (List.mem_cons_self ..))) (vals_toV fun x hx=>h x (List.mem_cons_of_mem _ hx))
def ArgOb(h:Heap)(A:List Addr)(a:Addr):Prop:=∃ vs:List Value,vs.length≤sizeLine∧(∀ u∈vs,OkU A u)∧
 (h.get? a=some { cls:=.type "list",data:=.seq vs.toArray }∨h.get? a=some { cls:=.type "tuple",data:=.seq vs.toArray })
theorem ArgOb.mono{h:Heap}{A B:List Addr}{a:Addr}(k:∀ a∈A,a∈B)(x:ArgOb h A a):ArgOb h B a:=by
 obtain ⟨vs,h1,h2,h3⟩:=x
 exact ⟨vs,h1,fun u hu=>(h2 u hu).mono k,h3⟩
theorem wellAll_len{P:Params}{h:Heap}:∀ {vs:List Value} {ds:List WData},WellAll P h vs ds→vs.length=ds.length
 | _,_,.nil=>rfl
 | _,_,.cons _ b=>by
  show _ + 1=_ + 1
  rw [wellAll_len b]
theorem well_list{P:Params}{h:Heap}{v:Value}{ds:List WData}(x:Well P h v (.list ds)):∃ (a:Addr) (vs:List Value),v = .ref a∧h.get? a=some { cls:=.type "list",data:=.seq vs.toArray }∧WellAll P h vs ds:=by
 cases x with
 | list ho hall=>exact ⟨_,_,rfl,ho,hall⟩
theorem well_tuple{P:Params}{h:Heap}{v:Value}{ds:List WData}(x:Well P h v (.tuple ds)):∃ (a:Addr) (vs:List Value),v = .ref a∧h.get? a=some { cls:=.type "tuple",data:=.seq vs.toArray }∧WellAll P h vs ds:=by
 cases x with
 | tuple ho hall=>exact ⟨_,_,rfl,ho,hall⟩
theorem well_cons{P:Params}{h:Heap}{us:List Value}{d:WData}{ds:List WData}(x:WellAll P h us (d::ds)):∃ (v:Value) (vs:List Value),us=v::vs∧Well P h v d∧WellAll P h vs ds:=by
 cases x with
 | cons a b=>exact ⟨_,_,rfl,a,b⟩
theorem line_of{n:Nat}(h:n≤1048576):n≤sizeLine:=Nat.le_trans h (by decide)
section
variable{P:Params}{h:Heap}
mutual
theorem area_one:∀ (d:WData) (v:Value),Well P h v d→plW d=true→d.weight≤1048576→∃ A:List Addr,OkU A v∧∀ a∈A,ArgOb h A a
 | .none,_,x,_,_=>by
  cases x
  exact ⟨[],trivial,fun a m=>absurd m (by simp)⟩
 | .bool b,_,x,_,_=>by
  cases x
  exact ⟨[],trivial,fun a m=>absurd m (by simp)⟩
 | .int i,_,x,_,_=>by
  cases x
  exact ⟨[],trivial,fun a m=>absurd m (by simp)⟩
 | .str s,_,x,_,_=>by
  cases x
  exact ⟨[],trivial,fun a m=>absurd m (by simp)⟩
 | .bytes b,_,x,_,_=>by
  cases x
  exact ⟨[],trivial,fun a m=>absurd m (by simp)⟩
 | .list ds,_,x,p,z=>by
  obtain ⟨a,vs,rfl,ho,hall⟩:=well_list x
  have z2:WData.weightAll ds≤1048576:=z
  obtain ⟨A,h1,h2⟩:=area_all ds _ hall p fun d hd=>Nat.le_trans (weight_mem hd) z2
  have k:∀ b∈A,b∈a::A:=fun b hb=>List.mem_cons_of_mem _ hb
  refine ⟨a::A,List.mem_cons_self ..,fun b hb=>?_⟩
  rcases List.mem_cons.mp hb with e | m
  ·rw [e]
   exact ⟨vs,line_of (by rw [wellAll_len hall];exact Nat.le_trans (PySem.W.length_le_weightAllW ds) z2),fun u hu=>(h1 u hu).mono k,.inl ho⟩
  ·exact (h2 b m).mono k
 | .tuple ds,_,x,p,z=>by
  obtain ⟨a,vs,rfl,ho,hall⟩:=well_tuple x
  have z2:WData.weightAll ds≤1048576:=z
  obtain ⟨A,h1,h2⟩:=area_all ds _ hall p fun d hd=>Nat.le_trans (weight_mem hd) z2
  have k:∀ b∈A,b∈a::A:=fun b hb=>List.mem_cons_of_mem _ hb
  refine ⟨a::A,List.mem_cons_self ..,fun b hb=>?_⟩
  rcases List.mem_cons.mp hb with e | m
  ·rw [e]
   exact ⟨vs,line_of (by rw [wellAll_len hall];exact Nat.le_trans (PySem.W.length_le_weightAllW ds) z2),fun u hu=>(h1 u hu).mono k,.inr ho⟩
  ·exact (h2 b m).mono k
 | .float _,_,_,p,_=>Bool.noConfusion (show false=true from p)
 | .dict _,_,_,p,_=>Bool.noConfusion (show false=true from p)
 | .bytearray _,_,_,p,_=>Bool.noConfusion (show false=true from p)
 | .set _,_,_,p,_=>Bool.noConfusion (show false=true from p)
 | .frozenset _,_,_,p,_=>Bool.noConfusion (show false=true from p)
 | .obj _ _,_,_,p,_=>Bool.noConfusion (show false=true from p)
theorem area_all:∀ (ds:List WData) (vs:List Value),WellAll P h vs ds→plWs ds=true→(∀ d∈ds,d.weight≤1048576)→∃ A:List Addr,(∀ u∈vs,OkU A u)∧∀ a∈A,ArgOb h A a
 | [],_,x,_,_=>by
  cases x
  exact ⟨[],fun u m=>absurd m (by simp),fun a m=>absurd m (by simp)⟩
 | d::ds,_,x,p,z=>by
  obtain ⟨v,vs,rfl,x1,x2⟩:=well_cons x
  have q:plW d=true∧plWs ds=true:=Bool.and_eq_true_iff.mp p
  obtain ⟨A,a1,a2⟩:=area_one d v x1 q.1 (z d (List.mem_cons_self ..))
  obtain ⟨B,b1,b2⟩:=area_all ds vs x2 q.2 fun e he=>z e (List.mem_cons_of_mem _ he)
  have kA:∀ b∈A,b∈A ++ B:=fun b hb=>List.mem_append.mpr (.inl hb)
  have kB:∀ b∈B,b∈A ++ B:=fun b hb=>List.mem_append.mpr (.inr hb)
  refine ⟨A ++ B,fun u hu=>?_,fun b hb=>?_⟩
  ·rcases List.mem_cons.mp hu with e | m
   ·rw [e]
    exact a1.mono kA
   ·exact (b1 u m).mono kB
  ·rcases List.mem_append.mp hb with m | m
   ·exact (a2 b m).mono kA
   ·exact (b2 b m).mono kB
end
end
def hoOf(o:Obj):Option HO:=match o.data with
 | .seq vs _=>if (o.cls == Value.type "list")=true then some (.frz o (.lst (vs.toList.map toV))) else some (.frz o (.tup (vs.toList.map toV)))
 | _=>none
def argH(K:PySem.W.Frag)(h:Heap)(A:List Addr):Hp:=fun b=>if b∈A then (if (K.lookup b).isNone=true then (h.get? b).bind hoOf else none) else none
def OnlyF(H:Hp):Prop:=∀ b,H b=none∨∃ o u,H b=some (.frz o u)
theorem hoOf_lst(vs:List Value):hoOf { cls:=.type "list",data:=.seq vs.toArray }=some (.frz { cls:=.type "list",data:=.seq vs.toArray } (.lst (vs.map toV))):=by
 show (if (Value.type "list" == Value.type "list")=true then some (HO.frz { cls:=.type "list",data:=.seq vs.toArray } (.lst (vs.toArray.toList.map toV))) else some (HO.frz { cls:=.type "list",data:=.seq vs.toArray } (.tup (vs.toArray.toList.map toV))))=_
 rw [if_pos (beq_self_eq_true _)]
theorem hoOf_tup(vs:List Value):hoOf { cls:=.type "tuple",data:=.seq vs.toArray }=some (.frz { cls:=.type "tuple",data:=.seq vs.toArray } (.tup (vs.map toV))):=by
 show (if (Value.type "tuple" == Value.type "list")=true then some (HO.frz { cls:=.type "tuple",data:=.seq vs.toArray } (.lst (vs.toArray.toList.map toV))) else some (HO.frz { cls:=.type "tuple",data:=.seq vs.toArray } (.tup (vs.toArray.toList.map toV))))=_
 rw [if_neg (by decide)]
section
variable{P:Program}{w:World}{K:PySem.W.Frag}{h:Heap}{A:List Addr}
theorem argH_at{b:Addr}{o:Obj}(hb:b∈A)(hk:K.lookup b=none)(e:h.get? b=some o):argH K h A b=hoOf o:=by
 unfold argH
 rw [if_pos hb,hk,if_pos (show (none:Option Obj).isNone=true from rfl),e] <;> rfl
theorem of_argH{b:Addr}{u:HO}(q:argH K h A b=some u):b∈A∧K.lookup b=none:=by
 unfold argH at q
 by_cases hb:b∈A
 ·rw [if_pos hb] at q
  cases hk:K.lookup b with
  | none=>exact ⟨hb,rfl⟩
  | some o =>
   rw [hk,if_neg (by simp)] at q
   cases q
 ·rw [if_neg hb] at q
  cases q
theorem argH_is(ar:∀ a∈A,ArgOb h A a){b:Addr}{u:HO}(q:argH K h A b=some u):K.lookup b=none∧∃ vs:List Value,vs.length≤sizeLine∧(∀ u∈vs,OkU A u)∧
  ((h.get? b=some { cls:=.type "list",data:=.seq vs.toArray }∧u = .frz { cls:=.type "list",data:=.seq vs.toArray } (.lst (vs.map toV)))∨
  (h.get? b=some { cls:=.type "tuple",data:=.seq vs.toArray }∧u = .frz { cls:=.type "tuple",data:=.seq vs.toArray } (.tup (vs.map toV)))):=by
 obtain ⟨hb,hk⟩:=of_argH q
 obtain ⟨vs,h1,h2,h3⟩:=ar b hb
 refine ⟨hk,vs,h1,h2,?_⟩
 rcases h3 with e | e
 ·rw [argH_at hb hk e,hoOf_lst] at q
  exact .inl ⟨e,(Option.some.inj q).symm⟩
 ·rw [argH_at hb hk e,hoOf_tup] at q
  exact .inr ⟨e,(Option.some.inj q).symm⟩
theorem argH_only(ar:∀ a∈A,ArgOb h A a):OnlyF (argH K h A):=fun b=>by
 cases q:argH K h A b with
 | none=>exact .inl rfl
 | some u =>
  obtain ⟨_,vs,_,_,⟨_,e⟩ | ⟨_,e⟩⟩:=argH_is ar q
  ·exact .inr ⟨_,_,by rw [e]⟩
  ·exact .inr ⟨_,_,by rw [e]⟩
theorem argH_ok(ar:∀ a∈A,ArgOb h A a):HOk P w (argH K h A) h:=fun b u q=>by
 obtain ⟨_,vs,h1,h2,⟨e,rfl⟩ | ⟨e,rfl⟩⟩:=argH_is ar q
 ·exact ⟨e,by rw [List.length_map];exact h1,vs,_,vals_toV h2,e⟩
 ·exact ⟨e,by rw [List.length_map];exact h1,vs,vals_toV h2,_,e,rfl,_,rfl⟩
theorem seq_inj{c c':Value}{vs us:List Value}(e:(some { cls:=c,data:=.seq vs.toArray }:Option Obj)=some { cls:=c',data:=.seq us.toArray }):c=c'∧vs=us:=by
 have e1:=Option.some.inj e
 have e2:c=c':=congrArg Obj.cls e1
 have e3:Data.seq vs.toArray=Data.seq us.toArray:=congrArg Obj.data e1
 injection e3 with e4
 refine ⟨e2,?_⟩
 have e5:=congrArg Array.toList e4
 simpa using e5
theorem argL(KX:K.In h)(ar:∀ a∈A,ArgOb h A a){a:Addr}{vs:List Value}(ha:a∈A)(e:h.get? a=some { cls:=.type "list",data:=.seq vs.toArray }):(∀ u∈vs,OkU A u)∧SqL K (argH K h A) a (vs.map toV):=by
 obtain ⟨us,h1,h2,h3⟩:=ar a ha
 have hu:us=vs:=by
  rcases h3 with q | q
  ·rw [e] at q
   exact (seq_inj q).2.symm
  ·rw [e] at q
   exact absurd (Value.type.inj (seq_inj q).1) (by decide)
 subst hu
 refine ⟨h2,?_⟩
 cases hk:K.lookup a with
 | none=>exact .inl (.inr ⟨_,by rw [argH_at ha hk e,hoOf_lst]⟩)
 | some o =>
  have e2:=KX a o hk
  rw [e] at e2
  obtain rfl:=Option.some.inj e2
  exact .inr ⟨_,us.toArray,_,hk,rfl,rfl,rfl,by rw [List.size_toArray];exact h1,by simpa using vals_toV h2⟩
theorem argT(KX:K.In h)(ar:∀ a∈A,ArgOb h A a){a:Addr}{vs:List Value}(ha:a∈A)(e:h.get? a=some { cls:=.type "tuple",data:=.seq vs.toArray }):(∀ u∈vs,OkU A u)∧SqT K (argH K h A) a (vs.map toV):=by
 obtain ⟨us,h1,h2,h3⟩:=ar a ha
 have hu:us=vs:=by
  rcases h3 with q | q
  ·rw [e] at q
   exact absurd (Value.type.inj (seq_inj q).1) (by decide)
  ·rw [e] at q
   exact (seq_inj q).2.symm
 subst hu
 refine ⟨h2,?_⟩
 cases hk:K.lookup a with
 | none=>exact .inl (.inr ⟨_,by rw [argH_at ha hk e,hoOf_tup]⟩)
 | some o =>
  have e2:=KX a o hk
  rw [e] at e2
  obtain rfl:=Option.some.inj e2
  exact .inr ⟨_,us.toArray,_,hk,rfl,rfl,by rw [List.size_toArray];exact h1,by simpa using vals_toV h2⟩
mutual
theorem dw_one{Pm:Params}(KX:K.In h)(ar:∀ a∈A,ArgOb h A a):∀ (d:WData) (v:Value),Well Pm h v d→plW d=true→OkU A v→Dw K (argH K h A) (toV v) d
 | .none,_,x,_,_=>by
  cases x
  exact .non
 | .bool b,_,x,_,_=>by
  cases x
  exact .bl b
 | .int i,_,x,_,_=>by
  cases x
  exact .int i
 | .str s,_,x,_,_=>by
  cases x
  exact .str s
 | .bytes b,_,x,_,_=>by
  cases x
  have z:=Dw.byt (K:=K) (H:=argH K h A) b.toArray
  exact z
 | .list ds,_,x,p,hu=>by
  obtain ⟨a,vs,rfl,ho,hall⟩:=well_list x
  obtain ⟨h2,hs⟩:=argL KX ar hu ho
  exact .lst hs (dw_all KX ar ds _ hall p h2)
 | .tuple ds,_,x,p,hu=>by
  obtain ⟨a,vs,rfl,ho,hall⟩:=well_tuple x
  obtain ⟨h2,hs⟩:=argT KX ar hu ho
  exact .tup hs (dw_all KX ar ds _ hall p h2)
 | .float _,_,_,p,_=>Bool.noConfusion (show false=true from p)
 | .dict _,_,_,p,_=>Bool.noConfusion (show false=true from p)
 | .bytearray _,_,_,p,_=>Bool.noConfusion (show false=true from p)
 | .set _,_,_,p,_=>Bool.noConfusion (show false=true from p)
 | .frozenset _,_,_,p,_=>Bool.noConfusion (show false=true from p)
 | .obj _ _,_,_,p,_=>Bool.noConfusion (show false=true from p)
theorem dw_all{Pm:Params}(KX:K.In h)(ar:∀ a∈A,ArgOb h A a):∀ (ds:List WData) (vs:List Value),WellAll Pm h vs ds→plWs ds=true→(∀ u∈vs,OkU A u)→DwAll K (argH K h A) (vs.map toV) ds
 | [],_,x,_,_=>by
  cases x
  exact .nil
 | d::ds,_,x,p,hu=>by
  obtain ⟨v,vs,rfl,x1,x2⟩:=well_cons x
  have q:plW d=true∧plWs ds=true:=Bool.and_eq_true_iff.mp p
  exact .cons (dw_one KX ar d v x1 q.1 (hu _ (List.mem_cons_self ..))) (dw_all KX ar ds vs x2 q.2 fun u m=>hu u (List.mem_cons_of_mem _ m))
end
end
theorem spec_call{P:Program}{w:World}{K:PySem.W.Frag}{mg mb:Str→Option Value}{CX:CXT}{k:Nat}{fa:Addr}{fd:FuncData}{ps:List Str}{sp:Sp}{s₁:Shared}{vals:List Value}{ds:List WData}{R:PySem.W.WRecords}{cl:Str→Option Addr}{d0:WData}
  (KX:K.In s₁.heap) (hns:s₁.heap.Ns mainGlobals mg) (hb:s₁.heap.Ns builtinsNs mb) (hbb:∀ x:Str,x≠"__name__"→mb x=bootBuiltins x) (hlim:s₁.heap.NoLimit) (hg:s₁.gens = #[])
  (hwl:WellAll w.params s₁.heap vals ds) (hpl:plWs ds=true) (hwt:∀ d∈ds,d.weight≤1048576) (hr:Room k callerA)
  (F:∀ base:Heap,K.In base→base.Ns mainGlobals mg→FnOk P w K mg base CX k fa fd ps sp) (hbind:∀ (s:Shared) (us:List Value),us.length=ps.length→BindsTo s fd ⟨us,[]⟩ (ps.zip us)) (hlen:ds.length=ps.length)
  (hsp:∀ (H:Hp) (xs:List V),OnlyF H→DwAll K H xs ds→sp xs H (fun v H'=>Dw K H' v d0) fun _ _ _=>False)
  (hCX:∀ H e s',CX [] H s₁ (fun _ _ _=>False) e s'→False) :
  codeAny (model P w) callerA (.call (.ref fa) ⟨vals,[]⟩) (fun r s'=>∃ u as,r = .ok (.ret u)∧ReadsW R cl s'.heap u d0 as∧OldK s₁.heap s'.heap∧s'.os=s₁.os∧AllBare s'.gens) s₁:=by
 obtain ⟨A,ho,ar⟩:=area_all ds vals hwl hpl hwt
 have hO:OnlyF (argH K s₁.heap A):=argH_only ar
 have hok:HOk P w (argH K s₁.heap A) s₁.heap:=argH_ok ar
 have hS:=dw_all KX ar ds vals hwl hpl ho
 have hV:=vals_toV ho
 have hK:∀ b u,argH K s₁.heap A b=some u→K.lookup b=none:=fun b u q=>(argH_is ar q).1
 have noA:∀ {b:Addr} {o:Obj} {es:Array DictEntry} {ep:Nat},s₁.heap.get? b=some o→o.data = .dict es ep→argH K s₁.heap A b=none:=fun {b o es ep} e d=>by
  cases q:argH K s₁.heap A b with
  | none=>rfl
  | some u =>
   obtain ⟨_,vs,_,_,⟨e2,_⟩ | ⟨e2,_⟩⟩:=argH_is ar q
   ·rw [e2] at e
    cases e
    have d':Data.seq vs.toArray _=Data.dict es ep:=d
    cases d'
   ·rw [e2] at e
    cases e
    have d':Data.seq vs.toArray _=Data.dict es ep:=d
    cases d'
 generalize argH K s₁.heap A=H at hO hok hS hK noA
 have base_of:∀ {b:Addr} {o:Obj},s₁.heap.get? b=some o→H b=none→(hidT s₁.heap H).get? b=some o:=fun e n=>hidT_get e n
 have nsK:∀ {b:Addr} {m:Str→Option Value},s₁.heap.Ns b m→(hidT s₁.heap H).Ns b m:=fun {b m} ⟨o,es,ep,e,d,r⟩=>⟨o,es,ep,base_of e (noA e d),d,r⟩
 have nK:∀ b o,K.lookup b=some o→H b=none:=fun b o e=>by
  cases q:H b with
  | none=>rfl
  | some u =>
   rw [hK b u q] at e
   cases e
 have hKb:K.In (hidT s₁.heap H):=fun b o e=>base_of (KX b o e) (nK b o e)
 have hM:Mod K mg (hidT s₁.heap H):=⟨hKb,nsK hns,⟨mb,nsK hb,hbb⟩,let ⟨mc,h1,h2⟩:=hlim;⟨mc,nsK h1,h2⟩⟩
 have e0:Env0 P w K mg (hidT s₁.heap H) callerA [] s₁ H:=⟨rfl,hM,fun b o e=>of_hidT e,Nat.le_of_eq (hidT_size _ _),trivial,fun b hb=>absurd (show b∈([]:List Addr) from hb) (by simp),hok,.of_eq hg⟩
 have hl:vals.length=ps.length:=by rw [wellAll_len hwl];exact hlen
 refine codeAny_mono ((F _ hKb (nsK hns)).run callerA [] s₁ H ⟨vals,[]⟩ vals (vals.map toV) _ _ hr e0 (hbind s₁ vals hl) hV (hsp H _ hO hS)) fun r s' x=>?_
 cases r with
 | error e=>exact (hCX H e s' x).elim
 | ok fl =>
  cases fl with
  | next=>exact False.elim x
  | brk=>exact False.elim x
  | cont=>exact False.elim x
  | ret u =>
   obtain ⟨v,H',os,bare,un,hok',r',q⟩:=x
   have kept:∀ b o,s₁.heap.get? b=some o→s'.heap.get? b=some o:=fun b o e=>by
    cases q2:H b with
    | none=>exact un.keep b o e q2 (by intro z;exact absurd (show b∈([]:List Addr) from z) (by simp)) (by simp)
    | some u2 =>
     rcases hO b with z | ⟨ob,u3,z⟩
     ·rw [q2] at z
      cases z
     ·have z2:=un.frzs b ob _ z
      obtain ⟨e1,_⟩:=hok b _ z
      obtain ⟨e2,_⟩:=hok' b _ z2
      rw [e] at e1
      cases e1
      exact e2
   have KX':K.In s'.heap:=fun b o e=>kept b o (KX b o e)
   obtain ⟨as,hrd⟩:=Dw.reads (R:=R) (cl:=cl) hok' KX' d0 v u q r'
   exact ⟨u,as,rfl,hrd,OldK.of_keep kept,os,bare⟩
theorem layable_weight{ds:List WData}(h:WData.layableAll ds=true):∀ d∈ds,d.weight≤1048576:=fun d hd =>
 (PySem.W.layableW_iff.mp (List.all_eq_true.mp h d hd)).2.2
theorem encAll_len:∀ (cs:List Codec) (a:Codec.denoteAll cs),(Codec.encAll cs a).length=cs.length
 | [],_=>rfl
 | c::cs,a=>by
  show (Codec.encAll cs a.2).length + 1=cs.length + 1
  rw [encAll_len cs a.2]
theorem walk_spec{r:OpenSpec}{k:Nat}{q:Program}{loose:List Str}{XP:(Str→Option Value)→Heap→Prop}{YP:World→Heap→Prop}{d:DefRec}{K:Params→PySem.W.Frag}{CX:World→CXT}{ps:List Str}{sp:World→Sp}
  (hwell:r.wellSaid=true) (hdf:d.params.defaults=[]) (hlen:r.args.length=ps.length) (hr:Room k callerA)
  (hY:∀ (w:World) (h:Heap),YP w h→(K w.params).In h)
  (F:∀ (w:World) (mg:Str→Option Value) (fa:Addr) (h:Heap),YP w h→(K w.params).In h→h.Ns mainGlobals mg→mg d.name=some (.ref fa)→
   ∃ fd:FuncData,(∀ (s:Shared) (us:List Value),us.length=ps.length→BindsTo s fd ⟨us,[]⟩ (ps.zip us))∧
    ∀ base:Heap,(K w.params).In base→base.Ns mainGlobals mg→FnOk r.prog w (K w.params) mg base (CX w) k fa fd ps (sp w))
  (hsp:∀ (w:World) (H:Hp) (xs:List V) (a:Codec.denoteAll r.args),OnlyF H→Codec.withinAll r.args a=true→Codec.app r.args r.asked a=true→DwAll (K w.params) H xs (Codec.encAll r.args a)→
   sp w xs H (fun v H'=>Dw (K w.params) H' v (r.ret.enc (Codec.app r.args r.f a))) fun _ _ _=>False)
  (hCX:∀ (w:World) (H:Hp) (s:Shared) (e:Value) (s':Shared),CX w [] H s (fun _ _ _=>False) e s'→False) :
  PySem.W.WalkOS q loose XP YP r d [] (fun f vs=>PySem.call f vs):=by
 intro w s_0 s₁ mg mb G Y fa o pm cd doc dV kV ho hd hcd hD hmg hg args vals as hpre hlay hrd hwl hlo
 obtain ⟨a,e1,e2⟩:=PySem.W.os_pre_some hpre
 obtain ⟨e3,hwi⟩:=Codec.encAll_of_decAll r.args args a e1
 subst e3
 have KX:=hY w _ Y
 obtain ⟨fd,hb,hF⟩:=F w mg fa _ Y KX G.T.g hmg
 refine PySem.W.enter_call (codeAny_mono (spec_call (R:=[]) (cl:=classAt s_0.heap) (d0:=r.ret.enc (Codec.app r.args r.f a)) KX G.T.g G.T.b G.T.builtins G.T.nolimit hg hwl (pl_encAll _ _) (layable_weight hlay) hr hF hb (by rw [encAll_len];exact hlen)
  (fun H xs hO hS=>hsp w H xs a hO hwi e2 hS) fun H e s'=>hCX w H s₁ e s') fun r' s' hq=>?_)
 obtain ⟨u,as',rfl,h1,h2,h3,h4⟩:=hq
 exact ⟨.inl ⟨u,_,as',rfl,fun _=>rfl,h1,(OpenSpec.post_iff hwell hwi _ _).mpr rfl,fun z=>Bool.noConfusion (show false=true from z)⟩,h2,h3,h4⟩
end L2
end
section
set_option maxRecDepth 100000
set_option maxHeartbeats 4000000
namespace Prg
open PySem L2
open Vanbka (Bytes)
theorem vb_text{l:List Int}(h:∀ z∈l,0≤z∧z≤255):vb (VanbkaNeutral.text l)=l.map V.int:=by
 unfold vb VanbkaNeutral.text
 rw [List.map_map]
 refine List.map_congr_left fun z hz=>?_
 have:=h z hz
 show V.int (((UInt8.ofNat z.toNat).toNat:Nat):Int)=V.int z
 have e:(UInt8.ofNat z.toNat).toNat=z.toNat:=by
  rw [UInt8.toNat_ofNat']
  exact Nat.mod_eq_of_lt (by omega)
 rw [e]
 congr 1
 omega
theorem bytes_ok{l:List Int}(h:∀ z∈l,0≤z∧z≤255):NeutralIO.bytes l=true:=by
 unfold NeutralIO.bytes
 rw [List.all_eq_true]
 intro z hz
 have:=h z hz
 simp only [Bool.and_eq_true,decide_eq_true_eq]
 omega
theorem has_k{P:Program}{w:World}{K:PySem.W.Frag}{mg:Str→Option Value}{base:Heap}{k:Nat}{x:Str}{ps:List Str}{st:PySem.Stmt}{sp:Sp}(Kn:Known K mg x ps st)(ok:∀ f fd,Fun K x x st f fd→FnOk P w K mg base (CXF P w) k f fd ps sp):Has P w K mg base k x ps sp:=by
 obtain ⟨f,fd,F,b,kp,m⟩:=Kn
 exact ⟨f,fd,ok f fd F,b,kp,m⟩
section
variable{P:Program}{w:World}{K:PySem.W.Frag}{mg:Str→Option Value}{h:Heap}{f:Addr}{od an:Option Addr}{sl:Array (Option Value)}{oc kV dc pm cd ct:Value}
theorem known_mk{x:Str}{ps:List Str}{st:PySem.Stmt}(X:K.In h)(G:h.Ns mainGlobals mg)
  (hb:∀ (kV doc pm:Value) (an:Option Addr) (cdv ct:Value) (us:List Value),us.length=ps.length→bindArgs (PySem.W.fnOf x x (defArgs st) (defBody st) (defScope st) .none kV doc pm an cdv ct) ⟨us,[]⟩=pure (ps.zip us))
  (a:PySem.W.nsIn K mainGlobals x=some (some (.ref f))) (l:K.lookup f=some ⟨oc,od,.func (PySem.W.fnOf x x (defArgs st) (defBody st) (defScope st) .none kV dc pm an cd ct),sl⟩) (c:PySem.W.codeIn K cd x=true) (k:PySem.W.keepIn K (.ref f)=true):Known K mg x ps st:=by
 have F:=fun_mk (st:=st) l c k
 exact ⟨f,_,F,F.binds hb,k,PySem.W.mg_of X G a⟩
theorem ci_mk{x:Str}{i:Int}{t:PySem.Tok}(X:K.In h)(G:h.Ns mainGlobals mg)(a:PySem.W.nsIn K mainGlobals x=some (some (.int i t))):CI mg x i:=⟨t,PySem.W.mg_of X G a⟩
theorem cs_mk{x z:Str}{t:PySem.Tok}(X:K.In h)(G:h.Ns mainGlobals mg)(a:PySem.W.nsIn K mainGlobals x=some (some (.str z t))):CS mg x z:=⟨t,PySem.W.mg_of X G a⟩
theorem cls_mk{C:Addr}(pg:PySem.W.plainGet K C Str.empty=true)(hd:PySem.W.hasDictIn K C=true)(po:PySem.W.plainOver K C=true)(sa:PySem.W.findIn K (.ref C) "__setattr__"=some (some (.builtin "object.__setattr__"))):Cls K C:=⟨pg,hd,po,sa⟩
def relB:V→Value→Bool
 | .int i,.int j _=>i == j
 | .str x,.str y _=>x == y
 | .ref a,.ref b=>a == b
 | _,_=>false
theorem relB_ok{x:V}{u:Value}(h:relB x u=true):RelV x u:=by
 cases x <;> cases u <;> simp only [relB,Bool.false_eq_true,beq_iff_eq] at h
 ·subst h;exact ⟨_,rfl⟩
 ·subst h;exact ⟨_,rfl⟩
 ·subst h;rfl
def valsB:List V→List Value→Bool
 | [],[]=>true
 | x::xs,u::us=>relB x u && valsB xs us
 | _,_=>false
theorem valsB_ok:∀ {xs:List V} {us:List Value},valsB xs us=true→Vals xs us
 | [],[],_=>.nil
 | x::xs,u::us,h=>by
  have h:(relB x u && valsB xs us)=true:=h
  rw [Bool.and_eq_true] at h
  exact .cons (relB_ok h.1) (valsB_ok h.2)
theorem ktup_mk{x:Str}{a:Addr}{its:Array Value}{n:Nat}{vs:List V}(X:K.In h)(G:h.Ns mainGlobals mg)(e:PySem.W.nsIn K mainGlobals x=some (some (.ref a)))(l:K.lookup a=some ⟨.type "tuple",od,.seq its n,sl⟩)(hv:valsB vs its.toList=true)(hs:its.size≤1000):KTup K mg x vs :=
 ⟨a,PySem.W.mg_of X G e,fun H=>.inr ⟨_,its,n,l,rfl,rfl,Nat.le_trans hs (by decide),valsB_ok hv⟩⟩
theorem sqt_mk{a:Addr}{its:Array Value}{n:Nat}{vs:List V}(l:K.lookup a=some ⟨.type "tuple",od,.seq its n,sl⟩)(hv:valsB vs its.toList=true)(hs:its.size≤1000):∀ H,SqT K H a vs :=
 fun H=>.inr ⟨_,its,n,l,rfl,rfl,Nat.le_trans hs (by decide),valsB_ok hv⟩
def dicB(w:World):List DictEntry→List (Key×V)→Prop
 | [],[]=>True
 | e::es,kv::kvs=>(keyIs kv.1 e.key=true∧e.hash=keyH w kv.1∧relB kv.2 e.val=true)∧dicB w es kvs
 | _,_=>False
theorem dicB_ok{w:World}:∀ {es:List DictEntry} {kvs:List (Key×V)},dicB w es kvs→Paired (fun (e:DictEntry) (kv:Key×V)=>keyIs kv.1 e.key=true∧e.hash=keyH w kv.1∧RelV kv.2 e.val) es kvs
 | [],[],_=>.nil
 | e::es,kv::kvs,h=>.cons ⟨h.1.1,h.1.2.1,relB_ok h.1.2.2⟩ (dicB_ok h.2)
theorem kdic_mk{a:Addr}{es:Array DictEntry}{ep:Nat}{kvs:List (Key×V)}(l:K.lookup a=some ⟨.type "dict",none,.dict es ep,#[]⟩)(ha:(a == sysModules)=false)(hv:dicB w es.toList kvs):KDic w K a kvs :=
 ⟨ha,_,es,ep,l,⟨rfl,rfl,rfl⟩,rfl,dicB_ok hv⟩
theorem two_mk{a a1 a2 a3 a4 a5:Addr}{ep:Nat}{n1 n2 n3 n4 n5:Nat}{o1 o2 o3 o4 o5:Option Addr}{s1 s2 s3 s4 s5:Array (Option Value)}{u1 u2 u3 u4 u5 x1 x2 x3 x4 x5 y1 y2 y3 y4 y5:PySem.Tok}(X:K.In h)(G:h.Ns mainGlobals mg)(e:PySem.W.nsIn K mainGlobals "TWO_BYTE_SIGNS"=some (some (.ref a)))(ha:(a == sysModules)=false)
  (l:K.lookup a=some ⟨.type "dict",none,.dict #[⟨-3471720369269462519,.ref a1,.str "==" u1⟩,⟨1934246103329546215,.ref a2,.str "!=" u2⟩,⟨5124875052475701045,.ref a3,.str "<=" u3⟩,⟨-5908778216009708212,.ref a4,.str ">=" u4⟩,⟨3070702662433416457,.ref a5,.str "++" u5⟩] ep,#[]⟩)
  (l1:K.lookup a1=some ⟨.type "tuple",o1,.seq #[.int 61 x1,.int 61 y1] n1,s1⟩) (l2:K.lookup a2=some ⟨.type "tuple",o2,.seq #[.int 33 x2,.int 61 y2] n2,s2⟩) (l3:K.lookup a3=some ⟨.type "tuple",o3,.seq #[.int 60 x3,.int 61 y3] n3,s3⟩) (l4:K.lookup a4=some ⟨.type "tuple",o4,.seq #[.int 62 x4,.int 61 y4] n4,s4⟩) (l5:K.lookup a5=some ⟨.type "tuple",o5,.seq #[.int 43 x5,.int 43 y5] n5,s5⟩):KDT P w K mg "TWO_BYTE_SIGNS" twoV:=by
 refine ⟨a,PySem.W.mg_of X G e,ha,_,_,ep,[([.inl 61,.inl 61],a1,.str "==" u1),([.inl 33,.inl 61],a2,.str "!=" u2),([.inl 60,.inl 61],a3,.str "<=" u3),([.inl 62,.inl 61],a4,.str ">=" u4),([.inl 43,.inl 43],a5,.str "++" u5)],l,⟨rfl,rfl,rfl⟩,rfl,?_,(by show ([[.inl 61,.inl 61],[.inl 33,.inl 61],[.inl 60,.inl 61],[.inl 62,.inl 61],[.inl 43,.inl 43]]:List (List Key)).Nodup;decide),?_⟩
 ·have hh:∀ i j:Int,tupleKeyHash (mixKind P w) [Sum.inl i,Sum.inl j]=reduceHash (Builtin.Tuple.tupleHashOf [hashInt i,hashInt j]):=fun _ _=>rfl
  have e1:reduceHash (Builtin.Tuple.tupleHashOf [hashInt 61,hashInt 61]) = -3471720369269462519:=by decide +kernel
  have e2:reduceHash (Builtin.Tuple.tupleHashOf [hashInt 33,hashInt 61])=1934246103329546215:=by decide +kernel
  have e3:reduceHash (Builtin.Tuple.tupleHashOf [hashInt 60,hashInt 61])=5124875052475701045:=by decide +kernel
  have e4:reduceHash (Builtin.Tuple.tupleHashOf [hashInt 62,hashInt 61]) = -5908778216009708212:=by decide +kernel
  have e5:reduceHash (Builtin.Tuple.tupleHashOf [hashInt 43,hashInt 43])=3070702662433416457:=by decide +kernel
  show _=[⟨tupleKeyHash (mixKind P w) [Sum.inl 61,Sum.inl 61],.ref a1,.str "==" u1⟩,⟨tupleKeyHash (mixKind P w) [Sum.inl 33,Sum.inl 61],.ref a2,.str "!=" u2⟩,⟨tupleKeyHash (mixKind P w) [Sum.inl 60,Sum.inl 61],.ref a3,.str "<=" u3⟩,⟨tupleKeyHash (mixKind P w) [Sum.inl 62,Sum.inl 61],.ref a4,.str ">=" u4⟩,(⟨tupleKeyHash (mixKind P w) [Sum.inl 43,Sum.inl 43],.ref a5,.str "++" u5⟩:DictEntry)]
  rw [hh,hh,hh,hh,hh,e1,e2,e3,e4,e5]
 ·have it:∀ {i j:Int} {x y:PySem.Tok},ItemsAre (mixKind P w) [Sum.inl i,Sum.inl j] [.int i x,.int j y]:=fun {i j x y}=>.cons (keyIs_int i x) (.cons (keyIs_int j y) .nil)
  exact .cons ⟨rfl,⟨_,rfl⟩,_,_,_,l1,rfl,rfl,it⟩ (.cons ⟨rfl,⟨_,rfl⟩,_,_,_,l2,rfl,rfl,it⟩ (.cons ⟨rfl,⟨_,rfl⟩,_,_,_,l3,rfl,rfl,it⟩ (.cons ⟨rfl,⟨_,rfl⟩,_,_,_,l4,rfl,rfl,it⟩ (.cons ⟨rfl,⟨_,rfl⟩,_,_,_,l5,rfl,rfl,it⟩ .nil))))
theorem kd_mk{x:Str}{a:Addr}{es:Array DictEntry}{ep:Nat}{kvs:List (Key×V)}(X:K.In h)(G:h.Ns mainGlobals mg)(e:PySem.W.nsIn K mainGlobals x=some (some (.ref a)))(l:K.lookup a=some ⟨.type "dict",none,.dict es ep,#[]⟩)(ha:(a == sysModules)=false)(hv:dicB w es.toList kvs):KD w K mg x kvs:=⟨a,PySem.W.mg_of X G e,kdic_mk l ha hv⟩
theorem xcls_mk{C fI:Addr}{dd od2:Option Addr}{cdt:ClassData}{sl sl2:Array (Option Value)}{oc2:Value}{es:Array DictEntry}{ep:Nat}{fs:List Str}(l:K.lookup C=some ⟨.type "type",dd,.cls cdt,sl⟩)(l2:K.lookup cdt.ns=some ⟨oc2,od2,.dict es ep,sl2⟩)
  (q:(match sl.toList with
   | [_,_,_,_,some (.builtin nw),_]=>cdt.mro == .ref C::excBM && cdt.hasDict && !cdt.hasDel && nw == "Exception.__new__" && (es.toList.all keyStr && nsFind es "__init__" == some (.ref fI) && (nsFind es "__setattr__" == none && (nsFind es "__getattribute__" == none && (nsFind es "__getattr__" == none && fs.all fun f=>nsFind es f == none))))
   | _=>false)=true) (ty:PySem.W.typeIn K (.ref fI)=some (.type "function")):xcls K C fI fs=true:=by
 unfold xcls
 rw [l]
 show (match sl.toList with
  | [_,_,_,_,some (.builtin nw),_]=>cdt.mro == .ref C::excBM && cdt.hasDict && !cdt.hasDel && nw == "Exception.__new__" && (match K.lookup cdt.ns with
   | some ⟨_,_,.dict es _,_⟩=>es.toList.all keyStr && nsFind es "__init__" == some (.ref fI) && (nsFind es "__setattr__" == none && (nsFind es "__getattribute__" == none && (nsFind es "__getattr__" == none && fs.all fun f=>nsFind es f == none)))
   | _=>false) && PySem.W.typeIn K (.ref fI) == some (.type "function")
  | _=>false)=true
 rw [l2,ty]
 split at q
 ·rename_i c0 c1 c2 c3 nw c5 hs
  show (_ && (some (Value.type "function") == some (Value.type "function")))=true
  have:(some (Value.type "function") == some (Value.type "function"))=true:=by decide
  rw [this,Bool.and_true]
  exact q
 ·cases q
end
section
variable{P:Program}{w:World}{K:PySem.W.Frag}{mg:Str→Option Value}{h:Heap}{C f:Addr}{od an:Option Addr}{sl:Array (Option Value)}{oc kV dc pm cd ct:Value}
theorem token_mk(X:K.In h)(G:h.Ns mainGlobals mg)(a:PySem.W.nsIn K mainGlobals "Token"=some (some (.ref C)))(cl:Cls K C)(n1:PySem.W.findIn K (.ref C) "kind"=some none)(n2:PySem.W.findIn K (.ref C) "place"=some none)(n3:PySem.W.findIn K (.ref C) "end"=some none)(n4:PySem.W.findIn K (.ref C) "value"=some none)
  (mk:PySem.W.makesIn K C=true) (i:PySem.W.findIn K (.ref C) "__init__"=some (some (.ref f))) (fn:PySem.W.isFn K (.ref f)=true) (kc:PySem.W.keepIn K (.ref C)=true)
  (l:K.lookup f=some ⟨oc,od,.func (PySem.W.fnOf "__init__" "Token.__init__" (defArgs sTokenInit) (defBody sTokenInit) (defScope sTokenInit) .none kV dc pm an cd ct),sl⟩) (c:PySem.W.codeIn K cd "Token.__init__"=true) (k:PySem.W.keepIn K (.ref f)=true):∃ tI tdI,TokenAt K mg C tI tdI:=by
 have F:=fun_mk (st:=sTokenInit) l c k
 refine ⟨f,_,⟨cl,fun x hx=>?_,PySem.W.mg_of X G a⟩,⟨mk,i,fn,kc⟩,F,F.binds (ps:=["self", "kind", "place", "end", "value"]) fun _ _ _ _ _ _ us hl=>match us,hl with | [_,_,_,_,_],_=>rfl⟩
 simp only [List.mem_cons,List.not_mem_nil,or_false] at hx
 rcases hx with rfl | rfl | rfl | rfl
 ·exact n1
 ·exact n2
 ·exact n3
 ·exact n4
theorem fault_mk(X:K.In h)(G:h.Ns mainGlobals mg)(a:PySem.W.nsIn K mainGlobals "Fault"=some (some (.ref C)))(kc:PySem.W.keepIn K (.ref C)=true)(x:xcls K C f ["number", "told"]=true)
  (l:K.lookup f=some ⟨oc,od,.func (PySem.W.fnOf "__init__" "Fault.__init__" (defArgs sFaultInit) (defBody sFaultInit) (defScope sFaultInit) .none kV dc pm an cd ct),sl⟩) (c:PySem.W.codeIn K cd "Fault.__init__"=true) (k:PySem.W.keepIn K (.ref f)=true):∃ fI fdI,FaultAt K mg C fI fdI:=by
 have F:=fun_mk (st:=sFaultInit) l c k
 exact ⟨f,_,x,F,F.binds (ps:=["self", "number", "told"]) fun _ _ _ _ _ _ us hl=>match us,hl with | [_,_,_],_=>rfl,PySem.W.mg_of X G a,kc⟩
end
end Prg
end
section
set_option maxRecDepth 100000
set_option maxHeartbeats 4000000
namespace Prg
open PySem L2
section
variable{P:Program}{w:World}{K:PySem.W.Frag}{mg:Str→Option Value}{h:Heap}{f:Addr}{od an:Option Addr}{sl:Array (Option Value)}{oc kV dc pm cd ct:Value}
def KnownM(K:PySem.W.Frag)(C:Addr)(m qual:Str)(ps:List Str)(st:PySem.Stmt):Prop:=∃ f fd,Fun K m qual st f fd∧Binds K fd ps []∧Meth K C m f
theorem knownM_mk{C:Addr}{m qual:Str}{ps:List Str}{st:PySem.Stmt}
  (hb:∀ (kV doc pm:Value) (an:Option Addr) (cdv ct:Value) (us:List Value),us.length=ps.length→bindArgs (PySem.W.fnOf m qual (defArgs st) (defBody st) (defScope st) .none kV doc pm an cdv ct) ⟨us,[]⟩=pure (ps.zip us))
  (a:PySem.W.findIn K (.ref C) m=some (some (.ref f))) (i:PySem.W.isFn K (.ref f)=true) (l:K.lookup f=some ⟨oc,od,.func (PySem.W.fnOf m qual (defArgs st) (defBody st) (defScope st) .none kV dc pm an cd ct),sl⟩) (c:PySem.W.codeIn K cd qual=true) (k:PySem.W.keepIn K (.ref f)=true):KnownM K C m qual ps st:=by
 have F:=fun_mk (st:=st) l c k
 exact ⟨f,_,F,F.binds hb,a,i,k⟩
theorem has_m{P:Program}{w:World}{K:PySem.W.Frag}{mg:Str→Option Value}{base:Heap}{C:Addr}{k:Nat}{m qual:Str}{ps:List Str}{st:PySem.Stmt}{sp:Sp}(Kn:KnownM K C m qual ps st)(ok:∀ f fd,Fun K m qual st f fd→FnOk P w K mg base (CXF P w) k f fd ps sp):HasM P w K mg base C k m ps sp:=by
 obtain ⟨f,fd,F,b,M⟩:=Kn
 exact ⟨f,fd,ok f fd F,b,M⟩
theorem sides_gen(rows:List (Str×Int×Addr))(hr:∀ r∈rows,∃ u v,∀ H,SqT K H r.2.2 [.int r.2.1,u,v]):∀ z:Str,match (rows.map fun r=>(r.1,r.2.1)).lookup z with
  | none=>valV (rows.map fun r=>((Sum.inr r.1:Key),V.ref r.2.2)) (.inr z)=none
  | some i=>∃ t u v,valV (rows.map fun r=>((Sum.inr r.1:Key),V.ref r.2.2)) (.inr z)=some (.ref t)∧∀ H,SqT K H t [.int i,u,v]:=by
 intro z
 induction rows with
 | nil=>exact rfl
 | cons r rows ih =>
  rw [List.map_cons,List.map_cons,List.lookup_cons]
  by_cases e:z=r.1
  ·subst e
   rw [beq_self_eq_true]
   obtain ⟨u,v,hs⟩:=hr r (.head _)
   exact ⟨r.2.2,u,v,valV_pos rfl,hs⟩
  ·rw [beq_eq_false_iff_ne.mpr e]
   have n:¬ (Sum.inr r.1:Key)=Sum.inr z:=fun y=>by injection y with y;exact e y.symm
   have:=ih fun r' h'=>hr r' (List.mem_cons_of_mem _ h')
   dsimp only
   cases hl:(rows.map fun r=>(r.1,r.2.1)).lookup z with
   | none =>
    rw [hl] at this
    dsimp only
    rw [valV_neg n];exact this
   | some i =>
    rw [hl] at this
    obtain ⟨t,u,v,h1,h2⟩:=this
    exact ⟨t,u,v,by rw [valV_neg n];exact h1,h2⟩
theorem built_gen(rows:List (Str×Nat))(z:Str):valV (rows.map fun p=>((Sum.inr p.1:Key),V.int (p.2:Int))) (.inr z)=(rows.lookup z).map fun (m:Nat)=>V.int (m:Int):=by
 induction rows with
 | nil=>rfl
 | cons r rows ih =>
  rw [List.map_cons,List.lookup_cons]
  by_cases e:z=r.1
  ·subst e
   rw [beq_self_eq_true,valV_pos rfl];rfl
  ·have n:¬ (Sum.inr r.1:Key)=Sum.inr z:=fun y=>by injection y with y;exact e y.symm
   rw [beq_eq_false_iff_ne.mpr e,valV_neg n,ih]
theorem sides_mk{a:Addr}{es:Array DictEntry}{ep:Nat}(X:K.In h)(G:h.Ns mainGlobals mg)(rows:List (Str×Int×Addr))(hx:(rows.map fun r=>(r.1,r.2.1))=sidesL)(e:PySem.W.nsIn K mainGlobals "SIDES"=some (some (.ref a)))(l:K.lookup a=some ⟨.type "dict",none,.dict es ep,#[]⟩)(ha:(a == sysModules)=false)
  (hv:dicB w es.toList (rows.map fun r=>((Sum.inr r.1:Key),V.ref r.2.2))) (hr:∀ r∈rows,∃ u v,∀ H,SqT K H r.2.2 [.int r.2.1,u,v]):SidesAt w K mg:=by
 refine ⟨a,_,PySem.W.mg_of X G e,kdic_mk l ha hv,fun z=>?_⟩
 have:=sides_gen rows hr z
 rw [hx] at this
 exact this
theorem built_mk{a:Addr}{es:Array DictEntry}{ep:Nat}(X:K.In h)(G:h.Ns mainGlobals mg)(e:PySem.W.nsIn K mainGlobals "BUILT_IN"=some (some (.ref a)))(l:K.lookup a=some ⟨.type "dict",none,.dict es ep,#[]⟩)(ha:(a == sysModules)=false)
  (hv:dicB w es.toList (builtL.map fun p=>((Sum.inr p.1:Key),V.int (p.2:Int)))):BuiltAt w K mg:=⟨a,_,PySem.W.mg_of X G e,kdic_mk l ha hv,fun z=>built_gen builtL z⟩
end
section
variable{P:Program}{w:World}{K:PySem.W.Frag}{mg:Str→Option Value}{h:Heap}{C f:Addr}{od an:Option Addr}{sl:Array (Option Value)}{oc kV dc pm cd ct:Value}
theorem tree_mk(X:K.In h)(G:h.Ns mainGlobals mg)(a:PySem.W.nsIn K mainGlobals "Tree"=some (some (.ref C)))(cl:Cls K C)(n1:PySem.W.findIn K (.ref C) "kind"=some none)(n2:PySem.W.findIn K (.ref C) "leaves"=some none)(n3:PySem.W.findIn K (.ref C) "parts"=some none)(n4:PySem.W.findIn K (.ref C) "blocks"=some none)(n5:PySem.W.findIn K (.ref C) "depth"=some none)(n6:PySem.W.findIn K (.ref C) "place"=some none)(n7:PySem.W.findIn K (.ref C) "end"=some none)
  (mk:PySem.W.makesIn K C=true) (i:PySem.W.findIn K (.ref C) "__init__"=some (some (.ref f))) (fn:PySem.W.isFn K (.ref f)=true) (kc:PySem.W.keepIn K (.ref C)=true)
  (l:K.lookup f=some ⟨oc,od,.func (PySem.W.fnOf "__init__" "Tree.__init__" (defArgs sTreeInit) (defBody sTreeInit) (defScope sTreeInit) .none kV dc pm an cd ct),sl⟩) (c:PySem.W.codeIn K cd "Tree.__init__"=true) (k:PySem.W.keepIn K (.ref f)=true):∃ tI tdI,TreeAt K mg C tI tdI:=by
 have F:=fun_mk (st:=sTreeInit) l c k
 refine ⟨f,_,⟨cl,fun x hx=>?_,PySem.W.mg_of X G a⟩,⟨mk,i,fn,kc⟩,F,F.binds (ps:=["self", "kind", "leaves", "parts", "blocks"]) fun _ _ _ _ _ _ us hl=>match us,hl with | [_,_,_,_,_],_=>rfl⟩
 simp only [List.mem_cons,List.not_mem_nil,or_false] at hx
 rcases hx with rfl | rfl | rfl | rfl | rfl | rfl | rfl
 ·exact n1
 ·exact n2
 ·exact n3
 ·exact n4
 ·exact n5
 ·exact n6
 ·exact n7
theorem reader_mk(X:K.In h)(G:h.Ns mainGlobals mg)(a:PySem.W.nsIn K mainGlobals "Reader"=some (some (.ref C)))(cl:Cls K C)(n1:PySem.W.findIn K (.ref C) "tokens"=some none)(n2:PySem.W.findIn K (.ref C) "at"=some none)
  (mk:PySem.W.makesIn K C=true) (i:PySem.W.findIn K (.ref C) "__init__"=some (some (.ref f))) (fn:PySem.W.isFn K (.ref f)=true) (kc:PySem.W.keepIn K (.ref C)=true)
  (l:K.lookup f=some ⟨oc,od,.func (PySem.W.fnOf "__init__" "Reader.__init__" (defArgs sReaderInit) (defBody sReaderInit) (defScope sReaderInit) .none kV dc pm an cd ct),sl⟩) (c:PySem.W.codeIn K cd "Reader.__init__"=true) (k:PySem.W.keepIn K (.ref f)=true) :
  ClsAt K mg "Reader" C ["tokens", "at"]∧∃ rI rdI,Mk K C rI∧Fun K "__init__" "Reader.__init__" sReaderInit rI rdI∧Binds K rdI ["self", "tokens"] []:=by
 have F:=fun_mk (st:=sReaderInit) l c k
 refine ⟨⟨cl,fun x hx=>?_,PySem.W.mg_of X G a⟩,f,_,⟨mk,i,fn,kc⟩,F,F.binds (ps:=["self", "tokens"]) fun _ _ _ _ _ _ us hl=>match us,hl with | [_,_],_=>rfl⟩
 simp only [List.mem_cons,List.not_mem_nil,or_false] at hx
 rcases hx with rfl | rfl
 ·exact n1
 ·exact n2
def rowsOk(K:PySem.W.Frag):List (Str×Int×Addr)→Prop
 | []=>True
 | r::l=>(∃ u v,∀ H,SqT K H r.2.2 [.int r.2.1,u,v])∧rowsOk K l
theorem rows_all:∀ {rows:List (Str×Int×Addr)},rowsOk K rows→∀ r∈rows,∃ u v,∀ H,SqT K H r.2.2 [.int r.2.1,u,v]
 | [],_,r,hr=>by cases hr
 | q::l,h,r,hr=>by
  rcases List.mem_cons.mp hr with z | z
  ·subst z;exact h.1
  ·exact rows_all h.2 r z
end
end Prg
end
section
set_option maxRecDepth 100000
set_option maxHeartbeats 4000000
namespace Prg
open PySem L2
open Vanbka (Bytes)
theorem numd_mk{K:PySem.W.Frag}{mg:Str→Option Value}{w:World}{h:Heap}{x:Str}{rows:List (Str×Nat)}{a:Addr}{es:Array DictEntry}{ep:Nat}(X:K.In h)(G:h.Ns mainGlobals mg)(e:PySem.W.nsIn K mainGlobals x=some (some (.ref a)))(l:K.lookup a=some ⟨.type "dict",none,.dict es ep,#[]⟩)(ha:(a == sysModules)=false)
  (hv:dicB w es.toList (rows.map fun p=>((Sum.inr p.1:Key),V.int (p.2:Int)))):NumD w K mg x rows:=⟨a,_,PySem.W.mg_of X G e,kdic_mk l ha hv,fun z=>built_gen rows z⟩
structure Facts(P:Program)(w:World)(K:PySem.W.Frag)(mg:Str→Option Value)(D:Ad):Prop where
 kDigit:Known K mg "is_digit" ["byte"] sIsDigit
 kWordB:Known K mg "is_word_byte" ["byte"] sIsWordByte
 kPass:Known K mg "pass_over" ["text", "place"] sPassOver
 kBytes:Known K mg "check_bytes" ["text"] sCheckBytes
 kNum:Known K mg "cut_number" ["text", "place"] sCutNumber
 kWord:Known K mg "cut_word" ["text", "place"] sCutWord
 kSpell:Known K mg "spell_lower" ["word"] sSpellLower
 kQuoted:Known K mg "cut_quoted" ["text", "place"] sCutQuoted
 kSign:Known K mg "cut_sign" ["text", "place"] sCutSign
 kTok:Known K mg "cut_token" ["text", "place"] sCutToken
 kToks:Known K mg "cut_tokens" ["text"] sCutTokens
 kRToks:Known K mg "read_tokens" ["text"] sReadTokens
 kLong:Known K mg "is_too_long" ["text"] sTooLong
 c_LINE_FEED:CI mg "LINE_FEED" 10
 c_BLANK:CI mg "BLANK" 32
 c_LAST_ALLOWED:CI mg "LAST_ALLOWED" 126
 c_QUOTE:CI mg "QUOTE" 34
 c_HASH:CI mg "HASH" 35
 c_ZERO:CI mg "ZERO" 48
 c_NINE:CI mg "NINE" 57
 c_UNDERSCORE:CI mg "UNDERSCORE" 95
 c_BACKSLASH:CI mg "BACKSLASH" 92
 c_LONGEST_WORD:CI mg "LONGEST_WORD" 16
 c_LONGEST_NUMBER:CI mg "LONGEST_NUMBER" 30
 c_LOWER_A:CI mg "LOWER_A" 97
 c_FORBIDDEN_BYTE:CI mg "FORBIDDEN_BYTE" 1
 c_WRONG_TOKEN:CI mg "WRONG_TOKEN" 2
 c_LONGEST_TEXT:CI mg "LONGEST_TEXT" 600
 c_TOO_LONG:CI mg "TOO_LONG" (-1)
 c_LL:CS mg "LOWER_LETTERS" letters
 n_len:mg "len"=none
 n_tuple:mg "tuple"=none
 n_enumerate:mg "enumerate"=none
 tRes:KTup K mg "RESERVED" resV
 dEsc:KD w K mg "ESCAPED" escV
 dOne:KD w K mg "ONE_BYTE_SIGNS" oneV
 dTwo:KDT P w K mg "TWO_BYTE_SIGNS" twoV
 oFault:∃ fI fdI,FaultAt K mg D.CF fI fdI
 oToken:∃ tI tdI,TokenAt K mg D.CT tI tdI
 kExpr:Known K mg "read_expression" ["reader"] sReadExpr
 kJoined:Known K mg "read_joined" ["reader", "strength"] sReadJoined
 kSigned:Known K mg "read_signed" ["reader"] sReadSigned
 kReached:Known K mg "read_reached" ["reader"] sReadReached
 kReach:Known K mg "read_reach" ["reader", "left"] sReadReach
 kListed:Known K mg "read_listed" ["reader", "closing"] sReadListed
 kSimple:Known K mg "read_simple" ["reader"] sReadSimple
 kBrack:Known K mg "read_bracketed" ["reader"] sReadBracketed
 kRecord:Known K mg "read_record" ["reader"] sReadRecord
 kFn:Known K mg "read_function" ["reader"] sReadFunction
 kBuilt:Known K mg "read_built_in" ["reader"] sReadBuiltIn
 kBlock:Known K mg "read_block" ["reader"] sReadBlock
 kStmts:Known K mg "read_statements" ["reader", "closing"] sReadStatements
 kStmt:Known K mg "read_statement" ["reader"] sReadStatement
 kBind:Known K mg "read_binding" ["reader"] sReadBinding
 kShow:Known K mg "read_showing" ["reader"] sReadShowing
 kIf:Known K mg "read_if" ["reader"] sReadIf
 kWhile:Known K mg "read_while" ["reader"] sReadWhile
 kFor:Known K mg "read_for" ["reader"] sReadFor
 kSlider:Known K mg "read_slider" ["reader"] sReadSlider
 kChoice:Known K mg "read_choice" ["reader"] sReadChoice
 kGreat:Known K mg "greatest_depth" ["trees"] sGreatest
 kJoins:Known K mg "joins_at" ["kind", "strength"] sJoinsAt
 kWhole:Known K mg "read_whole" ["reader"] sReadWhole
 kLeaves:Known K mg "read_leaves" ["reader", "kind"] sReadLeaves
 kProg:Known K mg "read_program" ["tokens"] sReadProgram
 kGood:Known K mg "read_good" ["text"] sReadGood
 kBr:Known K mg "check_brackets" ["tokens"] sCheckBrackets
 kDepth:Known K mg "check_depth" ["program"] sCheckDepth
 kEnd:Known K mg "end_token" ["text"] sEndToken
 mLook:KnownM K D.CR "look" "Reader.look" ["self"] sLook
 mBehind:KnownM K D.CR "look_behind" "Reader.look_behind" ["self"] sLookBehind
 mHere:KnownM K D.CR "here" "Reader.here" ["self"] sHere
 mMove:KnownM K D.CR "move_on" "Reader.move_on" ["self"] sMoveOn
 mTake:KnownM K D.CR "take" "Reader.take" ["self", "kind"] sTake
 mLast:KnownM K D.CR "behind_last" "Reader.behind_last" ["self"] sBehindLast
 c_DEEP_BRACKET:CI mg "DEEP_BRACKET" 3
 c_NO_PROGRAM:CI mg "NO_PROGRAM" 4
 c_DEEP_PROGRAM:CI mg "DEEP_PROGRAM" 5
 c_DEEPEST_BRACKET:CI mg "DEEPEST_BRACKET" 24
 c_DEEPEST_PROGRAM:CI mg "DEEPEST_PROGRAM" 40
 c_OR_LINE:CI mg "OR_LINE" 1
 c_NOT_LINE:CI mg "NOT_LINE" 3
 c_COMPARED_LINE:CI mg "COMPARED_LINE" 4
 c_SIGNED_LINE:CI mg "SIGNED_LINE" 8
 n_max:mg "max"=none
 tShow:KTup K mg "SHOWING" (showL.map V.str)
 tOpen:KTup K mg "OPENING" (openK.map V.str)
 tClose:KTup K mg "CLOSING" (closeK.map V.str)
 dBuilt:BuiltAt w K mg
 dSides:SidesAt w K mg
 oTree:∃ nI ndI,TreeAt K mg D.CN nI ndI
 oReader:ClsAt K mg "Reader" D.CR ["tokens", "at"]∧∃ rI rdI,Mk K D.CR rI∧Fun K "__init__" "Reader.__init__" sReaderInit rI rdI∧Binds K rdI ["self", "tokens"] []
 kPut:Known K mg "put_together" ["pieces"] sPut
 kTList:Known K mg "tell_list" ["pieces"] sTList
 kTBytes:Known K mg "tell_bytes" ["said"] sTBytes
 kTByl:Known K mg "tell_bytes_list" ["texts"] sTByl
 kTParts:Known K mg "tell_parts" ["parts"] sTParts
 kTListed:Known K mg "tell_listed" ["parts"] sTListed
 kTStmts:Known K mg "tell_statements" ["statements"] sTStmts
 kTFields:Known K mg "tell_fields" ["tree"] sTFields
 kTFn:Known K mg "tell_function" ["tree"] sTFn
 kTIn:Known K mg "tell_inside" ["tree"] sTIn
 kTExpr:Known K mg "tell_expression" ["tree"] sTExpr
 kTStmt:Known K mg "tell_statement" ["tree"] sTStmt
 kSNum:Known K mg "statement_number" ["tree"] sSNum
 c_BETWEEN_TWO:CI mg "BETWEEN_TWO" 11
 c_BUILT_IN_WORD:CI mg "BUILT_IN_WORD" 16
 c_NAMELESS_FUNCTION:CI mg "NAMELESS_FUNCTION" 17
 c_NAMED_FUNCTION:CI mg "NAMED_FUNCTION" 18
 c_IF_WITH_ELSE:CI mg "IF_WITH_ELSE" 29
 n_zip:mg "zip"=none
 dSn:NumD w K mg "SIGN_NUMBERS" snL
 dWn:NumD w K mg "WORD_NUMBERS" wnL
 dOe:NumD w K mg "OTHER_EXPRESSIONS" oeL
 dOs:NumD w K mg "OTHER_STATEMENTS" osL
 kCall:Known K mg "same" ["text_a", "text_b"] sSame
 c_NOT_GOOD:CI mg "NOT_GOOD" (-2)
 c_THE_SAME:CI mg "THE_SAME" 1
 c_NOT_THE_SAME:CI mg "NOT_THE_SAME" 0
section
variable{P:Program}{w:World}{K:PySem.W.Frag}{mg:Str→Option Value}{h:Heap}{D:Ad}{base:Heap}
theorem has_at(A:Facts P w K mg D){f:Addr}{fd:FuncData}(Fa:Fun K "same" "same" sSame f fd):FnOk P w K mg base (CXF P w) 507 f fd ["text_a", "text_b"] (spT2 K sameTold):=by
 obtain ⟨fI,fdI,TF⟩:=A.oFault
 obtain ⟨tI,tdI,U⟩:=A.oToken
 have digit:Has P w K mg base 1 "is_digit" ["byte"] spDigit:=has_k A.kDigit fun f fd F=>ok_digit F A.c_ZERO A.c_NINE
 obtain ⟨gD,gdD,okD,bD,kD,mD⟩:=id digit
 have wordB:Has P w K mg base 2 "is_word_byte" ["byte"] spWordB:=has_k A.kWordB fun f fd F=>ok_wordB F okD bD kD mD A.c_UNDERSCORE
 obtain ⟨gW,gdW,okW,bW,kW,mW⟩:=id wordB
 have pass:Has P w K mg base 1 "pass_over" ["text", "place"] (spPass K):=has_k A.kPass fun f fd F=>ok_pass F A.n_len A.c_LINE_FEED A.c_HASH A.c_BLANK
 have bytes:Has P w K mg base 3 "check_bytes" ["text"] (spBytes K D.CF):=has_k A.kBytes fun f fd F=>ok_bytes F TF A.n_enumerate A.c_LINE_FEED A.c_BLANK A.c_LAST_ALLOWED A.c_FORBIDDEN_BYTE
 have num:Has P w K mg base 3 "cut_number" ["text", "place"] (spCut K D.CF D.CT fun c=>Vanbka.digit c=true):=has_k A.kNum fun f fd F=>ok_num F TF U okD bD kD mD A.n_len A.c_ZERO A.c_LONGEST_NUMBER A.c_WRONG_TOKEN
 have spell:Has P w K mg base 1 "spell_lower" ["word"] (spSpell K):=has_k A.kSpell fun f fd F=>ok_spell F A.n_len A.c_LOWER_A A.c_LL
 obtain ⟨gS,gdS,okS,bS,kS,mS⟩:=id spell
 have word:Has P w K mg base 3 "cut_word" ["text", "place"] (spCut K D.CF D.CT fun c=>Vanbka.letter c=true):=has_k A.kWord fun f fd F=>ok_word F TF U okW bW kW mW okS bS kS mS A.n_len A.tRes A.c_LONGEST_WORD A.c_WRONG_TOKEN
 have quoted:Has P w K mg base 3 "cut_quoted" ["text", "place"] (spCut K D.CF D.CT fun c=>c=34):=has_k A.kQuoted fun f fd F=>ok_quoted F TF U A.n_len A.dEsc A.c_QUOTE A.c_LINE_FEED A.c_BACKSLASH A.c_WRONG_TOKEN
 have sign:Has P w K mg base 3 "cut_sign" ["text", "place"] (spCut K D.CF D.CT fun c=>Vanbka.letter c=false∧Vanbka.digit c=false∧c≠34):=has_k A.kSign fun f fd F=>ok_sign F TF U A.n_tuple A.dTwo A.dOne A.c_WRONG_TOKEN
 have tok:Has P w K mg base 4 "cut_token" ["text", "place"] (spCut K D.CF D.CT fun _=>True):=has_k A.kTok fun f fd F=>ok_tok F digit wordB num word quoted sign A.c_QUOTE
 have toks:Has P w K mg base 5 "cut_tokens" ["text"] (spTokens K D.CF D.CT):=has_k A.kToks fun f fd F=>ok_toks F U pass tok A.n_len
 have rtoks:Has P w K mg base 6 "read_tokens" ["text"] (spRToks K D.CF D.CT):=has_k A.kRToks fun f fd F=>ok_rtoks F bytes toks
 have long:Has P w K mg base 1 "is_too_long" ["text"] (spLong K):=has_k A.kLong fun f fd F=>ok_long F A.n_len A.c_LONGEST_TEXT
 obtain ⟨nI,ndI,TN⟩:=A.oTree
 obtain ⟨cR,rI,rdI,mkR,FR,bR⟩:=A.oReader
 have Rd:ReaderAt K mg D.CR:=⟨cR⟩
 have look:HasM P w K mg base D.CR 1 "look" ["self"] (spLook D.CT D.CR):=has_m A.mLook fun f fd F=>ok_look F U Rd
 have behind:HasM P w K mg base D.CR 1 "look_behind" ["self"] (spBehind D.CT D.CR):=has_m A.mBehind fun f fd F=>ok_behind F U Rd
 have here:HasM P w K mg base D.CR 1 "here" ["self"] (spHere D.CT D.CR):=has_m A.mHere fun f fd F=>ok_here F U Rd
 have last:HasM P w K mg base D.CR 1 "behind_last" ["self"] (spLast D.CT D.CR):=has_m A.mLast fun f fd F=>ok_last F U Rd
 have move:HasM P w K mg base D.CR 2 "move_on" ["self"] (spMove D.CT D.CR):=has_m A.mMove fun f fd F=>ok_move F Rd look
 have take:HasM P w K mg base D.CR 3 "take" ["self", "kind"] (spTake D.CF D.CT D.CR):=has_m A.mTake fun f fd F=>ok_take F TF U Rd look here A.c_NO_PROGRAM
 have great:Has P w K mg base 1 "greatest_depth" ["trees"] (spGreat K D.CN):=has_k A.kGreat fun f fd F=>ok_great F TN.c A.n_max
 have B:Base P w K mg base D:=⟨A.oFault,Rd,⟨nI,ndI,TN,ok_NI TN great A.n_max⟩,look,behind,here,move,take,A.c_NO_PROGRAM,A.n_len,A.c_OR_LINE,A.c_NOT_LINE,A.c_COMPARED_LINE,A.c_SIGNED_LINE,last⟩
 have T:Text K mg:=⟨A.kExpr,A.kJoined,A.kSigned,A.kReached,A.kReach,A.kListed,A.kSimple,A.kBrack,A.kRecord,A.kFn,A.kBuilt,A.kBlock,A.kStmts,A.kStmt,A.kBind,A.kShow,A.kIf,A.kWhile,A.kFor,A.kSlider,A.kChoice⟩
 have joins:Has P w K mg base 1 "joins_at" ["kind", "strength"] spJoins:=has_k A.kJoins fun f fd F=>ok_joins F A.dSides
 have whole:Has P w K mg base 4 "read_whole" ["reader"] (spWhole D):=has_k A.kWhole fun f fd F=>ok_whole F B
 have names:Has P w K mg base 4 "read_leaves" ["reader", "kind"] (spLeaves D "NAME" Vanbka.name Vanbka.namesMore):=has_k A.kLeaves fun f fd F=>ok_leaves leafy_name F B
 have quots:Has P w K mg base 4 "read_leaves" ["reader", "kind"] (spLeaves D "QUOTED" Vanbka.quoted Vanbka.quotedMore):=has_k A.kLeaves fun f fd F=>ok_leaves leafy_quoted F B
 have R:=reads T B joins whole names quots A.dBuilt A.tShow
 have prog:Has P w K mg base 505 "read_program" ["tokens"] (spProg D):=has_k A.kProg fun f fd F=>ok_prog F (rI:=rI) (rdI:=rdI) ⟨cR,mkR,ok_RI FR Rd,bR⟩ R
 have brs:Has P w K mg base 3 "check_brackets" ["tokens"] (spBrackets D):=has_k A.kBr fun f fd F=>ok_brackets F TF U A.c_DEEP_BRACKET A.c_DEEPEST_BRACKET A.tOpen A.tClose
 have depth:Has P w K mg base 3 "check_depth" ["program"] (spDepth D):=has_k A.kDepth fun f fd F=>ok_depth F TF great A.c_DEEP_PROGRAM A.c_DEEPEST_PROGRAM
 have fin:Has P w K mg base 3 "end_token" ["text"] (spEnd K D.CT):=has_k A.kEnd fun f fd F=>ok_end F U A.n_len
 have good:Has P w K mg base 506 "read_good" ["text"] (spGood K D):=has_k A.kGood fun f fd F=>ok_good F rtoks fin brs prog depth
 have put:Has P w K mg base 1 "put_together" ["pieces"] (ISp (RPut K)):=ok_Put A.kPut
 have t0:TB0 P w K mg base:=⟨A.n_len,put⟩
 have t1:TB1 P w K mg base:=⟨t0,ok_TList A.kTList t0,ok_TBytes A.kTBytes t0⟩
 have t2:TB P w K mg base D:=⟨t1,TN.c,A.n_zip,ok_TByl A.kTByl t1,A.c_BETWEEN_TWO,A.c_BUILT_IN_WORD,A.c_NAMELESS_FUNCTION,A.c_NAMED_FUNCTION,A.dSn,A.dWn,A.dOe⟩
 have t3:TB2 P w K mg base D:=⟨t2,A.c_IF_WITH_ELSE,A.dOs⟩
 have t4:TB3 P w K mg base D:=⟨t3,ok_SNum A.kSNum t3⟩
 have TL:=tells ⟨A.kTParts,A.kTListed,A.kTStmts,A.kTFields,A.kTFn,A.kTIn,A.kTExpr,A.kTStmt⟩ t4 40
 have tss:=ok_TStmts A.kTStmts t1 TL
 exact ok_same Fa TF long good tss A.c_TOO_LONG A.c_NOT_GOOD A.c_THE_SAME A.c_NOT_THE_SAME
theorem final{fa:Addr}(hfa:mg "same"=some (.ref fa))(A:Facts P w K mg D) :
  ∃ fd:FuncData,(∀ (s:Shared) (us:List Value),us.length=(["text_a", "text_b"]:List Str).length→BindsTo s fd ⟨us,[]⟩ ((["text_a", "text_b"]:List Str).zip us))∧∀ base:Heap,K.In base→base.Ns mainGlobals mg→FnOk P w K mg base (CXF P w) 507 fa fd ["text_a", "text_b"] (spT2 K sameTold):=by
 obtain ⟨f,fd,F,b,kp,m⟩:=A.kCall
 have e:=hfa.symm.trans m
 cases e
 refine ⟨fd,?_,fun base _ _=>has_at (base:=base) A F⟩
 obtain ⟨oc,od,kV,doc,pm,an,cdv,ct,osl,rfl,lk,hcd⟩:=F.ex
 exact fun s us hu=>match us,hu with | [_,_],_=>.of_eq rfl
end
theorem call_is{l m:List Int}(h:∀ z∈l,0≤z∧z≤255)(h2:∀ z∈m,0≤z∧z≤255):told (sameTold (VanbkaNeutral.text l) (VanbkaNeutral.text m))=PyVanbka.same l m:=by
 have e:VanbkaNeutral.callOf [[4],l,m]=if NeutralIO.bytes l && NeutralIO.bytes m then some (.same (VanbkaNeutral.text l) (VanbkaNeutral.text m)) else none:=rfl
 unfold PyVanbka.same VanbkaNeutral.step
 rw [e,bytes_ok h,bytes_ok h2]
 rfl
open PySem.W in
theorem walkF{q:Program}{loose:List Str}{XP:(Str→Option Value)→Heap→Prop}{YP:World→Heap→Prop}{d:DefRec}{K:Params→PySem.W.Frag}(hdf:d.params.defaults=[])
  (hY:∀ (w:World) (h:Heap),YP w h→(K w.params).In h)
  (F:∀ (w:World) (mg:Str→Option Value) (fa:Addr) (h:Heap),YP w h→(K w.params).In h→h.Ns mainGlobals mg→mg d.name=some (.ref fa)→
   ∃ fd:FuncData,(∀ (s:Shared) (us:List Value),us.length=(["text_a", "text_b"]:List Str).length→BindsTo s fd ⟨us,[]⟩ ((["text_a", "text_b"]:List Str).zip us))∧
    ∀ base:Heap,(K w.params).In base→base.Ns mainGlobals mg→FnOk PySem.Challenge.rw_celltexts_s05_same.prog w (K w.params) mg base (CXF PySem.Challenge.rw_celltexts_s05_same.prog w) 507 fa fd ["text_a", "text_b"] (spT2 (K w.params) sameTold)) :
  PySem.W.WalkOS q loose XP YP PySem.Challenge.rw_celltexts_s05_same d [] (fun f vs=>PySem.call f vs):=by
 refine walk_spec (r:=PySem.Challenge.rw_celltexts_s05_same) (k:=507) (CX:=fun w=>CXF PySem.Challenge.rw_celltexts_s05_same.prog w) (ps:=["text_a", "text_b"]) (sp:=fun w=>spT2 (K w.params) sameTold) (by decide +kernel) hdf rfl ⟨rfl,by decide,by decide⟩ hY F ?_ ?_
 ·intro w H xs a hO hwi hask hx
  cases hx with
  | cons h1 h2 =>
   cases h2 with
   | cons h2 h3 =>
    cases h3
    cases h1 with
    | lst hs ha =>
     cases h2 with
     | lst ht hb =>
      have e:=L2.ints_dw a.1 _ ha
      subst e
      have e:=L2.ints_dw a.2.1 _ hb
      subst e
      have q:((Codec.inLen 0 2000 a.1 && a.1.all (Codec.inInt 0 255)) && ((Codec.inLen 0 2000 a.2.1 && a.2.1.all (Codec.inInt 0 255)) && true))=true:=hwi
      simp only [Bool.and_eq_true] at q
      have rg:∀ {l:List Int},l.all (Codec.inInt 0 255)=true→∀ z∈l,0≤z∧z≤255:=fun hl z hz=>by
       have:=List.all_eq_true.mp hl z hz
       simpa [Codec.inInt] using this
      refine ⟨_,VanbkaNeutral.text a.1,_,VanbkaNeutral.text a.2.1,rfl,by rw [vb_text (rg q.1.2)];exact hs,by rw [vb_text (rg q.2.1.2)];exact ht,fun l H' hl=>?_⟩
      rw [call_is (rg q.1.2) (rg q.2.1.2)] at hl
      exact .lst (SqL.of hl) (L2.dw_ints _)
 ·rintro w H s e s' ⟨x,T,C,dx,H',_,_,_,_,_,_,_,_,_,_,z⟩
  exact z
end Prg
end
namespace PySem.W.Fast
def tw10007509751161555370:=0
def tw1001499775975378693:=0
def tw10017089077281639204:=0
def tw10018203989885073612:=0
def tw10024618481437434545:=0
def tw10042981447577506594:=0
def tw10044280783798600264:=0
def tw10065299796059361811:=0
def tw1009201110663784654:=0
def tw10105810525081458089:=0
def tw1011062290166410862:=0
def tw10136775076944703154:=0
def tw1014384178288343006:=0
def tw10179917945282230100:=0
def tw10195670371021692673:=0
def tw10241687918928930838:=0
def tw10277920666195049716:=0
def tw10290428423003472814:=0
def tw10322369205379657318:=0
def tw10348388590203817739:=0
def tw10356764648578563638:=0
def tw10401009020493484857:=0
def tw10414665581650349824:=0
def tw10458282611146548304:=0
def tw10481208884695404227:=0
def tw10508009020467304987:=0
def tw10571140503245438187:=0
def tw10582044348711565413:=0
def tw10592908057121058901:=0
def tw1061108115632222032:=0
def tw10630942991279242505:=0
def tw10641219322454188796:=0
def tw10646997264528896312:=0
def tw10651258258543155612:=0
def tw10698553986100313675:=0
def tw10753285874513989065:=0
def tw10768750034462254218:=0
def tw10798531200914173950:=0
def tw10816082890841636648:=0
def tw1085886053401169104:=0
def tw10862358850094535981:=0
def tw10890854129545003329:=0
def tw10957318637790668505:=0
def tw10971192755110129939:=0
def tw11045677352578902100:=0
def tw11110625329093655016:=0
def tw11163474129346876177:=0
def tw11170456494230028611:=0
def tw11199588068710025558:=0
def tw11214606625869709699:=0
def tw11247808980270765413:=0
def tw11257875469720999680:=0
def tw11260139530371772583:=0
def tw11278570939906590975:=0
def tw113175128254494276:=0
def tw11325028643505635563:=0
def tw11325575289461976533:=0
def tw1134072941568861505:=0
def tw11348937399826891340:=0
def tw11365902277809436597:=0
def tw1142334632573678427:=0
def tw11432080854553768409:=0
def tw11446941110605621177:=0
def tw11454785667799213163:=0
def tw11500249899615794632:=0
def tw1163290644433560844:=0
def tw11642562335091246509:=0
def tw11644390266685527998:=0
def tw11686871828225467825:=0
def tw11762914339551501341:=0
def tw11763573786685323192:=0
def tw11829780869683497983:=0
def tw11846790241357251774:=0
def tw11857299041978078572:=0
def tw11877813163206614159:=0
def tw11948745004512309173:=0
def tw12010498676996941274:=0
def tw12071734365469809529:=0
def tw12084266517207335482:=0
def tw12120560158031484056:=0
def tw12220534010872974258:=0
def tw12239007579576464223:=0
def tw12302754304562906632:=0
def tw12334292406498130846:=0
def tw12394726322632264208:=0
def tw1244798622427517152:=0
def tw12453229520587534378:=0
def tw1251317975689883676:=0
def tw12563634458853200771:=0
def tw12566582133429576447:=0
def tw12575638938247655182:=0
def tw12577204689783890384:=0
def tw1270495688361468681:=0
def tw12794115654180791790:=0
def tw12821114165620734416:=0
def tw12859454734330835802:=0
def tw12940216797035834439:=0
def tw12952612394766617908:=0
def tw12960957221802647771:=0
def tw12962106597054985046:=0
def tw13022182626068988702:=0
def tw13098728051369606422:=0
def tw13100312326450604242:=0
def tw13124591805248876225:=0
def tw13135772827392315808:=0
def tw13190767201997325987:=0
def tw13296018039698678230:=0
def tw1331971618798866215:=0
def tw13382078951721991848:=0
def tw13388042445162243292:=0
def tw13394611435825347306:=0
def tw13419390313013687249:=0
def tw13549212483050536533:=0
def tw13551382913297644676:=0
def tw13558162514114445754:=0
def tw13561755469998683532:=0
def tw13609145095244698314:=0
def tw1362750751343814195:=0
def tw13682461642568488499:=0
def tw13714494903473173952:=0
def tw13775190924090760889:=0
def tw13824683179321527282:=0
def tw13950684538206660600:=0
def tw13951054251895610935:=0
def tw13953500785606525891:=0
def tw14028659760407590904:=0
def tw14032346286715607434:=0
def tw1403587014759990660:=0
def tw14049233482942352280:=0
def tw14109097175973299921:=0
def tw14114133762630880824:=0
def tw14132755132999705051:=0
def tw14142969489855980012:=0
def tw14167568543333333095:=0
def tw14181055438744124615:=0
def tw14203982516997128347:=0
def tw14212703448386901541:=0
def tw14263015367705060743:=0
def tw14383568359775580140:=0
def tw14415621865220708816:=0
def tw14416858631120690151:=0
def tw14424107800873047422:=0
def tw14440231000468667521:=0
def tw14486632504413381964:=0
def tw14491361993169195696:=0
def tw14527000010195282389:=0
def tw14549613351750670178:=0
def tw14558760415462232667:=0
def tw1457039425114421167:=0
def tw14606779432326863000:=0
def tw14617559610559605293:=0
def tw14621454788671343030:=0
def tw14685884324256760784:=0
def tw14692947389026258461:=0
def tw14704985429042767305:=0
def tw14714080714238506517:=0
def tw14728645892108067916:=0
def tw14738303177799203690:=0
def tw14809205466975540083:=0
def tw14840637201809331128:=0
def tw14844922704739843278:=0
def tw14870267603681322870:=0
def tw14872246038984355238:=0
def tw14912455901907879197:=0
def tw14955906714682842326:=0
def tw14969989499454468429:=0
def tw14992535630923546299:=0
def tw15056592077904966588:=0
def tw15090071611319508087:=0
def tw15118026728154213966:=0
def tw15174680203551888382:=0
def tw15204729324506537006:=0
def tw15277691818673754172:=0
def tw1537381601437352332:=0
def tw15408455744924276282:=0
def tw15424346938443202513:=0
def tw15443260231127368537:=0
def tw15448535686868683965:=0
def tw1545746388298118589:=0
def tw1546373562563727500:=0
def tw1547930800696327908:=0
def tw15530034178586084788:=0
def tw15531607302746690549:=0
def tw15546682992796042161:=0
def tw15645434059323427728:=0
def tw15660492183637865032:=0
def tw1568214352674018472:=0
def tw15736615333717904486:=0
def tw15778575999914362227:=0
def tw15802588228438229049:=0
def tw15806936146614283699:=0
def tw15836395870382791869:=0
def tw15847198040376023278:=0
def tw15858044067607073204:=0
def tw1589755296533107356:=0
def tw15901282348832016504:=0
def tw15937933869028421805:=0
def tw16090780930102568577:=0
def tw16099050898601017484:=0
def tw16122963439143363867:=0
def tw1613294676662755038:=0
def tw16163424099089426029:=0
def tw16169370893556364836:=0
def tw16180490374960966685:=0
def tw16194156050265484587:=0
def tw16239453295541352061:=0
def tw16310561306992303453:=0
def tw16337502587963442408:=0
def tw16363479402506406592:=0
def tw16439314669473792102:=0
def tw16458655274681234253:=0
def tw16472934046792596737:=0
def tw16546087669144113244:=0
def tw16566464538744696337:=0
def tw16633954775018065271:=0
def tw16671692194769476534:=0
def tw16673463075912824110:=0
def tw16686670330560870274:=0
def tw16788254159724255492:=0
def tw1679185850870400978:=0
def tw16835067133918454918:=0
def tw16878090539047820530:=0
def tw16980281329388812315:=0
def tw16993566918542715038:=0
def tw17005667098732009018:=0
def tw17006798180229826186:=0
def tw17015882761766028331:=0
def tw17029385970430226787:=0
def tw17042276327639088292:=0
def tw17050592697586010402:=0
def tw17070183002982321298:=0
def tw1711364529966699380:=0
def tw17135121389752591840:=0
def tw17162695259573994116:=0
def tw1721625524810295213:=0
def tw17220890793453348892:=0
def tw17241899136290663254:=0
def tw17267950827590552757:=0
def tw17293149477252137467:=0
def tw17304490979586854207:=0
def tw17324137375366209787:=0
def tw17324155349483868244:=0
def tw17340005164773714990:=0
def tw17380486957792425930:=0
def tw17391582146201608059:=0
def tw17434039682742044524:=0
def tw17444007858312902812:=0
def tw1748781367612879917:=0
def tw17523742156930804692:=0
def tw17547755866475277221:=0
def tw17582462321584984799:=0
def tw17588127931525461875:=0
def tw17653607982892048262:=0
def tw17659251271479566751:=0
def tw17676507260900608420:=0
def tw1767960369773653841:=0
def tw17768377716763736042:=0
def tw17780904353812895381:=0
def tw17795948330936789656:=0
def tw17806834567152938831:=0
def tw17848564442764751553:=0
def tw17907738065260867618:=0
def tw17930023603004282934:=0
def tw17946866553643365515:=0
def tw17994154646871844091:=0
def tw17998361151755945146:=0
def tw18138585253945204736:=0
def tw18176301458153059841:=0
def tw18211246552406615326:=0
def tw18221032419975814402:=0
def tw18242915054440701875:=0
def tw18247134230174445242:=0
def tw18330416703407678431:=0
def tw18338938151996147733:=0
def tw18423937079212573215:=0
def tw1898237407031798773:=0
def tw1969601732016553543:=0
def tw1990882422474438616:=0
def tw1992244914646374537:=0
def tw1997020918467858400:=0
def tw2022772328293072092:=0
def tw2051117918639883567:=0
def tw2072687397095652512:=0
def tw2078708339006245500:=0
def tw2170134710436321974:=0
def tw2174975997532148584:=0
def tw2227996419133701380:=0
def tw2299781720633908778:=0
def tw2307856512264174525:=0
def tw2311256433492066679:=0
def tw23521012649808900:=0
def tw2376360491978768517:=0
def tw2381257862034780628:=0
def tw2391135277072969045:=0
def tw2394567302944203226:=0
def tw2423816258354256150:=0
def tw2437270550206851645:=0
def tw2449268321931419886:=0
def tw254719724173411561:=0
def tw255126727354945665:=0
def tw2565466406257012615:=0
def tw2584304155117945772:=0
def tw258469244608485138:=0
def tw2602884286640812230:=0
def tw2618901499412893617:=0
def tw2662589883593144053:=0
def tw2669165394538182406:=0
def tw2719200147681033592:=0
def tw2828084684498840185:=0
def tw2873297085693507897:=0
def tw2889052582234884555:=0
def tw290843230302853441:=0
def tw3049268885819290974:=0
def tw3094848239706079391:=0
def tw3105680105735957388:=0
def tw3221872703624619742:=0
def tw3282227121048002635:=0
def tw3293563359563052138:=0
def tw3312935367007971085:=0
def tw3348645431485133722:=0
def tw3385992934065880011:=0
def tw3522285991547478642:=0
def tw3547803086711668271:=0
def tw3550860416180882125:=0
def tw3556752056554453566:=0
def tw360236017177972978:=0
def tw3611639837162304357:=0
def tw361636252285025048:=0
def tw367384094129847548:=0
def tw3730187420389677018:=0
def tw3831271456959080873:=0
def tw3846166996282071816:=0
def tw3862154161214216813:=0
def tw39170558159842054:=0
def tw393124476554090666:=0
def tw3958208236615595408:=0
def tw3980346639004250647:=0
def tw4073843739828064051:=0
def tw4140566785434724500:=0
def tw4204785665507136265:=0
def tw4206001161928100486:=0
def tw4224189990120965288:=0
def tw4338518817722542287:=0
def tw4363740713165811320:=0
def tw4464281183905623321:=0
def tw4483420846453691697:=0
def tw4546178818249715595:=0
def tw4624806429969467380:=0
def tw4663890390585966338:=0
def tw4664668434105908371:=0
def tw4887473717084520573:=0
def tw5028271534915159752:=0
def tw5072971236844727624:=0
def tw5075053359218340239:=0
def tw5164782869126861494:=0
def tw5169745996728396600:=0
def tw5171147687629388656:=0
def tw5183175375848988406:=0
def tw5332700555057044551:=0
def tw5335079971537695877:=0
def tw5345214159166271405:=0
def tw5345545397034694223:=0
def tw5363697370028292083:=0
def tw5366455869971318015:=0
def tw5420884420308983658:=0
def tw5440838923623974957:=0
def tw5449139479801754303:=0
def tw5462160651234556077:=0
def tw5502653450651361001:=0
def tw5531706900293584678:=0
def tw5535325718515519049:=0
def tw5545318694384932153:=0
def tw5595142878720590276:=0
def tw5597357916811094046:=0
def tw5601589523436206500:=0
def tw5610170086449976508:=0
def tw5642063814672696735:=0
def tw567134847026540333:=0
def tw5721092519179785918:=0
def tw5763320440401642654:=0
def tw5837198342567127509:=0
def tw585226951354715870:=0
def tw586037433174009397:=0
def tw5861444641527901986:=0
def tw5880131770981190503:=0
def tw5881274269943189615:=0
def tw5890758559926589428:=0
def tw5904732705421055238:=0
def tw5916843608135393074:=0
def tw592740843349879436:=0
def tw5946421725803101605:=0
def tw5975895124241922185:=0
def tw5976858365709275352:=0
def tw5994320421135985476:=0
def tw6055688078822551596:=0
def tw6068191505851689969:=0
def tw6080570846665341608:=0
def tw6107654302549170485:=0
def tw6110734386436967434:=0
def tw6110968503104742327:=0
def tw6170231232056335880:=0
def tw6171966624403632350:=0
def tw6172111119183650028:=0
def tw617461155708915096:=0
def tw6235081979401057631:=0
def tw6242031076012006286:=0
def tw625665318147737137:=0
def tw6289729953270077098:=0
def tw631043933175140538:=0
def tw6315608915286601961:=0
def tw6355330482118777354:=0
def tw6369584287364112552:=0
def tw6397181149070036755:=0
def tw6430644869265885349:=0
def tw6466141752085092155:=0
def tw6523185669104264576:=0
def tw6527148610032175722:=0
def tw6558898401635229818:=0
def tw6580815622083782044:=0
def tw6582107978298598312:=0
def tw6589471064299328802:=0
def tw6592378108367798853:=0
def tw6643143675612475819:=0
def tw6671827581402597935:=0
def tw6745142282907103659:=0
def tw6783174068541766072:=0
def tw6785729624900685601:=0
def tw6798654721349301872:=0
def tw6819771628251846363:=0
def tw6826677486338105908:=0
def tw6841049713025355882:=0
def tw6894877416617559659:=0
def tw6903304890721017028:=0
def tw6946008744793492913:=0
def tw7068524565698254600:=0
def tw7098898964476783557:=0
def tw7204892352584378140:=0
def tw7209214044661830429:=0
def tw7221005991958324273:=0
def tw7252423663660590554:=0
def tw7259303856233866192:=0
def tw7261403802448184882:=0
def tw7286151933115107110:=0
def tw7295966046776641748:=0
def tw734130078353938745:=0
def tw7360562519225893333:=0
def tw7400967445363286053:=0
def tw7406492331686672138:=0
def tw7411712894264723516:=0
def tw742450906275068198:=0
def tw747370069188680362:=0
def tw7506356147766942563:=0
def tw750877189739318995:=0
def tw7611063937536249624:=0
def tw7652010501578350564:=0
def tw7664616933934969008:=0
def tw7683237852244186195:=0
def tw7722265484294150540:=0
def tw7731262902995618317:=0
def tw7738974945088827969:=0
def tw7744649139958115454:=0
def tw7782455279998061453:=0
def tw7806217092053391952:=0
def tw787721702936213313:=0
def tw7906547033637751629:=0
def tw7989443280042152333:=0
def tw8008231178213317540:=0
def tw8027935297797508441:=0
def tw8035831865639193893:=0
def tw8048973590795830002:=0
def tw8074597697307909093:=0
def tw8078715760752293317:=0
def tw8081504051928791558:=0
def tw8096725739996028979:=0
def tw819632379814896696:=0
def tw8242153463845997083:=0
def tw8251873996681028957:=0
def tw8289705013807669818:=0
def tw8326147323524045059:=0
def tw8334256911331931286:=0
def tw839134194667895885:=0
def tw8412108922630861247:=0
def tw842765912453884584:=0
def tw8489002947356677745:=0
def tw8490731787734463769:=0
def tw8516761297114368204:=0
def tw8518085907370472801:=0
def tw8620432012546073081:=0
def tw8644798390931950973:=0
def tw8674769522208601887:=0
def tw8713167393695630017:=0
def tw8721397700660652694:=0
def tw8730020891079983173:=0
def tw8769769312052144568:=0
def tw8805343976990301277:=0
def tw8848719426169244666:=0
def tw8879521881962201751:=0
def tw8888263778582828159:=0
def tw8915531108778725252:=0
def tw8974817715905054335:=0
def tw9016744908328272548:=0
def tw905654596217997037:=0
def tw906269239992314027:=0
def tw9067408250398119256:=0
def tw9123130910361337525:=0
def tw9181795687189584156:=0
def tw9187814260208650198:=0
def tw9207305576007047899:=0
def tw923056100142471594:=0
def tw9265480387631050098:=0
def tw9294719084910575501:=0
def tw9312813329748749328:=0
def tw9379531001192514730:=0
def tw940667285262670935:=0
def tw9485802759451553104:=0
def tw948646274692935442:=0
def tw9494674761003274711:=0
def tw9502896284126110415:=0
def tw9535934039240260375:=0
def tw9568930691381577816:=0
def tw9631491215254760294:=0
def tw96577006925861987:=0
def tw9669237910413629219:=0
def tw9786596214908317849:=0
def tw9799431987170679550:=0
def tw9827048800657122968:=0
def tw9848892310194635135:=0
def tw9929070129948912033:=0
def tw9982165034944555476:=0
def tw10829181203635785964:=0
def tw16938153606744387161:=0
def tw6026589150107035924:=0
def tw32099047334601964:=0
def tw2933808066599664174:=0
def tw5799975180307635141:=0
def tw1090932382324797653:=0
def tw8508604648114703658:=0
def tw11782892312806350309:=0
def tw1833850544473536040:=0
def tw10114130909623703509:=0
def tw5374133753575156324:=0
def tw727934473738934482:=0
def tw12431325885170835413:=0
def tw18325583778218897510:=0
def tw9515898030370567213:=0
def tw14237595562410331220:=0
def tw6479537251114670043:=0
def tw12057622728487027843:=0
def tw14113644364254150970:=0
def tw13268459826446810696:=0
def tw4536717966675320301:=0
def tw10365437998847183643:=0
def tw3358940856811255629:=0
def tw17778198593056319136:=0
def tw11570541956593085996:=0
def tw5631733992227898410:=0
def tw3540192978464067954:=0
def tw6241941804258499122:=0
def tw4581668073993775964:=0
def tw5493779825915401077:=0
def tw15192506366555060605:=0
def tw14319913876506257533:=0
def tw12166361460782746172:=0
def tw10499938025256117013:=0
def tw14014214912840366460:=0
def tw5323115663061981072:=0
def tw6047433148000265207:=0
def tw1235964678553653791:=0
def tw4721745774634528340:=0
def tw2323864816983985980:=0
def tw7397399386102284411:=0
def tw5206310384026618815:=0
def tw10398633714892738113:=0
def tw17953462067449953898:=0
def tw3298083917347320880:=0
def tw11953500679345983841:=0
def tw18359132020089520591:=0
def tw16491212989594998496:=0
def tw12469015513676981638:=0
def tw4573628246683908846:=0
def tw17243144100913526205:=0
def tw6635048340634086103:=0
def tw4196355651078088276:=0
def tw8698677200938006581:=0
def tw7965702774415500251:=0
def tw17334368664144480162:=0
def tw12784065329218834652:=0
def tw4417112069019673218:=0
def tw6035737863660205467:=0
def tw7296268585492237515:=0
def tw11744419337881631546:=0
def tw4266075123827246827:=0
def tw4484468098260743587:=0
def tw4193368754623415596:=0
def tw11803699763202019386:=0
def tw15051231830566953051:=0
def tw846682456475648695:=0
def tw13860805644888579943:=0
def tw16083839809120115622:=0
def tw1878590665550850735:=0
def tw15345322615134246721:=0
def tw9506258103040774565:=0
def tw13451385479751313604:=0
def tw10664259938642800779:=0
def tw6343278948871916443:=0
def tw21871437685696193:=0
def tw2015586835891224578:=0
def tw14600116238145530381:=0
def tw5935323148122603824:=0
def tw8895697988985590856:=0
def tw10578490682803710830:=0
def tw16120021740808838598:=0
def tw13698526367679718994:=0
def tw16377096411230234465:=0
def tw2961314562625724218:=0
def tw17549585123475439564:=0
def tw189486263614656076:=0
def tw16250011176845570948:=0
def tw3822840013767408920:=0
def tw816601957581383698:=0
def tw3839643657597478453:=0
def tw9981343051751615659:=0
def tw18342146870290258281:=0
def tw4551757189105638241:=0
def tw11188520048512197153:=0
def tw17830731217744047162:=0
def tw1998314888075478049:=0
def tw603209367739277375:=0
def tw5046327834378979376:=0
def tw16413611853604025356:=0
def tw7015967560918589744:=0
def tw11307831657323676381:=0
def tw9605197620309795523:=0
def tw13499944974200152085:=0
def tw14445144435768214754:=0
def tw1149978840826008223:=0
def tw9548040254575096743:=0
def tw12020945686744287441:=0
def tw7360967721425638307:=0
def tw15262625365694656047:=0
def tw5475367233805422053:=0
def tw3740457946843301485:=0
def tw11854704079111597686:=0
def tw765477069069224577:=0
def tw10825817834247483035:=0
def tw1919088658235996947:=0
def tw11081531385240491781:=0
def tw10678605331293571980:=0
def tw9946565664121324717:=0
def tw14031780814486717345:=0
def tw6044506722086731482:=0
end PySem.W.Fast
open PySem PySem.W PyProof.Rows
set_option maxRecDepth 100000 in
set_option maxHeartbeats 0 in
theorem PySem.Challenge.cw_celltexts_s05_same_holds : PySem.Challenge.rw_celltexts_s05_same.Holds := by
 w_on;k_headS;(case hw=>exact ⟨[.list [],.list []],by decide +kernel,by decide +kernel⟩)
 k_fillS
 refine Prg.walkF rfl (fun w h Y=>PySem.W.kIn_of Y) ?F
 case F =>
  intro w mg fa h Y KX G hmg
  refine' Prg.final (D:=⟨31,342,134,69⟩) hmg ⟨?kDigit,?kWordB,?kPass,?kBytes,?kNum,?kWord,?kSpell,?kQuoted,?kSign,?kTok,?kToks,?kRToks,?kLong,?c_LINE_FEED,?c_BLANK,?c_LAST_ALLOWED,?c_QUOTE,?c_HASH,?c_ZERO,?c_NINE,?c_UNDERSCORE,?c_BACKSLASH,?c_LONGEST_WORD,?c_LONGEST_NUMBER,?c_LOWER_A,?c_FORBIDDEN_BYTE,?c_WRONG_TOKEN,?c_LONGEST_TEXT,?c_TOO_LONG,?c_LL,?n_len,?n_tuple,?n_enumerate,?tRes,?dEsc,?dOne,?dTwo,?oFault,?oToken,?kExpr,?kJoined,?kSigned,?kReached,?kReach,?kListed,?kSimple,?kBrack,?kRecord,?kFn,?kBuilt,?kBlock,?kStmts,?kStmt,?kBind,?kShow,?kIf,?kWhile,?kFor,?kSlider,?kChoice,?kGreat,?kJoins,?kWhole,?kLeaves,?kProg,?kGood,?kBr,?kDepth,?kEnd,?mLook,?mBehind,?mHere,?mMove,?mTake,?mLast,?c_DEEP_BRACKET,?c_NO_PROGRAM,?c_DEEP_PROGRAM,?c_DEEPEST_BRACKET,?c_DEEPEST_PROGRAM,?c_OR_LINE,?c_NOT_LINE,?c_COMPARED_LINE,?c_SIGNED_LINE,?n_max,?tShow,?tOpen,?tClose,?dBuilt,?dSides,?oTree,?oReader,?kPut,?kTList,?kTBytes,?kTByl,?kTParts,?kTListed,?kTStmts,?kTFields,?kTFn,?kTIn,?kTExpr,?kTStmt,?kSNum,?c_BETWEEN_TWO,?c_BUILT_IN_WORD,?c_NAMELESS_FUNCTION,?c_NAMED_FUNCTION,?c_IF_WITH_ELSE,?n_zip,?dSn,?dWn,?dOe,?dOs,?kCall,?c_NOT_GOOD,?c_THE_SAME,?c_NOT_THE_SAME⟩
  case kDigit | kWordB | kBytes | kSpell | kToks | kRToks | kLong | kExpr | kSigned | kReached | kSimple | kBrack | kRecord | kFn | kBuilt | kBlock | kStmt | kBind | kShow | kIf | kWhile | kFor | kSlider | kChoice | kGreat | kWhole | kProg | kGood | kBr | kDepth | kEnd | kPut | kTList | kTBytes | kTByl | kTParts | kTListed | kTStmts | kTFields | kTFn | kTIn | kTExpr | kTStmt | kSNum=>refine' Prg.known_mk KX G (fun _ _ _ _ _ _ us hl=>match us,hl with | [_],_=>rfl) ?a ?l ?c ?k;(case a=>k_is);(case l=>k_is);(case c=>k_is);(case k=>k_is)
  case kPass | kNum | kWord | kQuoted | kSign | kTok | kJoined | kReach | kListed | kStmts | kJoins | kLeaves | kCall=>refine' Prg.known_mk KX G (fun _ _ _ _ _ _ us hl=>match us,hl with | [_,_],_=>rfl) ?a ?l ?c ?k;(case a=>k_is);(case l=>k_is);(case c=>k_is);(case k=>k_is)
  case c_LINE_FEED | c_BLANK | c_LAST_ALLOWED | c_QUOTE | c_HASH | c_ZERO | c_NINE | c_UNDERSCORE | c_BACKSLASH | c_LONGEST_WORD | c_LONGEST_NUMBER | c_LOWER_A | c_FORBIDDEN_BYTE | c_WRONG_TOKEN | c_LONGEST_TEXT | c_TOO_LONG | c_DEEP_BRACKET | c_NO_PROGRAM | c_DEEP_PROGRAM | c_DEEPEST_BRACKET | c_DEEPEST_PROGRAM | c_OR_LINE | c_NOT_LINE | c_COMPARED_LINE | c_SIGNED_LINE | c_BETWEEN_TWO | c_BUILT_IN_WORD | c_NAMELESS_FUNCTION | c_NAMED_FUNCTION | c_IF_WITH_ELSE | c_NOT_GOOD | c_THE_SAME | c_NOT_THE_SAME=>refine' Prg.ci_mk KX G ?a;(case a=>k_is)
  case c_LL=>refine' Prg.cs_mk KX G ?a;(case a=>k_is)
  case n_len | n_tuple | n_enumerate | n_max | n_zip=>refine' PySem.W.mg_none_of KX G ?a;(case a=>k_is)
  case tRes | tShow | tOpen | tClose=>refine' Prg.ktup_mk KX G ?e ?l ?hv ?hs;(case e=>k_is);(case l=>k_is);(case hv=>decide +kernel);(case hs=>decide +kernel)
  case dEsc=>refine' Prg.kd_mk KX G ?e ?l ?ha ?hv;(case e=>k_is);(case l=>k_is);(case ha=>rfl);(case hv=>exact (And.intro (And.intro rfl (And.intro rfl rfl)) (And.intro (And.intro rfl (And.intro rfl rfl)) (And.intro (And.intro rfl (And.intro rfl rfl)) trivial))))
  case dOne=>refine' Prg.kd_mk KX G ?e ?l ?ha ?hv;(case e=>k_is);(case l=>k_is);(case ha=>rfl);(case hv=>exact (And.intro (And.intro rfl (And.intro rfl rfl)) (And.intro (And.intro rfl (And.intro rfl rfl)) (And.intro (And.intro rfl (And.intro rfl rfl)) (And.intro (And.intro rfl (And.intro rfl rfl)) (And.intro (And.intro rfl (And.intro rfl rfl)) (And.intro (And.intro rfl (And.intro rfl rfl)) (And.intro (And.intro rfl (And.intro rfl rfl)) (And.intro (And.intro rfl (And.intro rfl rfl)) (And.intro (And.intro rfl (And.intro rfl rfl)) (And.intro (And.intro rfl (And.intro rfl rfl)) (And.intro (And.intro rfl (And.intro rfl rfl)) (And.intro (And.intro rfl (And.intro rfl rfl)) (And.intro (And.intro rfl (And.intro rfl rfl)) (And.intro (And.intro rfl (And.intro rfl rfl)) (And.intro (And.intro rfl (And.intro rfl rfl)) (And.intro (And.intro rfl (And.intro rfl rfl)) (And.intro (And.intro rfl (And.intro rfl rfl)) (And.intro (And.intro rfl (And.intro rfl rfl)) (And.intro (And.intro rfl (And.intro rfl rfl)) trivial))))))))))))))))))))
  case dTwo=>refine' Prg.two_mk KX G ?e ?ha ?l ?l1 ?l2 ?l3 ?l4 ?l5;(case e=>k_is);(case l=>k_is);(case ha=>rfl);(case l1=>k_is);(case l2=>k_is);(case l3=>k_is);(case l4=>k_is);(case l5=>k_is)
  case oFault=>refine' Prg.fault_mk (C:=31) (f:=28) KX G ?a ?kc ?x ?l ?c ?k;(case a=>k_is);(case kc=>k_is);(case l=>k_is);(case c=>k_is);(case k=>k_is);(case x=>refine' Prg.xcls_mk ?l ?l2 ?zq ?ty;(case l=>k_is);(case l2=>k_is);(case zq=>rfl);(case ty=>k_is))
  case oToken=>refine' Prg.token_mk (C:=342) KX G ?a ?cl ?n1 ?n2 ?n3 ?n4 ?mk ?i ?fn ?kc ?l ?c ?k;(case a=>k_is);(case n1=>k_is);(case n2=>k_is);(case n3=>k_is);(case n4=>k_is);(case mk=>k_is);(case i=>k_is);(case fn=>k_is);(case kc=>k_is);(case l=>k_is);(case c=>k_is);(case k=>k_is);(case cl=>refine' Prg.cls_mk (C:=342) ?pg ?hd ?po ?sa;(case pg=>k_is);(case hd=>k_is);(case po=>k_is);(case sa=>k_is))
  case mLook | mBehind | mHere | mMove | mLast=>refine' Prg.knownM_mk (C:=134) (fun _ _ _ _ _ _ us hl=>match us,hl with | [_],_=>rfl) ?a ?i ?l ?c ?k;(case a=>k_is);(case i=>k_is);(case l=>k_is);(case c=>k_is);(case k=>k_is)
  case mTake=>refine' Prg.knownM_mk (C:=134) (fun _ _ _ _ _ _ us hl=>match us,hl with | [_,_],_=>rfl) ?a ?i ?l ?c ?k;(case a=>k_is);(case i=>k_is);(case l=>k_is);(case c=>k_is);(case k=>k_is)
  case dBuilt=>refine' Prg.built_mk KX G ?e ?l ?ha ?hv;(case e=>k_is);(case l=>k_is);(case ha=>rfl);(case hv=>exact (And.intro (And.intro rfl (And.intro rfl rfl)) (And.intro (And.intro rfl (And.intro rfl rfl)) (And.intro (And.intro rfl (And.intro rfl rfl)) (And.intro (And.intro rfl (And.intro rfl rfl)) (And.intro (And.intro rfl (And.intro rfl rfl)) (And.intro (And.intro rfl (And.intro rfl rfl)) (And.intro (And.intro rfl (And.intro rfl rfl)) trivial))))))))
  case dSides=>refine' Prg.sides_mk KX G [("or",1,36),("and",2,37),("==",4,38),("!=",4,39),("<",4,40),("<=",4,41),(">",4,42),(">=",4,43),("++",5,44),("+",6,45),("-",6,46),("*",7,47),("/",7,48),("percent",7,49)] rfl ?e ?l ?ha ?hv ?hr;(case e=>k_is);(case l=>k_is);(case ha=>rfl);(case hv=>exact (And.intro (And.intro rfl (And.intro rfl rfl)) (And.intro (And.intro rfl (And.intro rfl rfl)) (And.intro (And.intro rfl (And.intro rfl rfl)) (And.intro (And.intro rfl (And.intro rfl rfl)) (And.intro (And.intro rfl (And.intro rfl rfl)) (And.intro (And.intro rfl (And.intro rfl rfl)) (And.intro (And.intro rfl (And.intro rfl rfl)) (And.intro (And.intro rfl (And.intro rfl rfl)) (And.intro (And.intro rfl (And.intro rfl rfl)) (And.intro (And.intro rfl (And.intro rfl rfl)) (And.intro (And.intro rfl (And.intro rfl rfl)) (And.intro (And.intro rfl (And.intro rfl rfl)) (And.intro (And.intro rfl (And.intro rfl rfl)) (And.intro (And.intro rfl (And.intro rfl rfl)) trivial)))))))))))))));(case hr=>refine' Prg.rows_all (And.intro ⟨_,_,?r0⟩ (And.intro ⟨_,_,?r1⟩ (And.intro ⟨_,_,?r2⟩ (And.intro ⟨_,_,?r3⟩ (And.intro ⟨_,_,?r4⟩ (And.intro ⟨_,_,?r5⟩ (And.intro ⟨_,_,?r6⟩ (And.intro ⟨_,_,?r7⟩ (And.intro ⟨_,_,?r8⟩ (And.intro ⟨_,_,?r9⟩ (And.intro ⟨_,_,?r10⟩ (And.intro ⟨_,_,?r11⟩ (And.intro ⟨_,_,?r12⟩ (And.intro ⟨_,_,?r13⟩ trivial))))))))))))));(case r0=>refine' Prg.sqt_mk (vs:=[.int 1,.int 1,.int 2]) ?l ?hv ?hs;(case l=>k_is);(case hv=>decide +kernel);(case hs=>decide +kernel));(case r1=>refine' Prg.sqt_mk (vs:=[.int 2,.int 2,.int 3]) ?l ?hv ?hs;(case l=>k_is);(case hv=>decide +kernel);(case hs=>decide +kernel));(case r2=>refine' Prg.sqt_mk (vs:=[.int 4,.int 5,.int 5]) ?l ?hv ?hs;(case l=>k_is);(case hv=>decide +kernel);(case hs=>decide +kernel));(case r3=>refine' Prg.sqt_mk (vs:=[.int 4,.int 5,.int 5]) ?l ?hv ?hs;(case l=>k_is);(case hv=>decide +kernel);(case hs=>decide +kernel));(case r4=>refine' Prg.sqt_mk (vs:=[.int 4,.int 5,.int 5]) ?l ?hv ?hs;(case l=>k_is);(case hv=>decide +kernel);(case hs=>decide +kernel));(case r5=>refine' Prg.sqt_mk (vs:=[.int 4,.int 5,.int 5]) ?l ?hv ?hs;(case l=>k_is);(case hv=>decide +kernel);(case hs=>decide +kernel));(case r6=>refine' Prg.sqt_mk (vs:=[.int 4,.int 5,.int 5]) ?l ?hv ?hs;(case l=>k_is);(case hv=>decide +kernel);(case hs=>decide +kernel));(case r7=>refine' Prg.sqt_mk (vs:=[.int 4,.int 5,.int 5]) ?l ?hv ?hs;(case l=>k_is);(case hv=>decide +kernel);(case hs=>decide +kernel));(case r8=>refine' Prg.sqt_mk (vs:=[.int 5,.int 5,.int 6]) ?l ?hv ?hs;(case l=>k_is);(case hv=>decide +kernel);(case hs=>decide +kernel));(case r9=>refine' Prg.sqt_mk (vs:=[.int 6,.int 6,.int 7]) ?l ?hv ?hs;(case l=>k_is);(case hv=>decide +kernel);(case hs=>decide +kernel));(case r10=>refine' Prg.sqt_mk (vs:=[.int 6,.int 6,.int 7]) ?l ?hv ?hs;(case l=>k_is);(case hv=>decide +kernel);(case hs=>decide +kernel));(case r11=>refine' Prg.sqt_mk (vs:=[.int 7,.int 7,.int 8]) ?l ?hv ?hs;(case l=>k_is);(case hv=>decide +kernel);(case hs=>decide +kernel));(case r12=>refine' Prg.sqt_mk (vs:=[.int 7,.int 7,.int 8]) ?l ?hv ?hs;(case l=>k_is);(case hv=>decide +kernel);(case hs=>decide +kernel));(case r13=>refine' Prg.sqt_mk (vs:=[.int 7,.int 7,.int 8]) ?l ?hv ?hs;(case l=>k_is);(case hv=>decide +kernel);(case hs=>decide +kernel)))
  case oTree=>refine' Prg.tree_mk (C:=69) KX G ?a ?cl ?n1 ?n2 ?n3 ?n4 ?n5 ?n6 ?n7 ?mk ?i ?fn ?kc ?l ?c ?k;(case a=>k_is);(case n1=>k_is);(case n2=>k_is);(case n3=>k_is);(case n4=>k_is);(case n5=>k_is);(case n6=>k_is);(case n7=>k_is);(case mk=>k_is);(case i=>k_is);(case fn=>k_is);(case kc=>k_is);(case l=>k_is);(case c=>k_is);(case k=>k_is);(case cl=>refine' Prg.cls_mk (C:=69) ?pg ?hd ?po ?sa;(case pg=>k_is);(case hd=>k_is);(case po=>k_is);(case sa=>k_is))
  case oReader=>refine' Prg.reader_mk (C:=134) KX G ?a ?cl ?n1 ?n2 ?mk ?i ?fn ?kc ?l ?c ?k;(case a=>k_is);(case n1=>k_is);(case n2=>k_is);(case mk=>k_is);(case i=>k_is);(case fn=>k_is);(case kc=>k_is);(case l=>k_is);(case c=>k_is);(case k=>k_is);(case cl=>refine' Prg.cls_mk (C:=134) ?pg ?hd ?po ?sa;(case pg=>k_is);(case hd=>k_is);(case po=>k_is);(case sa=>k_is))
  case dSn | dOe=>refine' Prg.numd_mk KX G ?e ?l ?ha ?hv;(case e=>k_is);(case l=>k_is);(case ha=>rfl);(case hv=>exact (And.intro (And.intro rfl (And.intro rfl rfl)) (And.intro (And.intro rfl (And.intro rfl rfl)) (And.intro (And.intro rfl (And.intro rfl rfl)) (And.intro (And.intro rfl (And.intro rfl rfl)) (And.intro (And.intro rfl (And.intro rfl rfl)) (And.intro (And.intro rfl (And.intro rfl rfl)) (And.intro (And.intro rfl (And.intro rfl rfl)) (And.intro (And.intro rfl (And.intro rfl rfl)) (And.intro (And.intro rfl (And.intro rfl rfl)) (And.intro (And.intro rfl (And.intro rfl rfl)) (And.intro (And.intro rfl (And.intro rfl rfl)) (And.intro (And.intro rfl (And.intro rfl rfl)) (And.intro (And.intro rfl (And.intro rfl rfl)) (And.intro (And.intro rfl (And.intro rfl rfl)) trivial)))))))))))))))
  case dWn=>refine' Prg.numd_mk KX G ?e ?l ?ha ?hv;(case e=>k_is);(case l=>k_is);(case ha=>rfl);(case hv=>exact (And.intro (And.intro rfl (And.intro rfl rfl)) (And.intro (And.intro rfl (And.intro rfl rfl)) (And.intro (And.intro rfl (And.intro rfl rfl)) (And.intro (And.intro rfl (And.intro rfl rfl)) (And.intro (And.intro rfl (And.intro rfl rfl)) (And.intro (And.intro rfl (And.intro rfl rfl)) (And.intro (And.intro rfl (And.intro rfl rfl)) trivial))))))))
  case dOs=>refine' Prg.numd_mk KX G ?e ?l ?ha ?hv;(case e=>k_is);(case l=>k_is);(case ha=>rfl);(case hv=>exact (And.intro (And.intro rfl (And.intro rfl rfl)) (And.intro (And.intro rfl (And.intro rfl rfl)) (And.intro (And.intro rfl (And.intro rfl rfl)) (And.intro (And.intro rfl (And.intro rfl rfl)) (And.intro (And.intro rfl (And.intro rfl rfl)) (And.intro (And.intro rfl (And.intro rfl rfl)) (And.intro (And.intro rfl (And.intro rfl rfl)) (And.intro (And.intro rfl (And.intro rfl rfl)) (And.intro (And.intro rfl (And.intro rfl rfl)) (And.intro (And.intro rfl (And.intro rfl rfl)) (And.intro (And.intro rfl (And.intro rfl rfl)) (And.intro (And.intro rfl (And.intro rfl rfl)) (And.intro (And.intro rfl (And.intro rfl rfl)) trivial))))))))))))))
